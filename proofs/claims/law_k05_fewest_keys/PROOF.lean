import PyProof.Rows.All
import Wide.All
import OpenK.AllK
import Wide.FinOn
import Lean
import PyProof.EqAt
import PyProof.EqKinds
import PyProof.TupleCall
import PyProof.AttrMissHeap
import PyProof.CallFns
import PyProof.CallStr
import PyProof.DictTruth
import PyProof.Draws
import PyProof.EnumMake
import PyProof.FactsAll.range_2
import PyProof.ListRange
import PyProof.MeetsStr
import PyProof.P3Eq
import PyProof.Rows.CallKw2
import PyProof.Rows.CountFlat
import PyProof.Rows.FStr
import PyProof.Rows.Range3
import PyProof.Rows.StrJoin2
import PyProof.Rows.StrNews
import PyProof.Rows.ZipGen
import PyProof.SetRoads
import PyProof.StrBlockI
import PyProof.StrCalls
import PyProof.StrCalls5
import PyProof.StrOps2
import PyProof.StrWalks
import PyProof.SumAny
import PyProof.ZipIter
import PySem.Challenge.RW_signbench_k05_fewest_keys
noncomputable section
local macro_rules|`(⋯)=>`(by lia)
open PySem renaming wpAny_bind→bb,Value→bc,Shared→be,wpAny_pure→bf,wpAny→bg,starEach→bh,Expr→bi,model→bj,Program→bm,mainGlobals→bn,World→bo,wpAny_holding→bp,cellsFrom→bq,foldedSetIterable→br,wpAny_newObj_type→bt,Around→bu,assignEach→bw,Paired→bx,sysModules→bz,wpAny_mono→bA,FuncData→bB,eval→bC,wpAny_typeNameOfWhole_keyiter→bD,Obj→bE,bootBuiltins→bF,wpAny_call_entry→bG,wpAny_passesOwn→bH,compareOp→bI,wpAny_truthy_bool→bJ,backTo→bK,behindInMarks→bL,wpAny_typeNameOf_keyiter→bM,NameKind→bN,Pos→bO,binaryOp→bP,swapsWith→bQ,attributeBase→bR,wpAny_pyIter_list→bS,wpAny_specialOf→bU,letOwnedTupleGo→bV,sliceBounds→bW,wpAny_pyNext_list_item→bX,wpAny_pyNext_list_end→bY,wpAny_standAt→bZ,codeAny→ca,wpAny_execs_nil→cb,assign→cc,codeAny_builtin→cf,getItem→cg,wpAny_typeOf→cj,DictEntry→cn,pyNext→cp,wpAny_Call_Name_kw→cq,wpAny_dictEntries→cu,PassesOwn→cw,noFill_tuple_add→cx,codeAny_mono→cy,IsPart→cz,Keyword→cC,call_meets→cD,codeAny_compStart_list→cE,wpAny_dictEpoch→cF,wpAny_notOrdered_dict→cG,wpAny_isOneOf_keyiter→cH,wpAny_loadName_local→cI,subscripted→cJ,keywordEach→cK,holding→cM,valueAt→cN,callerA→cO,wpAny_loadName_cell→cP,swapsWithSole→cR,swappedStores→cS,seq_tuple_add→cT,plainId_quiet→cW,IsTupleKey→cX,Env→cY,wpAny_dictSet_heap→da,getattributeRaised→db,eqIsQuiet_byValue→de,wpAny_assign_Name→df,BindsTo→dg,concat_meets→dh,wpAny_sequenceKey→di,seqIndex_neg→dj,atKey→dk,ItemsOf→dl,eqIsQuiet→dm,wpAny_isInstance→dn,wpAny_forIn_list→dq,wpAny_execs_cons→dr,rawInt→du,typeOf→dv,wpAny_Dict_empty→dw,sizeLine_eq→dy,wpAny_field→dz,seqIndex_of→dA,reduceHash→dE,wpAny_rule→dF,builtinsNs→dG,wpAny_Name→dH,Operator→dI,wpAny_load→dJ,CmpOp→dM,bindL→dN,bindC→dO,typeLookup→dP,backToKw→dR,storeName→dS,isTrue→dU,pyIter→dW,Result→dX,Model→dY,Sem→fb,sizeLine→qg
open PyProof.Rows renaming seqObj→bT,AllBare→cr,subscriptTail_builtinR→cB,entry_tuple_getitem→cQ,subscriptTail→cU,args_tuple_getitem→cZ,IntsAre→dB,Subscript_→dQ,IsTup→dZ
open PySem.W renaming kas_rev→cm,kas_sort→cL
set_option linter.defProp false
set_option bootstrap.genMatcherCode false
set_option genSizeOf false
local macro_rules|`(tactic|erw[$[$e:term],*]$[$l:location]?)=>`(tactic|simp only[$[$e:term],*]$[$l:location]?)
open List renaming mem_append_right→i4,mem_cons_of_mem→i5,map_cons→i7,mem_append_left→i8,length_map→l0,mem_append→l4,mem_map→l5,mem_cons_self→l6,append_nil→l7,mem_cons→m3,mem_singleton→m4,length_append→m5,not_mem_nil→m8,size_toArray→m9,map_append→t5,map_nil→t7,take_of_length_le→t9,append_assoc→A3,length_cons→A4,length_take→A5,take_add_one→A6,getElem_mem→A9,nil_append→B0,lookup_cons→B5,map_map→B7,replicate→B8,nodup_cons→C0,eq_nil_of_length_eq_zero→C1,length_drop→C2,reverse_cons→C3,cons_append→C4,length_nil→C8,exists_cons_of_length_eq_add_one→D0,map_congr_left→D2,length_singleton→D3,length_filter_le→D4,range→D5,drop_eq_nil_of_le→D7,foldl_append→D9,mem_filter→E1,pairwise_iff_getElem→E3,drop_append_of_le_length→E5,zipWith_cons_cons→E6,length→E7,take_length→E9,set_cons_zero→F2,set_cons_succ→F3,filter_append→F4,mem_of_mem_take→F8,forall_mem_cons→F9,pairwise_map→I0,take_append_drop→L3,nodup_append→L6,drop_zero→L7,Nodup→L8,length_reverse→M8,take_succ_cons→M9,getElem_of_mem→N0,foldl_cons→N4,pairwise_cons→N5,nodup_nil→N6,append_eq_nil_iff→N7,any_eq_false→N9,reverse_nil→O0,isEmpty_nil→O2,any_cons→O3,reverse_reverse→O4,getElem_zipWith→O5,take_append_of_le_length→O6,pairwise_append→O7,nil_suffix→O9,filterMap_cons→P2,drop_succ_cons→P3,reverse_append→P4,filter_eq_self→P5,zipWith→P8,mem_range→P9,lookup_append→R1,suffix_append→R3,drop_drop→R4,drop_eq_getElem_cons→R5,mem_take_iff_getElem→R6,length_range→R7,map_take→R9,map_reverse→S2,any_eq_true→S3,pairwise_singleton→S4,cons_ne_nil→S5,any_map→S7,length_eq_one_iff→S8,of_mem_zip→T1,length_replicate→T3,lookup→T5,drop_eq_nil_iff→T6,replicate_succ→T7,take_nil→u02,mem_filterMap→u03,filter_congr→u08,isEmpty_cons→u0a,all_eq_true→u0b,mem_flatten→u0e,filter_cons→u0f,forIn_cons→u0g,map→u0l
open Nat renaming le_refl→i6,lt_of_lt_of_le→A2,lt_succ_self→B2,ne_of_lt→B3,zero_le→B9,le_trans→C7,le_of_ble_eq_true→D1,lt_irrefl→D8,lt_or_eq_of_le→F6,le_of_succ_le→F7,lt_succ_of_lt→L5,le_of_lt→L9,min_eq_left→N3,zero_add→N8,min_eq_right→O1,not_lt_zero→P1,ne_of_gt→P6,lt_or_ge→P7,not_lt→R0,add_assoc→R8,min_le_right→S0,le_of_not_lt→S1,le_total→T0,reduceAdd→T9,reduceSub→u00,lt_trans→u06,le_succ_of_le→u07,le_of_lt_succ→u09,succ_le_succ→u0d,min_le_left→u0h,le_of_eq→u0k
open Option renaming map_some→i9,toList_some→A8,getD_some→B4,map→B6,map_none→C9,map_eq_some_iff→L0,getD_none→M7,isSome_some→u04,isSome_map→u05,elim→u0m
open Bool renaming false_eq_true→t8,and_eq_true→A7,false_ne_true→C6,not_true→D6,not_false→E4,true_and→E8,false_or→N1,and_true→N2,eq_iff_iff→O8,true_or→S6,or_eq_true→T2,false_and→T4,and_self→T8,noConfusion→u0c,and_false→u0j
open Int renaming emod_lt_of_pos→F5,emod_nonneg→L1,toNat_natCast→L4,zero_add→S9,reduceBEq→u01,natCast_add→u0i
set_option Elab.async false
set_option linter.all false
set_option maxRecDepth 100000
set_option maxHeartbeats 4000000
theorem qy{c:Prop}{h:Decidable c}(k:c):ite c a b=a:=if_pos k
theorem qh{c:Prop}{h:Decidable c}(k: ¬c):ite c a b=b:=if_neg k
namespace L2
open PySem PySem.Spec PyProof.Rows
abbrev Key:=Sum Int Str
def z6V:Key->bc->Bool
 | .inl k,v=>Value.isInt k v
 | .inr x,v=>Value.isStrOf x v
def zlz(w:bo):Key->Int
 | .inl k=>hashInt k
 | .inr x=>hashStr w x
def Q9: ∀{k:Key} {v:bc},z6V k v=true->(∃i t,k=Sum.inl i/\v=Value.int i t)\/(∃x t,k=Sum.inr x/\v=Value.str x t)
 | .inl i,v,h=>by
  obtain⟨t,e⟩:=Value.isInt_shape (k:=i) (v:=v) h
  exact .inl ⟨i,t,rfl,e⟩
 | .inr x,v,h=>by
  obtain⟨t,e⟩:=Value.isStrOf_shape (x:=x) (v:=v) h
  exact .inr ⟨x,t,rfl,e⟩
def z9u i(t:Tok):z6V (.inl i) (.int i t)=true:=by simp[z6V,Value.isInt]
def z9v x(t:Tok):z6V (.inr x) (.str x t)=true:=by simp[z6V,Value.isStrOf]
def zgk a b:decide ((Sum.inl a:Key)=Sum.inl b)=(a==b):=by
 by_cases e:a=b
 .subst e;simp
 .have h: ¬(Sum.inl a:Key)=Sum.inl b:=λq=>e (Sum.inl.inj q)
  rw[decide_eq_false h]
  exact(beq_eq_false_iff_ne.mpr e).symm
def zgl a b:decide ((Sum.inr a:Key)=Sum.inr b)=decide (a=b):=by
 by_cases e:a=b
 .subst e;simp
 .have h: ¬(Sum.inr a:Key)=Sum.inr b:=λq=>e (Sum.inr.inj q)
  rw[decide_eq_false h,decide_eq_false e]
def zgm a b:decide ((Sum.inl a:Key)=Sum.inr b)=false:=decide_eq_false (λq=>nomatch q)
def zgn a b:decide ((Sum.inr a:Key)=Sum.inl b)=false:=decide_eq_false (λq=>nomatch q)
def Q0 prog w:PySem.KeyKind prog w Key where
 is:=z6V
 hash:=zlz w
 inj:=λv a b ha hb=>by
  rcases Q9 ha with⟨i,t,rfl,rfl⟩|⟨x,t,rfl,rfl⟩
  .rcases Q9 hb with⟨j,u,rfl,e⟩|⟨y,u,rfl,e⟩
   .injection e with e1 _;rw[e1]
   .exact nomatch e
  .rcases Q9 hb with⟨j,u,rfl,e⟩|⟨y,u,rfl,e⟩
   .exact nomatch e
   .injection e with e1 _;rw[e1]
 byValue:=λk v h=>by
  rcases Q9 h with⟨i,t,rfl,rfl⟩|⟨x,t,rfl,rfl⟩<;>rfl
 pyHash:=λhv h=>by
  rcases Q9 hv with⟨i,t,rfl,rfl⟩|⟨x,t,rfl,rfl⟩
  .exact wpAny_pyHash_int h
  .exact wpAny_pyHash_str h
 eqBool:=λhu hv h=>by
  rcases Q9 hu with⟨i,t,rfl,rfl⟩|⟨x,t,rfl,rfl⟩
  .rcases Q9 hv with⟨j,u,rfl,rfl⟩|⟨y,u,rfl,rfl⟩
   .rw[zgk] at h;exact wpAny_eqBool_int h
   .rw[zgm] at h;exact SeqAt.EqAt.int_str i t y u _ _ _ _ h
  .rcases Q9 hv with⟨j,u,rfl,rfl⟩|⟨y,u,rfl,rfl⟩
   .rw[zgn] at h;exact SeqAt.EqAt.str_int x t j u _ _ _ _ h
   .rw[zgl] at h;exact wpAny_eqBool_str h
 «strs» :=λk x t v h=>by
  rcases Q9 h with⟨i,u,rfl,e⟩|⟨y,u,rfl,e⟩
  .exact nomatch e
  .injection e with e1 _
   subst e1
   cases v<;>rfl
def z8G prog w(k:Key) v:(Q0 prog w).is k v=z6V k v:=rfl
def z6W prog w i(t:Tok):(Q0 prog w).is (.inl i) (.int i t)=true:=z9u i t
def z6X prog w x(t:Tok):(Q0 prog w).is (.inr x) (.str x t)=true:=z9v x t
inductive V where
 |non|bl (b:Bool)|int (i:Int)|str (x:Str)|byt (b:Array UInt8)|flt (b:UInt64)|ref (a:Addr)|ty (n:String)
 deriving DecidableEq
def RelV:V->bc->Prop
 | .non,u=>u=Value.none
 | .bl b,u=>u=Value.bool b
 | .int i,u=> ∃t,u=Value.int i t
 | .str x,u=> ∃t,u=Value.str x t
 | .byt b,u=> ∃t,u=Value.bytes b t
 | .flt b,u=> ∃t,u=Value.float b t
 | .ref a,u=>u=Value.ref a
 | .ty n,u=>u=Value.type n
abbrev U5:List V->List bc->Prop:=bx RelV
def U5.length{xs:List V}{us:List bc}(r:U5 xs us):xs.length=us.length:=Paired.length r
theorem U5.get: ∀{xs:List V} {us:List bc} {i:Nat} {x:V},U5 xs us->xs[i]? =some x->∃u,us[i]? =some u/\RelV x u
 |_,_,_,_, .nil,e=>by simp at e
 |_,_,0,_, .cons r _,e=>by simp at e;subst e;exact⟨_,rfl,r⟩
 |_,_,i+1,x, .cons _ t,e=>by
  obtain⟨u,h1,h2⟩:=U5.get (i:=i) (x:=x) t (by simpa using e)
  exact⟨u,by simpa using h1,h2⟩
theorem U5.set(r:RelV x u): ∀{xs:List V} {us:List bc} (i:Nat),U5 xs us->U5 (xs.set i x) (us.set i u)
 |_,_,_, .nil=> .nil
 |_,_,0, .cons _ t=> .cons r t
 |_,_,i+1, .cons q t=> .cons q (U5.set r i t)
theorem U5.append: ∀{xs ys:List V} {us ws:List bc},U5 xs us->U5 ys ws->U5 (xs++ys) (us++ws)
 |_,_,_,_, .nil,s=>s
 |_,_,_,_, .cons r t,s=> .cons r (U5.append t s)
theorem U5.take: ∀{xs:List V} {us:List bc} (n:Nat),U5 xs us->U5 (xs.take n) (us.take n)
 |_,_,0,_=> .nil
 |_,_,_+1, .nil=> .nil
 |_,_,n+1, .cons r t=> .cons r (U5.take n t)
theorem U5.drop: ∀{xs:List V} {us:List bc} (n:Nat),U5 xs us->U5 (xs.drop n) (us.drop n)
 |_,_,0,r=>r
 |_,_,_+1, .nil=> .nil
 |_,_,n+1, .cons _ t=>U5.drop n t
def RelO:Option V->Option bc->Prop
 |some v,some u=>RelV v u
 |none,none=>True
 |_,_=>False
def KV{κ:Type}:List (κ×V)->List (κ×bc)->Prop:=bx λ(p:κ×V) (q:κ×bc)=>p.1=q.1/\RelV p.2 q.2
def kV:Key->V
 | .inl i=> .int i
 | .inr x=> .str x
theorem Paired.mapP{α β:Type}{F G:α->β->Prop}: ∀{l₁:List α} {l₂:List β},bx F l₁ l₂->(∀a b,F a b->G a b)->bx G l₁ l₂
 |_,_, .nil,_=> .nil
 |_,_, .cons r t,f=> .cons (f _ _ r) (Paired.mapP t f)
abbrev NK:=List (Key⊕List Key)
section
variable(P:bm)(w:bo)
def ItN(h:Heap):Key⊕List Key->bc->Prop
 | .inl k,v=>(Q0 P w).is k v=true
 | .inr ks,v=> ∃c,v= .ref c/\cX (Q0 P w) h ks c
def IsN(h:Heap)(k:NK)(a:Addr):Prop:= ∃o qv n,h.get? a=some o/\o.cls= .type "tuple" /\o.data= .seq qv n/\bx (ItN P w h) k qv.toList
def hsN:Key⊕List Key->Int
 | .inl k=>(Q0 P w).hash k
 | .inr ks=>tupleKeyHash (Q0 P w) ks
def drN:Key⊕List Key->Nat
 | .inl _=>1
 | .inr ks=>ks.length+1
end
section
variable{P:bm}{w:bo}{h:Heap}
def ze3(hx:ItN P w h x v)(hy:ItN P w h y v):x=y:=by
 cases x with
 |inl k=>
  cases y with
  |inl k'=>rw[(Q0 P w).inj v k k' hx hy]
  |inr ks=>obtain⟨c,rfl,_⟩:=hy;have:=(Q0 P w).byValue _ _ hx;simp[carriedByValue] at this
 |inr ks=>
  obtain⟨c,rfl,hc⟩:=hx
  cases y with
  |inl k'=>have:=(Q0 P w).byValue _ _ hy;simp[carriedByValue] at this
  |inr ks'=>obtain⟨c',e,hc'⟩:=hy;cases e;rw[hc.inj hc']
theorem z4P: ∀{x y:NK} {vs:List bc},bx (ItN P w h) x vs->bx (ItN P w h) y vs->x=y
 |_,_,_, .nil, .nil=>rfl
 |_,_,_, .cons a b, .cons c d=>by rw[ze3 a c,z4P b d]
variable{A:bu}{E:bc->be->Prop}{s:be}
def z5K{o:bE}{qv:Array bc}{n m:Nat}{Q:Bool->be->Prop}(ho:s.heap.get? a=some o)(hc:o.cls= .type "tuple")(hd:o.data= .seq qv n)(hi: ∀v∈qv.toList,∀(R:Bool->be->Prop) E,R true s->bg M A (dm m v) R E s)(q:Q true s):bg M A (dm (m+1) (.ref a)) Q E s:=by
 have hT:s.TypeIs (.ref a) "tuple" :=⟨o,ho,hc⟩
 rw[dm]
 refine bb (bU hT PySem.F.slot_tuple_eq.lookup ?_)
 dsimp only
 refine bb (dn hT isSubtype_tuple_tuple ?_)
 rw[qh (by decide)]
 refine bb (wpAny_seqItems ho hd ?_)
 refine bb ?_
 dsimp only[B4]
 rw[<-Array.forIn_toList]
 refine dq _ (λr b s'=>b.1=none/\s'=s/\∀v∈r,v∈qv.toList) _ ?_ ?_ _ _ ⟨rfl,rfl,λv hv=>hv⟩
 .rintro v r b s' ⟨_,rfl,hm⟩
  refine bb (hi v (hm v l6) _ _ ?_)
  rw[qh (by decide)]
  exact bf ⟨rfl,rfl,λu hu=>hm u (i5 _ hu)⟩
 .rintro ⟨b1,b2⟩ s' ⟨hb,rfl,_⟩
  dsimp only at hb
  subst hb
  exact bf q
theorem z5L: ∀{ks:List Key} {vs:List bc},ItemsAre (Q0 P w) ks vs->ItemsAre (Q0 P' w') ks vs
 |_,_, .nil=> .nil
 |_,_, .cons a b=> .cons a (z5L b)
def z9w(hk:cX (Q0 P w) h ks c):cX (Q0 P' w') h ks c:=by
 obtain⟨o,qv,n,h1,h2,h3,h4⟩:=hk
 exact⟨o,qv,n,h1,h2,h3,z5L h4⟩
def zgo(hu:A.units<cLine)(hx:ItN P w s.heap x u)(hy:ItN P w s.heap y v):SeqAt.EqAt A s u v (decide (x=y)):=λprog w' E Q q=>by
 cases x with
 |inl k=>
  cases y with
  |inl k'=>exact(Q0 prog w').eqBool (a:=k) (b:=k') hx hy (by rw[show decide (k=k')=decide ((Sum.inl k:Key⊕List Key)=Sum.inl k') by by_cases e:k=k'<;>simp[e]];exact q)
  |inr ks=>
   obtain⟨c,rfl,o,qv,n,h1,h2,h3,_⟩:=hy
   rw[decide_eq_false (λe=>nomatch e)] at q
   rcases Q9 hx with⟨i,t,rfl,rfl⟩|⟨z,t,rfl,rfl⟩
   .exact SeqAt.EqAt.int_tuple i t ⟨o,h1,h2,n,h3⟩ hu prog w' E Q q
   .exact SeqAt.EqAt.str_tuple z t ⟨o,h1,h2,n,h3⟩ hu prog w' E Q q
 |inr ks=>
  obtain⟨c,rfl,hc⟩:=hx
  cases y with
  |inl k'=>
   obtain⟨o,qv,n,h1,h2,h3,_⟩:=hc
   rw[decide_eq_false (λe=>nomatch e)] at q
   rcases Q9 hy with⟨i,t,rfl,rfl⟩|⟨z,t,rfl,rfl⟩
   .exact SeqAt.EqAt.tuple_int i t ⟨o,h1,h2,n,h3⟩ hu prog w' E Q q
   .exact SeqAt.EqAt.tuple_str z t ⟨o,h1,h2,n,h3⟩ hu prog w' E Q q
  |inr ks'=>
   obtain⟨c',rfl,hc'⟩:=hy
   refine wpAny_eqBool_tuple (knd:=Q0 prog w') hu (z9w hc) (z9w hc') ?_
   rw[show decide (ks=ks')=decide ((Sum.inr ks:Key⊕List Key)=Sum.inr ks') by by_cases e:ks=ks'<;>simp[e]];exact q
def ze4{α:Type}[DecidableEq α](x y:List α):((D5 (min x.length y.length)).all (λj=>decide (x[j]? =y[j]?))&&x.length==y.length)=decide (x=y):=by
 rw[O8]
 erw[A7,u0b,P9,decide_eq_true_eq,beq_iff_eq]
 constructor
 .rintro ⟨h1,h2⟩
  apply List.ext_getElem?
  intro j
  by_cases hj:j<x.length
  .exact h1 j ⋯
  .rw[List.getElem?_eq_none ⋯,List.getElem?_eq_none ⋯]
 .rintro rfl;exact⟨λ_ _=>rfl,rfl⟩
theorem Paired.get2{α β:Type}{F:α->β->Prop}: ∀{l:List α} {m:List β},bx F l m->∀j (h1:j<l.length) (h2:j<m.length),F l[j] m[j]
 |_,_, .cons a b,0,_,_=>a
 |_,_, .cons a b,j+1,h1,h2=>Paired.get2 b j (by simpa using h1) (by simpa using h2)
def zgp{Q:Bool->be->Prop}(hu:A.units+1<cLine)(hx:IsN P w s.heap x a)(hy:IsN P w s.heap y b)(q:Q (decide (x=y)) s):bg (bj P w) A (eqBool (.ref a) (.ref b)) Q E s:=by
 by_cases e:a=b
 .subst e
  obtain⟨o,qv,n,h1,h2,h3,h4⟩:=hx
  obtain⟨o',items',n',k1,k2,k3,k4⟩:=hy
  obtain rfl:o=o':=Option.some.inj (h1.symm.trans k1)
  rw[h3] at k3
  injection k3 with k3 _
  subst k3
  obtain rfl:=z4P h4 k4
  exact SeqAt.EqAt.same _ P w E Q (by simpa using q)
 .obtain⟨o,qv,n,h1,h2,h3,h4⟩:=hx
  obtain⟨o',items',n',k1,k2,k3,k4⟩:=hy
  have l1:x.length=qv.size:=by have:=Paired.length h4;simpa using this
  have l2:y.length=items'.size:=by have:=Paired.length k4;simpa using this
  refine SeqAt.EqAt.of_refs e (SeqAt.RcAt.tuples (e:=λj=>decide (x[j]? =y[j]?)) ⟨o,h1,h2,n,h3⟩ ⟨o',k1,k2,n',k3⟩ ⋯ λj j1 j2=> ?_) P w E Q ?_
  .have:=zgo (A:=A.in1) (show A.units+1<cLine from hu) (Paired.get2 h4 j ⋯ (by simpa using j1)) (Paired.get2 k4 j ⋯ (by simpa using j2))
   rw[List.getElem?_eq_getElem ⋯,List.getElem?_eq_getElem ⋯]
   simpa using this
  .rw[<-l1,<-l2,ze4];exact q
def zbL{Q:Int->be->Prop}(hu:A.units<cLine)(hk:ItN P w s.heap k v)(q:Q (hsN P w k) {s with toks:=s.toks+drN k}):bg (bj P w) A (pyHash v) Q E s:=by
 cases k with
 |inl k=>exact(Q0 P w).pyHash hk q
 |inr ks=>obtain⟨c,rfl,hc⟩:=hk;exact wpAny_pyHash_tuple hu hc q
def zbM{k:NK}{Q:Int->be->Prop}(hu:A.units+1<cLine)(hk:IsN P w s.heap k a)(q:Q (dE (Builtin.Tuple.tupleHashOf (k.map (hsN P w)))) {s with toks:=s.toks+((k.map drN).sum+1)}):bg (bj P w) A (pyHash (.ref a)) Q E s:=by
 obtain⟨o,qv,n,ho,hc,hd,hi⟩:=hk
 have hT:s.TypeIs (.ref a) "tuple" :=⟨o,ho,hc⟩
 delta pyHash
 delta pyHashByItsType
 refine bb (wpAny_cRoomFor_or (.inr ⋯) ?_)
 refine bb (bU hT PySem.F.slot_tuple_hash.lookup ?_)
 rw[qh (show ¬(some (Value.builtin "tuple.__hash__")==some Value.none)=true by rw[beq_builtin_none];decide)]
 refine bb (bU hT PySem.F.slot_tuple_hash.lookup ?_)
 refine bb (wpAny_callSpecialIfBoundUnlessNone?_slot hT PySem.F.slot_tuple_hash (bG PySem.F.slot_tuple_hash hT PySem.F.entry_tuple_hash ?_ (PySem.F.args_tuple_hash_1 _)))
 change bg _ A.in1 (Builtin.Tuple.tupleItemsOf (Value.ref a)>>=_) _ _ s
 refine bb (wpAny_tupleItemsOf ho hd (bb ?_))
 rw[<-Array.forIn_toList]
 refine dq _ (λr (b:Array Int) s'=> ∃d l,k=d++l/\bx (ItN P w s.heap) l r/\b.toList=d.map (hsN P w)/\s'={s with toks:=s.toks+(d.map drN).sum}) _ ?_ ?_ _ _ ⟨[],k,rfl,hi,rfl,rfl⟩
 .rintro x r b s' ⟨d,l,rfl,hl,hb,rfl⟩
  cases hl with
  | @cons z _ l' _ h1 hl'=>
   refine bb (zbL (A:=A.in1) (s:={s with toks:=s.toks+(d.map drN).sum}) (show A.units+1<cLine from hu) h1 ?_)
   have fin: ∃d' l2,d++z::l'=d'++l2/\bx (ItN P w s.heap) l2 r/\(b.push (hsN P w z)).toList=d'.map (hsN P w)/\({s with toks:=s.toks+(d.map drN).sum+drN z}:be)={s with toks:=s.toks+(d'.map drN).sum}:=⟨d++[z],l',by simp,hl',by simp[hb],by simp[R8]⟩
   exact bf fin
 .rintro b s' ⟨d,l,rfl,hl,hb,rfl⟩
  cases hl
  rw[l7] at q
  change bg _ A.in1 (retInt (Builtin.Tuple.tupleHashOf b.toList)) _ _ _
  rw[hb]
  refine wpAny_ret_mkInt ?_
  delta dE at q
  show bg _ _ (if(decide (-(2:Int)^63<=Builtin.Tuple.tupleHashOf (d.map (hsN P w)))&&decide (Builtin.Tuple.tupleHashOf (d.map (hsN P w))<2^63))=true then _ else _) Q E _
  split
  .rename_i hr
   rw[qy hr] at q
   exact bf (by simpa[R8] using q)
  .rename_i hr
   rw[qh hr] at q
   exact bb (dF (bf (by simpa[R8] using q)))
def z9x{Q:Bool->be->Prop}(hk:IsN P w s.heap k a)(q:Q true s):bg (bj P w) A (dm 8 (.ref a)) Q E s:=by
 obtain⟨o,qv,n,h1,h2,h3,h4⟩:=hk
 refine z5K h1 h2 h3 (λv hv R E' r=> ?_) q
 have all: ∀{k:NK} {vs:List bc},bx (ItN P w s.heap) k vs->∀v∈vs,∃z,ItN P w s.heap z v:=by
  intro k vs p
  induction p with
  |nil=>intro v hv;cases hv
  |cons a b ih=>
   intro v hv
   rcases m3.mp hv with rfl|hv
   .exact⟨_,a⟩
   .exact ih v hv
 obtain⟨z,hz⟩:=all h4 v hv
 cases z with
 |inl k=>rw[de _ ((Q0 P w).byValue _ _ hz)];exact bf r
 |inr ks=>
  obtain⟨c,rfl,o,qv,n,h1,h2,h3,h4⟩:=hz
  exact z5K h1 h2 h3 (λv hv R E' r=>by rw[de _ (h4.byValue v hv)];exact bf r) r
def z9y{o:bE}{ep:Nat}(ho:h.get? d=some o)(hd:o.data= .dict es ep)(hs:Heap.SameBut d h h'): ∀{k:NK} {vs:List bc},bx (ItN P w h) k vs->bx (ItN P w h') k vs:=λp=>Paired.mapP p λz v q=>by
 cases z with
 |inl k=>exact q
 |inr ks=>obtain⟨c,rfl,hc⟩:=q;exact⟨c,rfl,hc.keeps ho hd hs⟩
end
def U7 P w:HeapKind P w NK where
 is:=IsN P w
 hash:=λk=>dE (Builtin.Tuple.tupleHashOf (k.map (hsN P w)))
 draws:=λk=>(k.map drN).sum+1
 room:=λA=>A.units+1<cLine
 inj:=λ⟨o,qv,n,h1,_,h3,h4⟩ ⟨o',items',n',k1,_,k3,k4⟩=>by
  obtain rfl:o=o':=Option.some.inj (h1.symm.trans k1)
  rw[h3] at k3
  injection k3 with k3 _
  subst k3
  exact z4P h4 k4
 keeps:=λ{h h' k a d o es ep} ⟨o',qv,n,h1,h2,h3,h4⟩ ho hd hs=>by
  have hne:a≠d:=by
   rintro rfl
   obtain rfl:o'=o:=Option.some.inj (h1.symm.trans ho)
   rw[hd] at h3;cases h3
  exact⟨o',qv,n,(hs.2 a hne).trans h1,h2,h3,z9y ho hd hs h4⟩
 pyHash:=λhu hk q=>zbM hu hk q
 eqBool:=λhu hx hy q=>zgp hu hx hy q
 quiet:=λhk q=>z9x hk q
def z2d{A:bu}(hu:A.units+2<cLine):(U7 P w).room A.in1:=hu
inductive HO where
 |lst (xs:List V)
 |tup (xs:List V)
 |dK (kvs:List (Key×V))|dT (kvs:List (NK×V))
 |set (S:Int->Bool) (n:Nat)
 |ins (C dx:Addr) (fs:List (Str×V))
 |own (x:Addr)
 |xd (fs:List (Str×V))
 |met (f x:Addr)
 |rng (lo hi:Int)
 |frz (o:bE) (u:HO)
 |tbl (ps:Array bc)
 |ext (φ:Heap->Prop)
abbrev Hp:=Addr->Option HO
def upd(H:Hp)(a:Addr)(o:HO):Hp:=λb=>if b=a then some o else H b
def Z3:upd H a o a=some o:=by delta upd;rw[qy rfl]
def Z5(h:b≠a):upd H a o b=H b:=by delta upd;rw[qh h]
def z0Z{H:Hp}{a b:Addr}{o u:HO}(h:H a=some o)(h':H b=some u)(d:o≠u):a≠b:=by
 intro e;subst e;rw[h] at h';exact d (Option.some.inj h')
def U4{H:Hp}{a b:Addr}{o:HO}(h:H a=some o)(h':H b=none):a≠b:=by
 intro e;subst e;rw[h] at h';cases h'
def TKi(H:Hp):Key⊕List Key->V->Prop
 | .inl k,x=>x=kV k
 | .inr ks,x=> ∃c,x= .ref c/\H c=some (.tup (ks.map kV))
def TK(H:Hp)(k:NK)(b:Addr):Prop:= ∃xs,H b=some (.tup xs)/\bx (TKi H) k xs
def TK.stay(ht: ∀b xs,H b=some (.tup xs)->H' b=some (.tup xs))(h:TK H k b):TK H' k b:=by
 obtain⟨xs,h1,h2⟩:=h
 refine⟨xs,ht _ _ h1,Paired.mapP h2 λz x q=> ?_⟩
 cases z with
 |inl k=>exact q
 |inr ks=>obtain⟨c,e,q⟩:=q;exact⟨c,e,ht _ _ q⟩
section
variable(P:bm)(w:bo)
def K3(H:Hp)(h:Heap)(a:Addr):HO->Prop
 | .lst xs=>xs.length<=qg/\∃(its:List bc) (n:Nat),U5 xs its/\h.get? a=some {cls:= .type "list",data:= .seq its.toArray n}
 | .tup xs=>xs.length<=qg/\∃its:List bc,U5 xs its/\dZ h a its.toArray
 | .dK kvs=>kvs.length<=qg/\(a==bz)=false/\∃vs,KV kvs vs/\h.DictOf (Q0 P w) a vs
 | .dT kvs=>kvs.length<=qg/\(a==bz)=false/\∃xs:List (NK×Addr×bc),
  bx (λ(p:NK×V) (q:NK×Addr×bc)=>p.1=q.1/\TK H p.1 q.2.1/\RelV p.2 q.2.2) kvs xs/\
  ∃o es ep,h.get? a=some o/\o.ExactDict/\o.data= .dict es ep/\es.toList=xs.map (entryOfKey (U7 P w))/\(xs.map (·.1)).Nodup
 | .set S n=>h.SetOf (intKind P w) a S n
 | .ins C dx fs=>H dx=some (.own a)/\fs.length<=1000/\dx≠a/\h.get? a=some (W.instObj C dx)/\
  ∃mA,h.Ns1 dx mA/\(∀f,RelO (fs.lookup f) (mA f))/\PySem.Within mA (fs.map (·.1))
 | .own _=> ∃o,h.get? a=some o
 | .xd fs=> ∃mA,h.Ns1 a mA/\∀f,RelO (fs.lookup f) (mA f)
 | .rng lo hi=> ∃t u v,h.get? a=some {cls:= .type "range",data:= .fields #[.int lo t, .int hi u, .int 1 v]}
 | .frz o u=>h.get? a=some o/\K3 H h a u
 | .tbl ps=>h.get? a=some {cls:= .none,data:= .fields ps}
 | .met f x=>h.get? a=some (W.methodObj (.ref f) (.ref x))
 | .ext φ=>φ h/\(∃o,h.get? a=some o)/\∀h1 h2:Heap,φ h1->(∀o,h1.get? a=some o->h2.get? a=some o)->φ h2
def HOk(H:Hp)(h:Heap):Prop:= ∀a o,H a=some o->K3 P w H h a o
end
section
variable{P:bm}{w:bo}{H H':Hp}{h h':Heap}{a:Addr}{o:HO}
def K3.lt(x:K3 P w H h a o):a<h.objs.size:=by
 cases o with
 |lst xs=>obtain⟨_,_,_,_,e⟩:=x;exact Heap.lt_size e
 |tup xs=>obtain⟨_,_,_,p⟩:=x;exact p.lt
 |dK kvs=>obtain⟨_,_,_,_,o,_,_,e,_⟩:=x;exact Heap.lt_size e
 |dT kvs=>obtain⟨_,_,_,_,o,_,_,e,_⟩:=x;exact Heap.lt_size e
 |set S n=>obtain⟨o,_,_,_,e,_⟩:=x;exact Heap.lt_size e
 |ins C dx fs=>obtain⟨_,_,_,e,_⟩:=x;exact Heap.lt_size e
 |own y=>obtain⟨_,e⟩:=x;exact Heap.lt_size e
 |xd fs=>obtain⟨_,⟨_,_,_,e,_⟩,_⟩:=x;exact Heap.lt_size e
 |rng lo hi=>obtain⟨_,_,_,e⟩:=x;exact Heap.lt_size e
 |frz ob u=>obtain⟨e,_⟩:=x;exact Heap.lt_size e
 |tbl ps=>exact Heap.lt_size (show h.get? a=some _ from x)
 |met f y=>exact Heap.lt_size (show h.get? a=some _ from x)
 |ext φ=>obtain⟨_,⟨_,e⟩,_⟩:=x;exact Heap.lt_size e
def K3.stay(x:K3 P w H h a o)(k: ∀b u,(b=a\/H b=some (.own a))->h.get? b=some u->h'.get? b=some u)
 (ho: ∀b,H b=some (.own a)->H' b=some (.own a)) (ht: ∀b xs,H b=some (.tup xs)->H' b=some (.tup xs)):K3 P w H' h' a o:=by
 induction o with
 |lst xs=>obtain⟨z,its,n,r,e⟩:=x;exact⟨z,its,n,r,k _ _ (.inl rfl) e⟩
 |tup xs=>obtain⟨z,its,r,ob,e,c⟩:=x;exact⟨z,its,r,ob,k _ _ (.inl rfl) e,c⟩
 |dK kvs=>obtain⟨z,y,vs,r,ob,es,ep,e,c⟩:=x;exact⟨z,y,vs,r,ob,es,ep,k _ _ (.inl rfl) e,c⟩
 |dT kvs=>
  obtain⟨z,y,xs,r,ob,es,ep,e,c⟩:=x
  exact⟨z,y,xs,Paired.mapP r λp q z=>⟨z.1,z.2.1.stay ht,z.2.2⟩,ob,es,ep,k _ _ (.inl rfl) e,c⟩
 |set S n=>obtain⟨ob,es,ep,t,e,c⟩:=x;exact⟨ob,es,ep,t,k _ _ (.inl rfl) e,c⟩
 |ins C dx fs=>
  obtain⟨d,z,ne,e,mA,⟨od,es,ep,e2,c⟩,r⟩:=x
  exact⟨ho _ d,z,ne,k _ _ (.inl rfl) e,mA,⟨od,es,ep,k _ _ (.inr d) e2,c⟩,r⟩
 |own y=>obtain⟨ob,e⟩:=x;exact⟨ob,k _ _ (.inl rfl) e⟩
 |xd fs=>obtain⟨mA,⟨od,es,ep,e,c⟩,r⟩:=x;exact⟨mA,⟨od,es,ep,k _ _ (.inl rfl) e,c⟩,r⟩
 |rng lo hi=>obtain⟨t,u,v,e⟩:=x;exact⟨t,u,v,k _ _ (.inl rfl) e⟩
 |frz ob u ih=>obtain⟨e,q⟩:=x;exact⟨k _ _ (.inl rfl) e,ih q⟩
 |tbl ps=>
  have e:h.get? a=some {cls:= .none,data:= .fields ps}:=x
  show h'.get? a=some {cls:= .none,data:= .fields ps}
  exact k a _ (.inl rfl) e
 |met f y=>
  have e:h.get? a=some (W.methodObj (.ref f) (.ref y)):=x
  show h'.get? a=some (W.methodObj (.ref f) (.ref y))
  exact k a _ (.inl rfl) e
 |ext φ=>obtain⟨p,⟨o,e⟩,st⟩:=x;exact⟨st _ _ p λo q=>k _ _ (.inl rfl) q,⟨o,k _ _ (.inl rfl) e⟩,st⟩
def HOk.lt(x:HOk P w H h)(e:H a=some o):a<h.objs.size:=(x a o e).lt
def HOk.fresh(x:HOk P w H h)(e:h.objs.size<=a):H a=none:=by
 cases q:H a with
 |none=>rfl
 |some u=>exact absurd (A2 (x.lt q) e) (D8 _)
def HOk.kept(x:HOk P w H h)(k: ∀b u,h.get? b=some u->h'.get? b=some u):HOk P w H h':=λa o e=>
 (x a o e).stay (λb u _ q=>k b u q) (λ_ q=>q) λ_ _ q=>q
def HOk.laid(x:HOk P w H h)(k: ∀b u,h.get? b=some u->h'.get? b=some u)(hp:h.objs.size<=a)(new:K3 P w (upd H a o) h' a o):HOk P w (upd H a o) h':=λb u e=>by
 have hn:=x.fresh hp
 by_cases hb:b=a
 .subst hb;rw[Z3] at e;cases e;exact new
 .rw[Z5 hb] at e
  exact(x b u e).stay (λc v _ q=>k c v q) (λc q=>by rw[Z5 (U4 q hn)];exact q) λc xs q=>by rw[Z5 (U4 q hn)];exact q
end
def Rd(H:Hp)(a:Addr)(u:HO):Prop:=H a=some u\/∃o,H a=some (.frz o u)
def Rd.ok(r:Rd H a u)(x:HOk P w H h):K3 P w H h a u:=by
 rcases r with r|⟨o,r⟩
 .exact x a u r
 .obtain⟨_,q⟩:=x a _ r
  exact q
def Mut:Option HO->Prop
 |some (.lst _)=>True
 |some (.dK _)=>True
 |some (.dT _)=>True
 |some (.set _ _)=>True
 |some (.ins _ _ _)=>True
 |some (.ext _)=>True
 |_=>False
section
variable{P:bm}{w:bo}{H:Hp}{h h':Heap}{x e:Addr}{o':HO}
def HOk.write(ok:HOk P w H h)(mu:Mut (H x))(he:e=x\/H e=some (.own x))(k: ∀b u,b≠e->h.get? b=some u->h'.get? b=some u)(heo: ∃u,h'.get? e=some u)
 (new:K3 P w (upd H x o') h' x o'):HOk P w (upd H x o') h':=λb u q=>by
 have nown: ∀c y,H c=some (.own y)->c≠x:=λc y r z=>by subst z;rw[r] at mu;exact mu
 have ntup: ∀c xs,H c=some (.tup xs)->c≠x:=λc xs r z=>by subst z;rw[r] at mu;exact mu
 by_cases hb:b=x
 .subst hb;rw[Z3] at q;cases q;exact new
 .rw[Z5 hb] at q
  by_cases hbe:b=e
  .have q':H b=some (.own x):=by
    rcases he with z|z
    .exact absurd (hbe.trans z) hb
    .rw[hbe];exact z
   rw[q] at q';cases q'
   obtain⟨v,hv⟩:=heo
   exact⟨v,by rw[hbe];exact hv⟩
  .refine(ok b u q).stay (λc v hc r=>k c v ?_ r) (λc r=>by rw[Z5 (nown c b r)];exact r) λc xs r=>by rw[Z5 (ntup c xs r)];exact r
   rcases hc with rfl|hc
   .exact hbe
   .rintro rfl
    rcases he with z|z
    .exact nown c b hc z
    .rw[hc] at z;cases z;exact hb rfl
end
structure Un(fs ex:List Addr)(H H':Hp)(h h':Heap):Prop where
 keep: ∀b o,h.get? b=some o->H b=none->b∉fs->b∉ex->h'.get? b=some o
 slot: ∀b o,h.get? b=some o->H b=none->b∈fs->b∉ex->∃sl,h'.get? b=some {o with slots:=sl}
 free: ∀b o,h.get? b=some o->H b=none->b∉ex->H' b=none
 there: ∀b o,h.get? b=some o->b∉ex->∃o',h'.get? b=some o'
 tups: ∀b xs,H b=some (.tup xs)->H' b=some (.tup xs)
 frzs: ∀b o u,H b=some (.frz o u)->H' b=some (.frz o u)
 tbls: ∀b ps,H b=some (.tbl ps)->∃more,H' b=some (.tbl (ps++more))
section
variable{fs fs' ex ex':List Addr}{H H1 H2:Hp}{h h1 h2 h':Heap}{a x e:Addr}{o:HO}
def Un.any(u:Un fs ex H H1 h h1)(q:h.get? b=some ob)(n:H b=none)(hx:b∉ex): ∃sl,h1.get? b=some {ob with slots:=sl}:=by
 by_cases hb:b∈fs
 .exact u.slot b ob q n hb hx
 .exact⟨ob.slots,u.keep b ob q n hb hx⟩
def Un.kept(k: ∀b u,h.get? b=some u->h'.get? b=some u):Un fs ex H H h h':=
 ⟨λb ob q _ _ _=>k b ob q,λb ob q _ _ _=>⟨ob.slots,k b ob q⟩,λ_ _ _ n _=>n,λb ob q _=>⟨ob,k b ob q⟩,λ_ _ q=>q,λ_ _ _ q=>q,λ_ ps q=>⟨#[],by rw[q];simp⟩⟩
def Un.refl:Un fs ex H H h h:=Un.kept λ_ _ q=>q
def Un.laid(k: ∀b u,h.get? b=some u->h'.get? b=some u)(hp:h.objs.size<=a)(hn:H a=none):Un fs ex H (upd H a o) h h' where
 keep:=λb u q _ _ _=>k b u q
 slot:=λb u q _ _ _=>⟨u.slots,k b u q⟩
 free:=λb u q n _=>by rw[Z5 (B3 (A2 (Heap.lt_size q) hp))];exact n
 there:=λb u q _=>⟨u,k b u q⟩
 tups:=λb xs q=>by rw[Z5 (U4 q hn)];exact q
 frzs:=λb u xs q=>by rw[Z5 (U4 q hn)];exact q
 tbls:=λb ps q=>⟨#[],by rw[Z5 (U4 q hn),q];simp⟩
def Un.write(mu:Mut (H x))(he:e=x\/H e=some (.own x))(k: ∀b u,b≠e->h.get? b=some u->h'.get? b=some u)(heo: ∃u,h'.get? e=some u):Un fs ex H (upd H x o) h h':=by
 have hx: ∀b,H b=none->b≠x:=λb n z=>by subst z;rw[n] at mu;exact mu
 have hb: ∀b,H b=none->b≠e:=λb n z=>by
  subst z
  rcases he with r|r
  .exact hx b n r
  .rw[n] at r;cases r
 have hm: ∀b u,H b=some u->¬Mut (some u)->b≠x:=λb u q nm z=>by subst z;rw[q] at mu;exact nm mu
 refine⟨λb u q n _ _=>k b u (hb b n) q,λb u q n _ _=>⟨u.slots,k b u (hb b n) q⟩,λb u q n _=>by rw[Z5 (hx b n)];exact n,λb u q _=> ?_,
  λb xs q=>by rw[Z5 (hm b _ q λz=>z)];exact q,λb u xs q=>by rw[Z5 (hm b _ q λz=>z)];exact q,λb ps q=>⟨#[],by rw[Z5 (hm b _ q λz=>z),q];simp⟩⟩
 by_cases hbe:b=e
 .subst hbe;exact heo
 .exact⟨u,k b u hbe q⟩
end
def trk(h:Heap)(H:Hp):List Addr:=(D5 h.objs.size).filter λa=>(H a).isSome
def zbN(h:Heap)(H:Hp):Heap:=W.hideAll h (trk h H)
def z9z(h:Heap) H:(zbN h H).objs.size=h.objs.size:=W.hideAll_size _ _
def zbO{h:Heap}(e:h.get? b=some o)(n:H b=none):(zbN h H).get? b=some o:=
 W.hideAll_get _ e λhm=>by
  have q:(H b).isSome=true:=(E1.mp hm).2
  rw[n] at q;simp at q
def ze5{h:Heap}(e:(zbN h H).get? b=some o):h.get? b=some o/\H b=none:=by
 have e':h.get? b=some o:=W.of_hideAll (trk h H) e
 refine⟨e', ?_⟩
 cases q:H b with
 |none=>rfl
 |some x=>
  have hm:b∈trk h H:=E1.mpr ⟨P9.mpr (Heap.lt_size e'),by simp[q]⟩
  have z:(zbN h H).get? b=none:=W.hideAll_none (trk h H) hm
  rw[z] at e;cases e
structure Mod(K:W.Frag)(mg:Str->Option bc)(base:Heap):Prop where
 kin:K.In base
 glob:base.Ns bn mg
 blt: ∃mb,base.Ns dG mb/\∀x:Str,x≠ "__name__" ->mb x=bF x
 nolimit:base.NoLimit
structure Cx where
 prog:bm
 w:bo
 K:W.Frag
 mg:Str->Option bc
 base:Heap
 A:bu
 N:List Str
 s₀:be
 H₀:Hp
 env:cY
 outer:List cY
 stack:List cY
 ex:List Addr
 fn:Str->Bool
 calm:Bool
 pn:List (Addr×bE)
 xe:bc->be->Prop
def frs(l:List cY):List Addr:=l.filterMap (·.frame)
abbrev Cx.fs(X:Cx):List Addr:=frs X.outer
def Vis(sc:Scope)(x:Str):Prop:=sc.names.lookup x=some .local\/sc.names.lookup x=some .cell\/sc.names.lookup x=some .free
def Loc(sc:Scope)(x:Str):Prop:=sc.names.lookup x=some .local\/sc.names.lookup x=some .cell
def zlA(env:cY)(h:Heap)(m:Str->Option bc)(x:Str)(u:bc):Prop:=
 (env.kindOf x=some .local/\m x=some u)\/((env.kindOf x=some .cell\/env.kindOf x=some .free)/\∃c,env.cells.lookup x=some c/\h.IsCell c (some u))
structure Cx.Ok(X:Cx):Prop where
 mod:Mod X.K X.mg X.base
 kind:X.env.scope.kind= .function
 glob:X.env.globals=bn
 blt:X.env.builtins=dG
 above:X.s₀.heap.objs.size<=X.env.locals
 inj: ∀x y c,X.env.cells.lookup x=some c->X.env.cells.lookup y=some c->x=y
 has: ∀x,(X.env.kindOf x=some .cell\/X.env.kindOf x=some .free)->∃c,X.env.cells.lookup x=some c
 cab: ∀x c,X.fn x=true->X.env.cells.lookup x=some c->X.s₀.heap.objs.size<=c
 hd:X.calm=true->X.A.handled=none
 frames:X.A.frames=some X.stack
 stk:X.stack=X.outer\/(X.stack=X.env::X.outer/\X.env.frame=some X.env.locals)
 exf: ∀b∈X.ex,b≠X.env.locals/\∀x c,X.env.cells.lookup x=some c->c≠b
 bs: ∀b o,X.base.get? b=some o->X.s₀.heap.get? b=some o/\X.H₀ b=none
 bsz:X.base.objs.size<=X.s₀.heap.objs.size
 noex: ∀b o,X.base.get? b=some o->b∉X.ex
 exfs: ∀b∈X.ex,b∉X.fs
 funs:X.s₀.heap.FunFrames X.base X.outer
 frf: ∀b∈X.fs,X.H₀ b=none
structure Inv(X:Cx)(qx:List (Addr×bE))(σ:List (Option V))(H:Hp)(s:be):Prop where
 ok:X.Ok
 os:s.os=X.s₀.os
 bare:cr s.gens
 base:Un X.fs X.ex X.H₀ H X.s₀.heap s.heap
 loc: ∃m,s.heap.Ns X.env.locals m/\∀(i:Nat) (x:Str) (v:V),X.N[i]? =some x->σ[i]? =some (some v)->Vis X.env.scope x->∃u,RelV v u/\zlA X.env s.heap m x u
 cell: ∀x c,X.env.cells.lookup x=some c->∃v,s.heap.IsCell c v
 free:H X.env.locals=none
 freeC: ∀x c,X.env.cells.lookup x=some c->H c=none
 pin: ∀p∈X.pn++qx,s.heap.get? p.1=some p.2/\H p.1=none/\p.1≠X.env.locals/\p.1∉X.fs/\∀v,p.2.data≠ .cell v
 hok:HOk X.prog X.w H s.heap
 len:σ.length=X.N.length
section
variable{X:Cx}{qx:List (Addr×bE)}{σ:List (Option V)}{H H':Hp}{s:be}{h':Heap}
def Cx.Ok.nofr(ok:X.Ok)(e:X.base.get? b=some o):b∉X.fs:=λhb=>by
 have:=(ok.funs.mem hb).1
 rw[e] at this;cases this
def Inv.bs(I:Inv X qx σ H s): ∀b o,X.base.get? b=some o->s.heap.get? b=some o/\H b=none:=λb o e=>
 ⟨I.base.keep b o (I.ok.bs b o e).1 (I.ok.bs b o e).2 (I.ok.nofr e) (I.ok.noex b o e),I.base.free b o (I.ok.bs b o e).1 (I.ok.bs b o e).2 (I.ok.noex b o e)⟩
def Inv.bk(I:Inv X qx σ H s): ∀b o,X.base.get? b=some o->s.heap.get? b=some o:=λb o e=>(I.bs b o e).1
def Inv.mod(I:Inv X qx σ H s):Mod X.K X.mg X.base:=I.ok.mod
def Inv.kIn(I:Inv X qx σ H s):X.K.In s.heap:=I.ok.mod.kin.keeps I.bk
def Inv.lt(I:Inv X qx σ H s):X.env.locals<s.heap.objs.size:=let⟨_,hn,_⟩:=I.loc;hn.lt
def Inv.sz(I:Inv X qx σ H s):X.s₀.heap.objs.size<=s.heap.objs.size:=C7 I.ok.above (L9 I.lt)
def Inv.nofs(I:Inv X qx σ H s)(h:s.heap.objs.size<=a):a∉X.fs:=λhb=>by
 obtain⟨_,o,ho,_⟩:=I.ok.funs.mem hb
 exact absurd (A2 (Heap.lt_size ho) (C7 I.sz h)) (D8 _)
def Inv.cne(I:Inv X qx σ H s): ∀x c,X.env.cells.lookup x=some c->c≠X.env.locals:=λx c e z=>by
 obtain⟨v,o,ho,hd⟩:=I.cell x c e
 obtain⟨m,⟨o',es,ep,ho',hd',_⟩,_⟩:=I.loc
 rw[z,ho'] at ho;cases ho;rw[hd'] at hd;cases hd
def Inv.funs(I:Inv X qx σ H s):s.heap.FunFrames X.base X.outer:=by
 have all: ∀(l:List cY),(∀b∈frs l,b∈X.fs)->X.s₀.heap.FunFrames X.base l->s.heap.FunFrames X.base l:=by
  intro l
  induction l with
  |nil=>intro _ _;trivial
  |cons env r ih=>
   intro hs hl
   obtain⟨hk,⟨L,o,hf,hn,ho,hd⟩,hr⟩:=hl
   have hL:L∈X.fs:=hs L (by unfold frs;rw[P2,hf];exact l6)
   obtain⟨sl,e⟩:=I.base.slot L o ho (I.ok.frf L hL) hL λz=>I.ok.exfs L z hL
   exact⟨hk,⟨L,_,hf,hn,e,hd⟩,ih (λb hb=>hs b (by unfold frs;rw[P2,hf];exact i5 _ hb)) hr⟩
 exact all X.outer (λ_ hb=>hb) I.ok.funs
def Inv.stack(I:Inv X qx σ H s):s.heap.FunFrames X.base X.stack:=by
 rcases I.ok.stk with e|⟨e,hf⟩
 .rw[e];exact I.funs
 .rw[e]
  obtain⟨m,hn,_⟩:=I.loc
  refine .cons (by rw[I.ok.kind];decide) hf hn ?_ I.funs
  exact Heap.get?_none_of_le (C7 I.ok.bsz I.ok.above)
def Inv.stkSub(I:Inv X qx σ H s): ∀b∈frs X.stack,b∈X.env.locals::X.fs:=λb hb=>by
 rcases I.ok.stk with e|⟨e,hf⟩
 .rw[e] at hb;exact i5 _ hb
 .rw[e] at hb
  unfold frs at hb
  rw[P2,hf] at hb
  exact hb
def Inv.stkFree(I:Inv X qx σ H s): ∀b∈frs X.stack,H b=none:=λb hb=>by
 rcases m3.mp (I.stkSub b hb) with e|hb
 .rw[e];exact I.free
 .obtain⟨_,o,ho,_⟩:=I.ok.funs.mem hb
  exact I.base.free b o ho (I.ok.frf b hb) λz=>I.ok.exfs b z hb
def Inv.step{g':Array GenState}{t':Nat}{d':Drawn}{ch:List Addr}(I:Inv X qx σ H s)
 (hch: ∀b∈ch,(b∈X.ex\/X.s₀.heap.objs.size<=b)/\b≠X.env.locals/\(∀x c,X.env.cells.lookup x=some c->c≠b)/\∀p∈X.pn++qx,p.1≠b)
 (keep: ∀b o,b≠X.env.locals->b∉X.fs->b∉ch->s.heap.get? b=some o->H b=none->h'.get? b=some o)
 (slot: ∀b o,b≠X.env.locals->b∈X.fs->b∉ch->s.heap.get? b=some o->H b=none->∃sl,h'.get? b=some {o with slots:=sl}) (free: ∀b o,b∉ch->s.heap.get? b=some o->H b=none->H' b=none)
 (there: ∀b o,b∉ch->s.heap.get? b=some o->∃o',h'.get? b=some o')
 (tups: ∀b xs,H b=some (.tup xs)->H' b=some (.tup xs)) (frzs: ∀b o u,H b=some (.frz o u)->H' b=some (.frz o u)) (tbls: ∀b ps,H b=some (.tbl ps)->∃more,H' b=some (.tbl (ps++more)))
 (ns: ∀m,s.heap.Ns X.env.locals m->h'.Ns X.env.locals m) (hok:HOk X.prog X.w H' h') (hg:cr g'):
 Inv X qx σ H' {s with heap:=h',gens:=g',drawn:=d',toks:=t'}:=by
 have neL: ∀b o,X.s₀.heap.get? b=some o->b≠X.env.locals:=λb o e=>B3 (A2 (Heap.lt_size e) I.ok.above)
 have neC: ∀b o,X.s₀.heap.get? b=some o->b∉X.ex->b∉ch:=λb o e hx hb=>by
  rcases(hch b hb).1 with z|z
  .exact hx z
  .exact absurd (A2 (Heap.lt_size e) z) (D8 _)
 have cellK: ∀x c,X.env.cells.lookup x=some c->∀v,s.heap.IsCell c v->h'.IsCell c v:=λx c e v ⟨o,ho,hd⟩=>by
  have nch:c∉ch:=λz=>(hch c z).2.2.1 x c e rfl
  by_cases hc:c∈X.fs
  .obtain⟨sl,q⟩:=slot c o (I.cne x c e) hc nch ho (I.freeC x c e)
   exact⟨_,q,hd⟩
  .exact⟨o,keep c o (I.cne x c e) hc nch ho (I.freeC x c e),hd⟩
 refine⟨I.ok,I.os,hg,⟨λb o e n hb hx=> ?_,λb o e n hb hx=> ?_,λb o e n hx=> ?_,λb o e hx=> ?_,λb xs e=>tups b xs (I.base.tups b xs e),λb o xs e=>frzs b o xs (I.base.frzs b o xs e),λb ps e=> ?_⟩, ?_,λx c e=> ?_, ?_,λx c e=> ?_,λp hp=> ?_,hok,I.len⟩
 .exact keep b o (neL b o e) hb (neC b o e hx) (I.base.keep b o e n hb hx) (I.base.free b o e n hx)
 .obtain⟨sl,e1⟩:=I.base.slot b o e n hb hx
  obtain⟨sl',e2⟩:=slot b _ (neL b o e) hb (neC b o e hx) e1 (I.base.free b o e n hx)
  exact⟨sl',e2⟩
 .obtain⟨o',e1⟩:=I.base.there b o e hx
  exact free b o' (neC b o e hx) e1 (I.base.free b o e n hx)
 .obtain⟨o',e1⟩:=I.base.there b o e hx
  exact there b o' (neC b o e hx) e1
 .obtain⟨m1,e1⟩:=I.base.tbls b ps e
  obtain⟨m2,e2⟩:=tbls b _ e1
  exact⟨m1++m2,by rw[e2,Array.append_assoc]⟩
 .obtain⟨m,hn,hl⟩:=I.loc
  refine⟨m,ns m hn,λi x v e1 e2 e3=> ?_⟩
  obtain⟨u,r,l⟩:=hl i x v e1 e2 e3
  refine⟨u,r, ?_⟩
  rcases l with l|⟨k,c,e,z⟩
  .exact .inl l
  .exact .inr ⟨k,c,e,cellK x c e _ z⟩
 .obtain⟨v,z⟩:=I.cell x c e
  exact⟨v,cellK x c e v z⟩
 .obtain⟨m,⟨o,_,_,ho,_⟩,_⟩:=I.loc
  exact free _ o (λz=>(hch _ z).2.1 rfl) ho I.free
 .obtain⟨v,o,ho,hd⟩:=I.cell x c e
  exact free c o (λz=>(hch c z).2.2.1 x c e rfl) ho (I.freeC x c e)
 .obtain⟨e,n,ne,nf,d⟩:=I.pin p hp
  have nch:p.1∉ch:=λz=>(hch p.1 z).2.2.2 p hp rfl
  exact⟨keep p.1 p.2 ne nf nch e n,free p.1 p.2 nch e n,ne,nf,d⟩
def Inv.un{t':Nat}(I:Inv X qx σ H s)(u:Un X.fs [] H H' s.heap h')(hok:HOk X.prog X.w H' h'):Inv X qx σ H' {s with heap:=h',toks:=t'}:=by
 obtain⟨m,⟨o,es,ep,ho,r⟩,_⟩:=id I.loc
 obtain⟨sl,hL⟩:=u.any ho I.free (by simp)
 exact I.step (g':=s.gens) (d':=s.drawn) (ch:=[]) (λ_ z=>nomatch z) (λb o _ hb _ e n=>u.keep b o e n hb (by simp)) (λb o _ hb _ e n=>u.slot b o e n hb (by simp)) (λb o _ e n=>u.free b o e n (by simp)) (λb o _ e=>u.there b o e (by simp)) u.tups u.frzs u.tbls (λm' hm=>by
  obtain⟨o',es',ep',ho',r'⟩:=hm
  rw[ho] at ho';cases ho'
  exact⟨_,es',ep',hL,r'⟩) hok I.bare
def Inv.call{t':Nat}{d':Drawn}(I:Inv X qx σ H s)(u:Un (frs X.stack) ch H H' s.heap h')(hok:HOk X.prog X.w H' h')(hg:cr g')
 (hch: ∀b∈ch,(b∈X.ex\/X.s₀.heap.objs.size<=b)/\b≠X.env.locals/\(∀x c,X.env.cells.lookup x=some c->c≠b)/\∀p∈X.pn++qx,p.1≠b):
 Inv X qx σ H' {s with heap:=h',gens:=g',drawn:=d',toks:=t'}:=by
 obtain⟨m,⟨o,es,ep,ho,r⟩,_⟩:=id I.loc
 obtain⟨sl,hL⟩:=u.any ho I.free λz=>(hch _ z).2.1 rfl
 exact I.step (ch:=ch) hch (λb o hL hb hc e n=>u.keep b o e n (λz=>(m3.mp (I.stkSub b z)).elim hL hb) hc) (λb o _ _ hc e n=>u.any e n hc) (λb o hc e n=>u.free b o e n hc) (λb o hc e=>u.there b o e hc) u.tups u.frzs u.tbls (λm' hm=>by
  obtain⟨o',es',ep',ho',r'⟩:=hm
  rw[ho] at ho';cases ho'
  exact⟨_,es',ep',hL,r'⟩) hok hg
def Inv.turned{t':Nat}(I:Inv X qx σ H s)(k: ∀b o,b≠it->s.heap.get? b=some o->h'.get? b=some o)(hn:H it=none)(hL:it≠X.env.locals)
 (h1:it∈X.ex\/X.s₀.heap.objs.size<=it) (h2: ∀x c,X.env.cells.lookup x=some c->c≠it) (h3: ∀p∈X.pn++qx,p.1≠it):Inv X qx σ H {s with heap:=h',toks:=t'}:=by
 have nit: ∀b u,H b=some u->b≠it:=λb u e z=>by rw[z,hn] at e;cases e
 refine I.step (g':=s.gens) (d':=s.drawn) (ch:=[it]) (λb hb=> ?_) (λb o _ _ hc e _=>k b o (λz=>hc (by simp[z])) e) (λb o _ _ hc e _=>⟨o.slots,k b o (λz=>hc (by simp[z])) e⟩) (λ_ _ _ _ n=>n)
  (λb o hc e=>⟨o,k b o (λz=>hc (by simp[z])) e⟩) (λ_ _ e=>e) (λ_ _ _ e=>e) (λb ps e=>⟨#[],by rw[e];simp⟩) (λm hm=> ?_) (λb u e=> ?_) I.bare
 .have e:b=it:=by simpa using hb
  subst e
  exact⟨h1,hL,h2,h3⟩
 .obtain⟨o,es,ep,ho,r⟩:=hm
  exact⟨o,es,ep,k _ o (Ne.symm hL) ho,r⟩
 .refine(I.hok b u e).stay (λc v hc q=>k c v ?_ q) (λ_ q=>q) λ_ _ q=>q
  rcases hc with z|z
  .rw[z];exact nit b u e
  .exact nit c _ z
def Inv.tok(I:Inv X qx σ H s) t:Inv X qx σ H {s with toks:=t}:=I.un (h':=s.heap) (t':=t) Un.refl I.hok
def Inv.kept{t':Nat}(I:Inv X qx σ H s)(k: ∀b u,s.heap.get? b=some u->h'.get? b=some u):Inv X qx σ H {s with heap:=h',toks:=t'}:=I.un (Un.kept k) (I.hok.kept k)
def Inv.laid{t':Nat}(I:Inv X qx σ H s)(k: ∀b u,s.heap.get? b=some u->h'.get? b=some u)(hp:s.heap.objs.size<=a)(new:K3 X.prog X.w (upd H a o) h' a o):
 Inv X qx σ (upd H a o) {s with heap:=h',toks:=t'}:=I.un (Un.laid k hp (I.hok.fresh hp)) (I.hok.laid k hp new)
def Inv.write{o:HO}{t':Nat}(I:Inv X qx σ H s)(mu:Mut (H x))(he:e=x\/H e=some (.own x))(k: ∀b u,b≠e->s.heap.get? b=some u->h'.get? b=some u)(heo: ∃u,h'.get? e=some u)
 (new:K3 X.prog X.w (upd H x o) h' x o):Inv X qx σ (upd H x o) {s with heap:=h',toks:=t'}:=I.un (Un.write mu he k heo) (I.hok.write mu he k heo new)
def Inv.pins_of(I:Inv X qx σ H s)(h: ∀p∈pins',s.heap.get? p.1=some p.2/\H p.1=none/\p.1≠X.env.locals/\p.1∉X.fs/\∀v,p.2.data≠ .cell v):Inv X pins' σ H s:=
 ⟨I.ok,I.os,I.bare,I.base,I.loc,I.cell,I.free,I.freeC,λp hp=>(l4.mp hp).elim (λz=>I.pin p (i8 _ z)) (h p),I.hok,I.len⟩
def z7Q{N:List Str}(hN:N.Nodup){i j:Nat}(a:N[i]? =some x)(b:N[j]? =some x):i=j:=by
 obtain⟨h1,e1⟩:=List.getElem?_eq_some_iff.mp a
 obtain⟨h2,e2⟩:=List.getElem?_eq_some_iff.mp b
 exact(List.getElem_inj hN).mp (e1.trans e2.symm)
def z9A{M:dY}{A:bu}{E:bc->be->Prop}{i:Nat}{Q:Unit->be->Prop}(I:Inv X qx σ H s)(hN:X.N.Nodup)(hi:X.N[i]? =some x)(hx:Loc X.env.scope x)(r:RelV v u)
 (h: ∀s',Inv X qx (σ.set i (some v)) H s'->(∃a,Heap.SameBut a s.heap s'.heap/\(a=X.env.locals\/X.env.cells.lookup x=some a))->Q () s') (hf:X.fn x=true\/X.env.scope.names.lookup x=some .local:=by first|exact .inl rfl|exact .inr rfl|assumption):bg M A (dS X.env x u) Q E s:=by
 obtain⟨m,hn,hl⟩:=id I.loc
 have hcls:(X.env.scope.kind== .class||(X.env.scope.kind== .module&&X.env.locals !=X.env.globals))=false:=by rw[I.ok.kind];rfl
 have hiσ:i<σ.length:=by rw[I.len];exact(List.getElem?_eq_some_iff.mp hi).1
 have cne:=I.cne
 have tracked: ∀{a:Addr} {h':Heap},(∃o,s.heap.get? a=some o/\H a=none)->Heap.SameBut a s.heap h'->HOk X.prog X.w H h':=λ{a h'} ha hs b ob e=>by
  obtain⟨_,_,hfree⟩:=ha
  refine(I.hok b ob e).stay (λc w' hc q=>(hs.2 c ?_).trans q) (λ_ q=>q) λ_ _ q=>q
  rintro rfl
  rcases hc with rfl|hc
  .rw[hfree] at e;cases e
  .rw[hfree] at hc;cases hc
 rcases hx with hk|hk
 .refine wpAny_storeName_local hk hn (λh' hn' hs=> ?_) hcls
  obtain⟨oL,_,_,hoL,_⟩:=id hn
  refine h _ ⟨I.ok,I.os,I.bare,⟨λb o e n hb hx=> ?_,λb o e n hb hx=> ?_,I.base.free,λb o e hx=> ?_,I.base.tups,I.base.frzs,I.base.tbls⟩,⟨_,hn',λj y v' e1 e2 e3=> ?_⟩,λy c e=> ?_,I.free,I.freeC,λp hp=> ?_,tracked ⟨oL,hoL,I.free⟩ hs,by simpa using I.len⟩ ⟨_,hs, .inl rfl⟩
  .exact(hs.2 b (B3 (A2 (Heap.lt_size e) I.ok.above))).trans (I.base.keep b o e n hb hx)
  .obtain⟨sl,e1⟩:=I.base.slot b o e n hb hx
   exact⟨sl,(hs.2 b (B3 (A2 (Heap.lt_size e) I.ok.above))).trans e1⟩
  .obtain⟨o',e1⟩:=I.base.there b o e hx
   exact⟨o',(hs.2 b (B3 (A2 (Heap.lt_size e) I.ok.above))).trans e1⟩
  .by_cases hj:j=i
   .subst hj
    rw[hi] at e1;cases e1
    rw[List.getElem?_set_self hiσ] at e2
    cases e2
    exact⟨u,r, .inl ⟨hk,by simp⟩⟩
   .rw[List.getElem?_set_ne (Ne.symm hj)] at e2
    obtain⟨u',r',q⟩:=hl j y v' e1 e2 e3
    refine⟨u',r', ?_⟩
    rcases q with⟨k,e⟩|⟨k,c,e,z⟩
    .refine .inl ⟨k, ?_⟩
     have:y≠x:=λe=>hj (z7Q hN e1 (e▸hi))
     simp[this,e]
    .exact .inr ⟨k,c,e,z.sameBut hs (cne y c e)⟩
  .obtain⟨w',z⟩:=I.cell y c e
   exact⟨w',z.sameBut hs (cne y c e)⟩
  .obtain⟨e,n,ne,nf,d⟩:=I.pin p hp
   exact⟨(hs.2 p.1 ne).trans e,n,ne,nf,d⟩
 .have hfn:X.fn x=true:=by
   rcases hf with z|z
   .exact z
   .rw[z] at hk;cases hk
  obtain⟨c,hc⟩:=I.ok.has x (.inl hk)
  obtain⟨w',z⟩:=I.cell x c hc
  refine wpAny_storeName_cell I.ok.kind hk hc z (λh' hc' hs=> ?_)
  obtain⟨oc,hoc,hocd⟩:=id z
  refine h {s with heap:=h'} ⟨I.ok,I.os,I.bare,⟨λb o e n hb hx=> ?_,λb o e n hb hx=> ?_,I.base.free,λb o e hx=> ?_,I.base.tups,I.base.frzs,I.base.tbls⟩,⟨m,hn.sameBut hs (Ne.symm (cne x c hc)),λj y v' e1 e2 e3=> ?_⟩,λy c' e=> ?_,I.free,I.freeC,λp hp=> ?_,tracked ⟨oc,hoc,I.freeC x c hc⟩ hs,by simpa using I.len⟩ ⟨c,hs, .inr hc⟩
  .exact(hs.2 b (B3 (A2 (Heap.lt_size e) (I.ok.cab x c hfn hc)))).trans (I.base.keep b o e n hb hx)
  .obtain⟨sl,e1⟩:=I.base.slot b o e n hb hx
   exact⟨sl,(hs.2 b (B3 (A2 (Heap.lt_size e) (I.ok.cab x c hfn hc)))).trans e1⟩
  .obtain⟨o',e1⟩:=I.base.there b o e hx
   exact⟨o',(hs.2 b (B3 (A2 (Heap.lt_size e) (I.ok.cab x c hfn hc)))).trans e1⟩
  .by_cases hj:j=i
   .subst hj
    rw[hi] at e1;cases e1
    rw[List.getElem?_set_self hiσ] at e2
    cases e2
    exact⟨u,r, .inr ⟨.inl hk,c,hc,hc'⟩⟩
   .rw[List.getElem?_set_ne (Ne.symm hj)] at e2
    obtain⟨u',r',q⟩:=hl j y v' e1 e2 e3
    refine⟨u',r', ?_⟩
    rcases q with q|⟨k,c',e,z'⟩
    .exact .inl q
    .refine .inr ⟨k,c',e,z'.sameBut hs ?_⟩
     rintro rfl
     exact hj (z7Q hN e1 (I.ok.inj _ _ _ e hc▸hi))
  .by_cases hcc:c'=c
   .subst hcc;exact⟨_,hc'⟩
   .obtain⟨w2,z2⟩:=I.cell y c' e
    exact⟨w2,z2.sameBut hs hcc⟩
  .obtain⟨e,n,ne,nf,d⟩:=I.pin p hp
   refine⟨(hs.2 p.1 ?_).trans e,n,ne,nf,d⟩
   intro q
   rw[q,hoc] at e
   have q':oc=p.2:=Option.some.inj e
   exact d w' (by rw[<-q'];exact hocd)
def z3e{M:dY}{A:bu}{E:bc->be->Prop}{i:Nat}{Q:Unit->be->Prop}(I:Inv X qx σ H s)(hN:X.N.Nodup)(hi:X.N[i]? =some x)(hx:Loc X.env.scope x)(r:RelV v u)
 (h: ∀s',Inv X qx (σ.set i (some v)) H s'->Q () s') (hf:X.fn x=true\/X.env.scope.names.lookup x=some .local:=by first|exact .inl rfl|exact .inr rfl|assumption):bg M A (dS X.env x u) Q E s:=
 z9A I hN hi hx r (λs' I' _=>h s' I') hf
def Inv.call'{s':be}(I:Inv X qx σ H s)(ho:s'.os=s.os)(u:Un (frs X.stack) ch H H' s.heap s'.heap)(hok:HOk X.prog X.w H' s'.heap)(hg:cr s'.gens)
 (hch: ∀b∈ch,(b∈X.ex\/X.s₀.heap.objs.size<=b)/\b≠X.env.locals/\(∀x c,X.env.cells.lookup x=some c->c≠b)/\∀p∈X.pn++qx,p.1≠b):Inv X qx σ H' s':=by
 obtain⟨h',g',d',t',o'⟩:=s'
 have e:o'=s.os:=ho
 subst e
 exact I.call (g':=g') (t':=t') (d':=d') u hok hg hch
end
abbrev XK:=bc->Option Addr->Hp->Prop
abbrev St:=List (Option V)
abbrev VK:=V->Hp->Prop
abbrev TE:=St->Hp->VK->Prop
abbrev TT:=St->Hp->(Bool->Hp->Prop)->Prop
abbrev TA:=St->Hp->(List V->Hp->Prop)->Prop
structure Ends where
 nx:St->Hp->Prop
 rt:VK
 bk:St->Hp->Prop:=λ_ _=>False
 ct:St->Hp->Prop:=λ_ _=>False
abbrev TS:=Ends->St->Hp->Prop
def EP(X:Cx)(qx:List (Addr×bE))(σ:St)(Q:VK)(u:bc)(s':be):Prop:= ∃v H',Inv X qx σ H' s'/\RelV v u/\Q v H'
def TP(X:Cx)(qx:List (Addr×bE))(σ:St)(Q:Bool->Hp->Prop)(b:Bool)(s':be):Prop:= ∃H',Inv X qx σ H' s'/\Q b H'
def AP(X:Cx)(qx:List (Addr×bE))(σ:St)(Q:List V->Hp->Prop)(us:List bc)(s':be):Prop:= ∃vs H',Inv X qx σ H' s'/\U5 vs us/\Q vs H'
def SP(X:Cx)(qx:List (Addr×bE))(D:Ends)(f:Flow)(s':be):Prop:=
 match f with
 | .next=> ∃σ' H',Inv X qx σ' H' s'/\D.nx σ' H'
 | .brk=> ∃σ' H',Inv X qx σ' H' s'/\D.bk σ' H'
 | .cont=> ∃σ' H',Inv X qx σ' H' s'/\D.ct σ' H'
 | .ret u=> ∃v σ' H',Inv X qx σ' H' s'/\RelV v u/\D.rt v H'
def PE(X:Cx)(e:bi)(t:TE):Prop:=
 ∀(qx:List (Addr×bE)) (s:be) (σ:St) (H:Hp) (Q:VK),Inv X qx σ H s->t σ H Q->bg (bj X.prog X.w) X.A (bC e X.env) (EP X qx σ Q) X.xe s
def PT(X:Cx)(e:bi)(t:TT):Prop:=
 ∀(qx:List (Addr×bE)) (s:be) (σ:St) (H:Hp) (Q:Bool->Hp->Prop),Inv X qx σ H s->t σ H Q->bg (bj X.prog X.w) X.A (dU e X.env (bC e X.env)) (TP X qx σ Q) X.xe s
def PW(X:Cx)(e:bi)(t:TT):Prop:=
 ∀(whole:fb bc) (qx:List (Addr×bE)) (s:be) (σ:St) (H:Hp) (Q:Bool->Hp->Prop),Inv X qx σ H s->t σ H Q->bg (bj X.prog X.w) X.A (dU e X.env whole) (TP X qx σ Q) X.xe s
def PW.pt(h:PW X e t):PT X e t:=h _
def PA(X:Cx)(es:List bi)(t:TA):Prop:=
 ∀(pos:bO) (qx:List (Addr×bE)) (s:be) (σ:St) (H:Hp) (Q:List V->Hp->Prop),Inv X qx σ H s->t σ H Q->bg (bj X.prog X.w) X.A (spliced (bK pos (bh es X.env))) (AP X qx σ Q) X.xe s
def PS(X:Cx)(st:Stmt)(t:TS):Prop:=
 ∀(qx:List (Addr×bE)) (s:be) (σ:St) (H:Hp) (D:Ends),Inv X qx σ H s->t D σ H->bg (bj X.prog X.w) X.A (exec st X.env) (SP X qx D) X.xe s
def PSs(X:Cx)(st:List Stmt)(t:TS):Prop:=
 ∀(qx:List (Addr×bE)) (s:be) (σ:St) (H:Hp) (D:Ends),Inv X qx σ H s->t D σ H->bg (bj X.prog X.w) X.A (execs st X.env) (SP X qx D) X.xe s
def thn{α:Type}{t:fb α}{Q Q':α->be->Prop}{M:dY}{A:bu}{E:bc->be->Prop}{s:be}(h:bg M A t Q E s)(hQ: ∀a s,Q a s->Q' a s):bg M A t Q' E s:=bA h hQ λ_ _ x=>x
section
variable{X:Cx}
def zjA(i:Nat):TE:=λ σ H Q=> ∃v,σ[i]? =some (some v)/\Q v H
def tC(v:V):TE:=λ_ H Q=>Q v H
def zgq{i:Nat}{pos:bO}(hN:X.N[i]? =some x)(hv:Vis X.env.scope x)(hd:(x==("__debug__" :Str))=false:=by decide)(hcd:(x==("__classdict__" :Str))=false:=by decide):PE X (.Name x pos) (zjA i):=by
 intro qx s σ H Q I h
 obtain⟨v,e,h⟩:=h
 obtain⟨m,hn,hl⟩:=I.loc
 obtain⟨u,r,l⟩:=hl i x v hN e hv
 have fin:EP X qx σ Q u s:=⟨v,H,I,r,h⟩
 rcases l with⟨hk,hm⟩|⟨hk,c,hc,hcell⟩
 .exact dH (cI I.ok.kind hk hn hm fin) hd
 .rcases hk with hk|hk
  .exact dH (cP I.ok.kind hk hc hcell fin) hd
  .exact dH (wpAny_loadName_free I.ok.kind hk hc hcell fin hcd) hd
def y3{i j pos}:PE X (.Constant (.int i) j pos) (tC (.int i)):=λ_ _ _ H _ I h=>wpAny_Constant_int ⟨.int i,H,I.tok _,⟨_,rfl⟩,h⟩
def z6Y{b j pos}:PE X (.Constant (.bool b) j pos) (tC (.bl b)):=λ_ _ _ H _ I h=>Constant_bool ⟨.bl b,H,I,rfl,h⟩
def z30{j pos}:PE X (.Constant .none j pos) (tC .non):=λ_ _ _ H _ I h=>Constant_none ⟨.non,H,I,rfl,h⟩
def Gl(X:Cx)(x:Str):Prop:=X.env.kindOf x=some .globalImplicit
def z9B{E:bc->be->Prop}{pos:bO}{Q:bc->be->Prop}(I:Inv X qx σ H s)(hg:Gl X x)(hm:X.mg x=some u)(h:Q u s)
 (hd:(x==("__debug__" :Str))=false:=by decide):bg (bj X.prog X.w) X.A (bC (.Name x pos) X.env) Q E s:=
 Calls.Name_function_global I.ok.kind hg (Calls.loadGlobal_global (by rw[I.ok.glob];exact I.mod.glob.keeps I.bk) hm h) hd
def z5M{E:bc->be->Prop}{pos:bO}{Q:bc->be->Prop}(I:Inv X qx σ H s)(hg:Gl X x)(hm:X.mg x=none)(hv:bF x=some u)(h:Q u s)
 (hn:x≠ "__name__" :=by decide) (hd:(x==("__debug__" :Str))=false:=by decide):bg (bj X.prog X.w) X.A (bC (.Name x pos) X.env) Q E s:=by
 obtain⟨mb,h1,h2⟩:=I.mod.blt
 exact Calls.Name_function_global I.ok.kind hg (Calls.loadGlobal_builtin (by rw[I.ok.glob];exact I.mod.glob.keeps I.bk) hm (by rw[I.ok.blt];exact h1.keeps I.bk) ((h2 x hn).trans hv) h) hd
def ze6{pos:bO}(hg:Gl X x)(hm:X.mg x=some u)(r:RelV v u)(hd:(x==("__debug__" :Str))=false:=by decide):PE X (.Name x pos) (tC v):=
 λ_ _ _ H _ I h=>z9B I hg hm ⟨v,H,I,r,h⟩ hd
def z6Z{pos:bO}(hg:Gl X x)(hm:X.mg x=none)(hv:bF x=some u)(r:RelV v u)(hn:x≠ "__name__" :=by decide)(hd:(x==("__debug__" :Str))=false:=by decide):PE X (.Name x pos) (tC v):=
 λ_ _ _ H _ I h=>z5M I hg hm hv ⟨v,H,I,r,h⟩ hn hd
variable{a b:bi}{ta tb:TE}{pos:bO}
variable{tA tB':TT}{rest:List bi}
def zlB(t u:TT):TT:=λ σ H Q=>t σ H λc H1=>if c=true then u σ H1 Q else Q false H1
def tOr(t u:TT):TT:=λ σ H Q=>t σ H λc H1=>if c=true then Q true H1 else u σ H1 Q
def zlC(t:TT):TT:=λ σ H Q=>t σ H λc H1=>Q (!c) H1
def ze7(ha:PT X a tA):PW X (.BoolOp .And [a] pos) tA:=by
 intro wh qx s σ H Q I h
 refine isTrue_and (thn (ha qx s σ H Q I h) λc s1 e=> ?_)
 cases c with
 |true=>exact isTrue_and_nil e
 |false=>exact e
def zgr(ha:PT X a tA):PW X (.BoolOp .Or [a] pos) tA:=by
 intro wh qx s σ H Q I h
 refine isTrue_or (thn (ha qx s σ H Q I h) λc s1 e=> ?_)
 cases c with
 |false=>exact isTrue_or_nil e
 |true=>exact e
def zgs(ha:PT X a tA)(hb:PW X (.BoolOp .And (b::rest) pos) tB'):PW X (.BoolOp .And (a::b::rest) pos) (zlB tA tB'):=by
 intro wh qx s σ H Q I h
 refine isTrue_and (thn (ha qx s σ H _ I h) ?_)
 rintro c s1 ⟨H1,I1,q1⟩
 cases c with
 |true=>exact hb wh qx s1 σ H1 Q I1 q1
 |false=>exact⟨H1,I1,q1⟩
def zjB(ha:PT X a tA)(hb:PW X (.BoolOp .Or (b::rest) pos) tB'):PW X (.BoolOp .Or (a::b::rest) pos) (tOr tA tB'):=by
 intro wh qx s σ H Q I h
 refine isTrue_or (thn (ha qx s σ H _ I h) ?_)
 rintro c s1 ⟨H1,I1,q1⟩
 cases c with
 |true=>exact⟨H1,I1,q1⟩
 |false=>exact hb wh qx s1 σ H1 Q I1 q1
def zgt(ha:PT X a tA):PT X (.UnaryOp .Not a pos) (zlC tA):=by
 intro qx s σ H Q I h
 exact isTrue_not (ha qx s σ H (λc H1=>Q (!c) H1) I h)
def zjC(ta tb:TE):TE:=λ σ H Q=>ta σ H λx H1=> ∃c,x= .bl c/\if c=true then tb σ H1 Q else Q (.bl false) H1
def zjD(ta:TE):TE:=λ σ H Q=>ta σ H λx H1=> ∃c,x= .bl c/\Q (.bl (!c)) H1
def zgu{op}(h:PE X a t):PE X (.BoolOp op [a] pos) t:=λqx s σ H Q I hw=>BoolOp_one (h qx s σ H Q I hw)
def zgv(ha:PE X a ta)(hb:PE X (.BoolOp .And (b::rest) pos) tb):PE X (.BoolOp .And (a::b::rest) pos) (zjC ta tb):=by
 intro qx s σ H Q I h
 refine BoolOp_and (thn (ha qx s σ H _ I h) ?_)
 rintro v s1 ⟨x,H1,I1,r1,q1⟩
 obtain⟨c,rfl,q1⟩:=q1
 cases r1
 refine bJ ?_
 cases c with
 |true=>exact hb qx s1 σ H1 Q I1 q1
 |false=>exact⟨.bl false,H1,I1,rfl,q1⟩
def zgw(ha:PE X a ta):PE X (.UnaryOp .Not a pos) (zjD ta):=by
 intro qx s σ H Q I h
 refine UnaryOp_ (thn (ha qx s σ H _ I h) ?_)
 rintro v s1 ⟨x,H1,I1,r1,q1⟩
 obtain⟨c,rfl,q1⟩:=q1
 cases r1
 exact not_of (bJ ⟨.bl (!c),H1,I1,rfl,q1⟩)
end
def SqL(K:W.Frag)(H:Hp)(a:Addr)(xs:List V):Prop:=
 Rd H a (.lst xs)\/
  ∃(o:bE) (its:Array bc) (n:Nat),K.lookup a=some o/\o.cls= .type "list" /\o.dict=none/\o.data= .seq its n/\its.size<=qg/\U5 xs its.toList
def SqT(K:W.Frag)(H:Hp)(a:Addr)(xs:List V):Prop:=
 Rd H a (.tup xs)\/
  ∃(o:bE) (its:Array bc) (n:Nat),K.lookup a=some o/\o.cls= .type "tuple" /\o.data= .seq its n/\its.size<=qg/\U5 xs its.toList
def zlD:bc->Option V
 | .none=>some .non
 | .bool b=>some (.bl b)
 | .int i _=>some (.int i)
 | .str x _=>some (.str x)
 | .bytes b _=>some (.byt b)
 | .float b _=>some (.flt b)
 | .ref a=>some (.ref a)
 | .type n=>some (.ty n)
 |_=>none
def RelV.abs(r:RelV x u):zlD u=some x:=by
 cases x with
 |non=>cases r;rfl
 |bl _=>cases r;rfl
 |int _=>obtain⟨t,rfl⟩:=r;rfl
 |str _=>obtain⟨t,rfl⟩:=r;rfl
 |byt _=>obtain⟨t,rfl⟩:=r;rfl
 |flt _=>obtain⟨t,rfl⟩:=r;rfl
 |ref _=>cases r;rfl
 |ty _=>cases r;rfl
def RelV.inj(r:RelV x u)(q:RelV y u):x=y:=Option.some.inj (r.abs.symm.trans q.abs)
theorem U5.inj: ∀{xs ys:List V} {us:List bc},U5 xs us->U5 ys us->xs=ys
 |_,_,_, .nil, .nil=>rfl
 |_,_,_, .cons r t, .cons r' t'=>by rw[r.inj r',U5.inj t t']
section
variable{X:Cx}{qx:List (Addr×bE)}{σ:St}{H:Hp}{s:be}{a:Addr}{xs ys:List V}
def SqL.of{K:W.Frag}(h:H a=some (.lst xs)):SqL K H a xs:= .inl (.inl h)
def SqT.of{K:W.Frag}(h:H a=some (.tup xs)):SqT K H a xs:= .inl (.inl h)
def Inv.list(I:Inv X qx σ H s)(h:SqL X.K H a xs): ∃its:List bc,U5 xs its/\PlainL s.heap a its.toArray/\xs.length<=qg:=by
 rcases h with h|⟨o,its,n,hk,hc,hd,hs,hz,r⟩
 .obtain⟨z,its,n,r,e⟩:=h.ok I.hok
  exact⟨its,r,⟨_,n,e,rfl,rfl,rfl⟩,z⟩
 .refine⟨its.toList,r,⟨o,n,I.kIn a o hk,hc,hd,by simpa using hs⟩, ?_⟩
  have e:=r.length
  erw[Array.length_toList] at e
  lia
def Inv.tuple(I:Inv X qx σ H s)(h:SqT X.K H a xs): ∃its:List bc,U5 xs its/\dZ s.heap a its.toArray/\xs.length<=qg:=by
 rcases h with h|⟨o,its,n,hk,hc,hs,hz,r⟩
 .obtain⟨z,its,r,p⟩:=h.ok I.hok
  exact⟨its,r,p,z⟩
 .refine⟨its.toList,r,⟨o,I.kIn a o hk,hc,n,by simpa using hs⟩, ?_⟩
  have e:=r.length
  erw[Array.length_toList] at e
  lia
def Inv.list_inj(I:Inv X qx σ H s)(h:SqL X.K H a xs)(h':SqL X.K H a ys):xs=ys:=by
 obtain⟨its,r,⟨o,n,e,_,_,d⟩,_⟩:=I.list h
 obtain⟨its',r',⟨o',n',e',_,_,d'⟩,_⟩:=I.list h'
 rw[e] at e';cases e'
 rw[d] at d'
 injection d' with d1 _
 have:its=its':=by simpa using congrArg Array.toList d1
 subst this
 exact r.inj r'
def Inv.tuple_inj(I:Inv X qx σ H s)(h:SqT X.K H a xs)(h':SqT X.K H a ys):xs=ys:=by
 obtain⟨its,r,⟨o,e,_,n,d⟩,_⟩:=I.tuple h
 obtain⟨its',r',⟨o',e',_,n',d'⟩,_⟩:=I.tuple h'
 rw[e] at e';cases e'
 rw[d] at d'
 injection d' with d1 _
 have:its=its':=by simpa using congrArg Array.toList d1
 subst this
 exact r.inj r'
end
abbrev Cx.wish(X:Cx)(E:bc->be->Prop):Cx:={X with xe:=E}
abbrev Cx.nox(X:Cx):Cx:=X.wish λ_ _=>False
def Cx.Ok.wish{X:Cx}(ok:X.Ok)(E:bc->be->Prop):(X.wish E).Ok:=
 ⟨ok.mod,ok.kind,ok.glob,ok.blt,ok.above,ok.inj,ok.has,ok.cab,ok.hd,ok.frames,ok.stk,ok.exf,ok.bs,ok.bsz,ok.noex,ok.exfs,ok.funs,ok.frf⟩
def Cx.Ok.unwish{X:Cx}{E:bc->be->Prop}(ok:(X.wish E).Ok):X.Ok:=
 ⟨ok.mod,ok.kind,ok.glob,ok.blt,ok.above,ok.inj,ok.has,ok.cab,ok.hd,ok.frames,ok.stk,ok.exf,ok.bs,ok.bsz,ok.noex,ok.exfs,ok.funs,ok.frf⟩
section
variable{X:Cx}{qx:List (Addr×bE)}{σ:St}{H:Hp}{s:be}{E:bc->be->Prop}
def Inv.wish(I:Inv X qx σ H s)(E:bc->be->Prop):Inv (X.wish E) qx σ H s:=⟨I.ok.wish E,I.os,I.bare,I.base,I.loc,I.cell,I.free,I.freeC,I.pin,I.hok,I.len⟩
def Inv.unwish(I:Inv (X.wish E) qx σ H s):Inv X qx σ H s:=⟨I.ok.unwish,I.os,I.bare,I.base,I.loc,I.cell,I.free,I.freeC,I.pin,I.hok,I.len⟩
def SP.unwish(h:SP (X.wish E) qx D f s'):SP X qx D f s':=by
 cases f with
 |next=>obtain⟨σ',H',I,q⟩:=h;exact⟨σ',H',I.unwish,q⟩
 |brk=>obtain⟨σ',H',I,q⟩:=h;exact⟨σ',H',I.unwish,q⟩
 |cont=>obtain⟨σ',H',I,q⟩:=h;exact⟨σ',H',I.unwish,q⟩
 |ret u=>obtain⟨v,σ',H',I,r,q⟩:=h;exact⟨v,σ',H',I.unwish,r,q⟩
def PSs.nox{st:List Stmt}{t:TS}(h:PSs X.nox st t):PSs X st t:=λqx s σ H D I hw=>
 bA (h qx s σ H D (I.wish _) hw) (λ_ _ q=>q.unwish) λ_ _ z=>False.elim z
variable{st:Stmt}{rest:List Stmt}{t u:TS}{e:bi}{te:TE}{pos:bO}
def zjE:TS:=λD σ H=>D.nx σ H
def zlE(t u:TS):TS:=λD σ H=>t {D with nx:=u D} σ H
def ze8:PSs X [] zjE:=λ_ _ σ H _ I h=>cb ⟨σ,H,I,h⟩
def zbP(h1:PS X st t)(h2:PSs X rest u):PSs X (st::rest) (zlE t u):=by
 intro qx s σ H D I h
 refine dr (thn (h1 qx s σ H {D with nx:=u D} I h) λf s1 q=> ?_)
 cases f with
 |next=>
  obtain⟨σ',H',I',q⟩:=q
  exact h2 qx s1 σ' H' D I' q
 |ret v=>exact q
 |brk=>exact q
 |cont=>exact q
def ze9(h1:PS X st t):PSs X [st] t:=by
 intro qx s σ H D I h
 refine dr (thn (h1 qx s σ H D I h) λf s1 q=> ?_)
 cases f with
 |next=>exact cb q
 |ret v=>exact q
 |brk=>exact q
 |cont=>exact q
def Inv.quiet(I:Inv X qx σ H s):interactive X.env=false:=by simp[interactive,I.ok.kind]
def zjF(te:TE):TS:=λD σ H=>te σ H λ_ H1=>D.nx σ H1
def zea(he:PE X e te)(hs:bQ e none pos.line X.env=pure false:=by rfl):PS X (.Expr e pos) (zjF te):=by
 intro qx s σ H D I h
 exact wpAny_Expr_any (thn (he qx s σ H _ I h) λv s1 ⟨x,H1,I1,r1,q1⟩=>⟨σ,H1,I1,q1⟩) I.quiet hs
def zlF(te:TE):TS:=λD σ H=>te σ H D.rt
def zgx(he:PE X e te):PS X (.Return (some e) pos) (zlF te):=by
 intro qx s σ H D I h
 exact wpAny_Return_some (thn (he qx s σ H _ I h) λv s1 ⟨x,H1,I1,r1,q1⟩=>⟨x,σ,H1,I1,r1,q1⟩)
def zlG(c:TT)(t u:TS):TS:=λD σ H=>c σ H λb H1=>if b=true then t D σ H1 else u D σ H1
def zjG(hc:PT X c tc)(ha:PSs X a t)(hb:PSs X b u):PS X (.If c a b pos) (zlG tc t u):=by
 intro qx s σ H D I h
 refine wpAny_If (thn (hc qx s σ H _ I h) ?_)
 rintro d s1 ⟨H1,I1,q1⟩
 cases d with
 |true=>exact ha qx s1 σ H1 D I1 q1
 |false=>exact hb qx s1 σ H1 D I1 q1
end
abbrev TG:=V->St->Hp->(St->Hp->Prop)->Prop
abbrev TGs:=List V->St->Hp->(St->Hp->Prop)->Prop
def PG(X:Cx)(qw:bi)(t:TG):Prop:=
 ∀(qx:List (Addr×bE)) (s:be) (σ:St) (H:Hp) (v:V) (u:bc) (Q:St->Hp->Prop),Inv X qx σ H s->RelV v u->t v σ H Q->
  bg (bj X.prog X.w) X.A (cc qw X.env u) (λ_ s'=> ∃σ' H',Inv X qx σ' H' s'/\Q σ' H') X.xe s
def PGs(X:Cx)(ts:List bi)(t:TGs):Prop:=
 ∀(qx:List (Addr×bE)) (s:be) (σ:St) (H:Hp) (vs:List V) (us:List bc) (Q:St->Hp->Prop),Inv X qx σ H s->U5 vs us->t vs σ H Q->
  bg (bj X.prog X.w) X.A (assignInOrder ((bw ts X.env).map (·.2)) us) (λ_ s'=> ∃σ' H',Inv X qx σ' H' s'/\Q σ' H') X.xe s
abbrev zjH:=V->V->V->Hp->(Hp->Prop)->Prop
def zli(X:Cx)(t:zjH):Prop:=
 ∀(qx:List (Addr×bE)) (s:be) (σ:St) (H:Hp) (o i v:V) (ov iv u:bc) (Q:Hp->Prop),Inv X qx σ H s->RelV o ov->RelV i iv->RelV v u->t o i v H Q->
  bg (bj X.prog X.w) X.A (setItem ov iv u) (λ_ s'=> ∃H',Inv X qx σ H' s'/\Q H') X.xe s
abbrev TIp:=V->V->Hp->VK->Prop
def PIp(X:Cx)(op:dI)(t:TIp):Prop:=
 ∀(qx:List (Addr×bE)) (s:be) (σ:St) (H:Hp) (x y:V) (v u:bc) (Q:VK),Inv X qx σ H s->RelV x v->RelV y u->t x y H Q->
  bg (bj X.prog X.w) X.A (inplaceOp op v u) (EP X qx σ Q) X.xe s
section
variable{X:Cx}{pos:bO}
def z9C(i:Nat):TG:=λv σ H Q=>Q (σ.set i (some v)) H
def z0E{i:Nat}(hN:X.N.Nodup)(hi:X.N[i]? =some x)(hx:Loc X.env.scope x)(hf:X.fn x=true\/X.env.scope.names.lookup x=some .local:=by first|exact .inl rfl|exact .inr rfl|assumption):PG X (.Name x pos) (z9C i):=by
 intro qx s σ H v u Q I r h
 exact df (z3e I hN hi hx r (λs' I'=>⟨_,H,I',h⟩) hf)
def zlH:TGs:=λvs σ H Q=>vs=[]/\Q σ H
def zjI(t:TG)(u:TGs):TGs:=λvs σ H Q=> ∃v r,vs=v::r/\t v σ H λ σ' H'=>u r σ' H' Q
def zeb:PGs X [] zlH:=by
 intro qx s σ H vs us Q I r h
 obtain⟨e,h⟩:=h
 subst e
 cases r
 exact assignInOrder_nil ⟨σ,H,I,h⟩
def zbQ(h1:PG X e t)(h2:PGs X es u)
 (hs:(bw (e::es) X.env).map (·.2)=cc e X.env::(bw es X.env).map (·.2):=by rfl):PGs X (e::es) (zjI t u):=by
 intro qx s σ H vs us Q I r h
 obtain⟨v,vr,e1,h⟩:=h
 subst e1
 cases r with
 |cons r rr=>
  rw[hs]
  refine assignInOrder_cons (thn (h1 qx s σ H _ _ _ I r h) ?_)
  rintro _ s1 ⟨σ1,H1,I1,q1⟩
  exact h2 qx s1 σ1 H1 _ _ Q I1 rr q1
def zlI(K:W.Frag)(n:Nat)(t:TGs):TG:=λv σ H Q=> ∃a xs,v= .ref a/\SqT K H a xs/\xs.length=n/\t xs σ H Q
def zgy{k:Nat}{n:Nat}(hc:X.calm=true)(h:PGs X es t)
 (hn:(bw es X.env).length=n:=by rfl) (hst:(bw es X.env).findIdx? (·.1)=none:=by rfl):PG X (.Tuple es k pos) (zlI X.K n t):=by
 intro qx s σ H v u Q I r hw
 obtain⟨a,xs,e1,hq,hl,hw⟩:=hw
 subst e1
 cases r
 obtain⟨its,rv,ht,hz⟩:=I.tuple hq
 refine assign_Tuple_tuple (I.ok.hd hc) ht (by simp[hn,<-hl,rv.length]) hst λh' hx=> ?_
 have I1:Inv X qx σ H {s with heap:=h'}:=I.kept (t':=s.toks) λb o e=>hx b o (B3 (Heap.lt_size e)) e
 exact h qx _ σ H xs _ Q I1 (by simpa using rv) hw
def zlj(to ti:TE)(t:zjH):TG:=λv σ H Q=>to σ H λo H1=>ti σ H1 λi H2=>t o i v H2 λH3=>Q σ H3
def zdf(ho:PE X o to)(hi:PE X i ti)(hs:zli X t)
 (ha: ∀v,cc (.Subscript o i pos) X.env v=(do
  let ov<-cM [v] (bC o X.env)
  let iv<-cM [v,ov] (bC i X.env)
  standAt pos
  cM [v,ov,iv] (setItem ov iv v)
  release [v,ov,iv] []):=by intro _;rfl):PG X (.Subscript o i pos) (zlj to ti t):=by
 intro qx s σ H v u Q I r h
 rw[ha]
 refine bb (bp (thn (ho qx s σ H _ I h) ?_))
 rintro ov s1 ⟨x,H1,I1,r1,q1⟩
 refine bb (bp (thn (hi qx s1 σ H1 _ I1 q1) ?_))
 rintro iv s2 ⟨y,H2,I2,r2,q2⟩
 refine bb (bZ (bb (bp (thn (hs qx s2 σ H2 x y v ov iv u _ I2 r1 r2 r q2) ?_))))
 rintro _ s3 ⟨H3,I3,q3⟩
 exact wpAny_release ⟨σ,H3,I3,q3⟩
def zjr(te:TE)(g:TG):TS:=λD σ H=>te σ H λx H1=>g x σ H1 D.nx
def zdg(he:PE X e te)(hg:PG X tg g)(hs:cR [tg] e pos.line X.env=pure false:=by rfl)(hw:cS [tg] e X.env=pure none:=by rfl)
 (h1:(bw [tg] X.env).map (·.2)=[cc tg X.env]:=by rfl):PS X (.Assign [tg] e pos) (zjr te g):=by
 intro qx s σ H D I h
 refine wpAny_Assign_stores (thn (he qx s σ H _ I h) λv s1 ⟨x,H1,I1,r1,q1⟩=> ?_) hs hw
 rw[h1]
 exact thn (hg qx s1 σ H1 x v _ I1 r1 q1) λ_ s2 q=>q
def z2e{i:Nat}(hN:X.N.Nodup)(hi:X.N[i]? =some x)(hx:Loc X.env.scope x)(he:PE X e te)(hs:bQ e (some (.Name x pos')) pos.line X.env=pure false:=by rfl)(hf:X.fn x=true\/X.env.scope.names.lookup x=some .local:=by first|exact .inl rfl|exact .inr rfl|assumption):
 PS X (.Assign [.Name x pos'] e pos) (zjr te (z9C i)):=by
 intro qx s σ H D I h
 refine wpAny_Assign_Name (thn (he qx s σ H _ I h) λv s1 ⟨y,H1,I1,r1,q1⟩=> ?_) hs
 exact z3e I1 hN hi hx r1 (λs2 I2=>⟨_,H1,I2,q1⟩) hf
def zlJ(i:Nat)(te:TE)(ti:TIp):TS:=λD σ H=> ∃x,σ[i]? =some (some x)/\te σ H λy H1=>ti x y H1 λz H2=>D.nx (σ.set i (some z)) H2
def zgz{i:Nat}{pos':bO}(hN:X.N.Nodup)(hi:X.N[i]? =some x)(hx:Loc X.env.scope x)(he:PE X e te)(ho:PIp X op ti)(hf:X.fn x=true\/X.env.scope.names.lookup x=some .local:=by first|exact .inl rfl|exact .inr rfl|assumption):
 PS X (.AugAssign (.Name x pos') op e pos) (zlJ i te ti):=by
 intro qx s σ H D I h
 obtain⟨v,e1,h⟩:=h
 obtain⟨m,hn,hl⟩:=I.loc
 have vis:Vis X.env.scope x:=by rcases hx with k|k;exact .inl k;exact .inr (.inl k)
 obtain⟨u,r,l⟩:=hl i x v hi e1 vis
 refine wpAny_AugAssign_Name ?_
 have go:bg (bj X.prog X.w) X.A (bC e X.env) (λw s₂=>bg (bj X.prog X.w) X.A (inplaceOp op u w) (λr s₃=>bg (bj X.prog X.w) X.A (dS X.env x r) (λ_=>SP X qx D .next) X.xe s₃) X.xe s₂) X.xe s:=by
  refine thn (he qx s σ H _ I h) ?_
  rintro w s1 ⟨y,H1,I1,r1,q1⟩
  refine thn (ho qx s1 σ H1 v y u w _ I1 r r1 q1) ?_
  rintro z s2 ⟨zv,H2,I2,r2,q2⟩
  exact z3e I2 hN hi hx r2 (λs3 I3=>⟨_,H2,I3,q2⟩) hf
 rcases l with⟨hk,hm⟩|⟨hk,c,hc,hcell⟩
 .exact cI I.ok.kind hk hn hm go
 .rcases hk with hk|hk
  .exact cP I.ok.kind hk hc hcell go
  .rcases hx with k|k
   .have:X.env.scope.names.lookup x=some .free:=hk
    rw[k] at this;cases this
   .have:X.env.scope.names.lookup x=some .free:=hk
    rw[k] at this;cases this
def ipI(f:Int->Int->Int):TIp:=λx y H Q=> ∃i j,x= .int i/\y= .int j/\Q (.int (f i j)) H
def zgA:PIp X .Add (ipI λi j=>i+j):=by
 intro qx s σ H x y v u Q I r1 r2 h
 obtain⟨i,j,e1,e2,q⟩:=h
 subst e1;subst e2
 obtain⟨t,rfl⟩:=r1
 obtain⟨t',rfl⟩:=r2
 exact iadd_int ⟨.int _,H,I.tok _,⟨_,rfl⟩,q⟩
def zgB(c:TT)(tb:TS):TS:=λD σ H=> ∃W:Nat->St->Hp->Prop,(∃m,W m σ H)/\∀m σ H,W m σ H->
 c σ H λb H1=>if b=true then ∃N:St->Hp->Prop,(∀σ' H',N σ' H'->∃m',m'<m/\W m' σ' H')/\tb {D with nx:=N,ct:=N,bk:=D.nx} σ H1 else D.nx σ H1
def zbR(hp:cw (bj X.prog X.w) X.A X.env X.xe)(hc:PT X c tc)(hb:PSs X body tb):PS X (.While c body [] pos) (zgB tc tb):=by
 intro qx s σ H D I h
 obtain⟨W,⟨m0,w0⟩,turn⟩:=h
 refine wpAny_While (codeAny_whileLoop (λn s'=> ∃σ' H',Inv X qx σ' H' s'/\W n σ' H') ?_ m0 ⟨σ,H,I,w0⟩)
 rintro n s1 ⟨σ1,H1,I1,w1⟩
 refine bH hp (thn (hc qx s1 σ1 H1 _ I1 (turn n σ1 H1 w1)) ?_)
 rintro b s2 ⟨H2,I2,q2⟩
 cases b with
 |true=>
  obtain⟨N,hN,q2⟩:=q2
  rw[qy rfl]
  refine bH hp (thn (hb qx s2 σ1 H2 _ I2 q2) λf s3 q3=> ?_)
  cases f with
  |next=>
   obtain⟨σ3,H3,I3,n3⟩:=q3
   obtain⟨m',hm,w3⟩:=hN σ3 H3 n3
   exact⟨m',hm,σ3,H3,I3,w3⟩
  |cont=>
   obtain⟨σ3,H3,I3,n3⟩:=q3
   obtain⟨m',hm,w3⟩:=hN σ3 H3 n3
   exact⟨m',hm,σ3,H3,I3,w3⟩
  |brk=>exact q3
  |ret v=>exact q3
 |false=>
  rw[qh C6]
  exact cb ⟨σ1,H2,I2,q2⟩
end
structure It where
 go:Nat->Hp->Prop
 yld:Nat->Hp->V->Hp->Prop
 stop:Nat->Hp->Prop
def z9D(X:Cx)(qx:List (Addr×bE))(H:Hp)(b:Addr):Prop:=
 H b=none/\b≠X.env.locals/\b∉X.fs/\(b∈X.ex\/X.s₀.heap.objs.size<=b)/\(∀x c,X.env.cells.lookup x=some c->c≠b)/\∀p∈X.pn++qx,p.1≠b
def Inv.fpOk{s:be}(I:Inv X qx σ H s)(hb:s.heap.objs.size<=b)(hn:H' b=none):z9D X qx H' b:=by
 refine⟨hn,P6 (A2 I.lt hb),I.nofs hb, .inr (C7 I.sz hb),λx c e z=> ?_,λp hp z=> ?_⟩
 .obtain⟨v,q⟩:=I.cell x c e
  exact absurd (A2 q.lt (by rw[z];exact hb)) (D8 _)
 .exact absurd (A2 (Heap.lt_size (I.pin p hp).1) (by rw[z];exact hb)) (D8 _)
structure zg8(P:bm)(w:bo)(K:W.Frag)(tg:bi)(J:It)(fp:List Addr)(it:Addr)(tn:Nat->Heap->Prop):Prop where
 mem:it∈fp
 obj: ∀i h,tn i h->∀b∈fp,∃o,h.get? b=some o/\∀v,o.data≠ .cell v
 keep: ∀i h h',tn i h->(∀b∈fp,∀o,h.get? b=some o->h'.get? b=some o)->tn i h'
 item: ∀(X:Cx),X.prog=P->X.w=w->X.K=K->X.calm=true->∀(i:Nat) (qx:List (Addr×bE)) (s:be) (σ:St) (H:Hp) (E:bc->be->Prop),Inv X qx σ H s->(∀b∈fp,z9D X qx H b)->tn i s.heap->J.go i H->
  bg (bj P w) X.A (cp (.ref it)) (λr s1=> ∃u,r=some u/\
   bg (bj P w) X.A (bV tg (.ref it) u) (λ_ s2=> ∃x H',Inv X qx σ H' s2/\RelV x u/\J.yld i H x H'/\tn (i+1) s2.heap/\∀b∈fp,H' b=none) E s1) E s
 done: ∀(X:Cx),X.prog=P->X.w=w->X.K=K->X.calm=true->∀(i:Nat) (qx:List (Addr×bE)) (s:be) (σ:St) (H:Hp) (E:bc->be->Prop),Inv X qx σ H s->(∀b∈fp,z9D X qx H b)->tn i s.heap->J.stop i H->
  bg (bj P w) X.A (cp (.ref it)) (λr s1=>r=none/\Inv X qx σ H s1) E s
 self: ∀(A:bu) (i:Nat) (s:be) (Q:bc->be->Prop) (E:bc->be->Prop),tn i s.heap->Q (.ref it) s->bg (bj P w) A (dW (.ref it)) Q E s
abbrev TI:=St->Hp->(It->Hp->Prop)->Prop
def PIE(X:Cx)(qx:List (Addr×bE))(σ:St)(tg:bi)(R:It->Hp->Prop)(itv:bc)(s2:be):Prop:=
 ∃(it:Addr) (fp:List Addr) (tn:Nat->Heap->Prop) (J:It) (H':Hp),itv= .ref it/\Inv X qx σ H' s2/\zg8 X.prog X.w X.K tg J fp it tn/\tn 0 s2.heap/\(∀b∈fp,z9D X qx H' b)/\R J H'
def PI(X:Cx)(tg iter:bi)(wi:TI):Prop:=
 ∀(qx:List (Addr×bE)) (s:be) (σ:St) (H:Hp) (R:It->Hp->Prop),Inv X qx σ H s->wi σ H R->
  bg (bj X.prog X.w) X.A (bC iter X.env) (λv s1=>bg (bj X.prog X.w) X.A (dW v) (PIE X qx σ tg R) X.xe s1) X.xe s
def zbS{M:dY}{A:bu}{E:bc->be->Prop}{s:be}{tg:bi}{u:bc}{o:bE}{Q:Unit->be->Prop}(ho:s.heap.get? it=some o)(hc:o.cls= .type n)(hd:o.data= .fields vs)
 (hn:["enumerate", "zip", "dict_itemiterator", "dict_reverseitemiterator", "odict_iterator", "itertools.zip_longest", "itertools.pairwise"].contains n=false) (hQ:Q () s):bg M A (bV tg (.ref it) u) Q E s:=by
 unfold bV
 cases tg<;>first
  |exact bf hQ
  |(cases u<;>first
   |exact bf hQ
   |(refine bb (dJ ho ?_)
     rw[hc,hd]
     show bg M A (if(["enumerate", "zip", "dict_itemiterator", "dict_reverseitemiterator", "odict_iterator", "itertools.zip_longest", "itertools.pairwise"].contains n&&vs[0]? ==some (du _))=true then _ else _) Q E s
     rw[qh (by intro h;rw[hn,T4] at h;cases h)]
     exact bf hQ))
def Itl(K:W.Frag)(a:Addr):It:=
 ⟨λi H=> ∃xs x,SqL K H a xs/\xs[i]? =some x,λi H x H'=>H'=H/\∀xs,SqL K H a xs->xs[i]? =some x,λi H=> ∃xs,SqL K H a xs/\xs.length<=i⟩
def Itt(K:W.Frag)(a:Addr):It:=
 ⟨λi H=> ∃xs x,SqT K H a xs/\xs[i]? =some x,λi H x H'=>H'=H/\∀xs,SqT K H a xs->xs[i]? =some x,λi H=> ∃xs,SqT K H a xs/\xs.length<=i⟩
def Itr(lo:Int)(n:Nat):It:=⟨λi _=>i<n,λi H x H'=>H'=H/\x= .int (lo+i),λi _=>n<=i⟩
def z9E{P:bm}{w:bo}{K:W.Frag}{tg:bi}(a it:Addr):zg8 P w K tg (Itl K a) [it] it (λi h=>h.IsListIter it a i) where
 mem:=by simp
 obj:=λi h st b hb=>by
  have e:b=it:=by simpa using hb
  subst e
  obtain⟨o,e,c,d⟩:=st
  exact⟨o,e,λv z=>by rw[d] at z;cases z⟩
 keep:=λi h h' st k=>st.at λo e=>k it (by simp) o e
 item:=by
  intro X hP hw hK hc i qx s σ H E I hf st hg
  subst hP hw hK
  obtain⟨xs,x,hq,hx⟩:=hg
  obtain⟨its,rv,p,hz⟩:=I.list hq
  obtain⟨u,hu,ru⟩:=rv.get hx
  obtain⟨f0,f1,f2,f3,f4,f5⟩:=hf it (by simp)
  refine bX st p.isList (x:=u) (by simpa using hu) λh' st' sb=> ?_
  have I1:Inv X qx σ H {s with heap:=h'}:=I.turned (t':=s.toks) (λb o hb e=>(sb.2 b hb).trans e) f0 f1 f3 f4 f5
  obtain⟨o,e,c,d⟩:=id st'
  exact⟨u,rfl,zbS (s:={s with heap:=h'}) e c d (by decide) ⟨x,H,I1,ru,⟨rfl,λys hy=>by rw[I.list_inj hy hq];exact hx⟩,st',λb hb=>(hf b hb).1⟩⟩
 done:=by
  intro X hP hw hK hc i qx s σ H E I hf st hg
  subst hP hw hK
  obtain⟨xs,hq,hx⟩:=hg
  obtain⟨its,rv,p,hz⟩:=I.list hq
  obtain⟨f0,f1,f2,f3,f4,f5⟩:=hf it (by simp)
  have hl:=rv.length
  exact bY (I.ok.hd hc) st p.isList (by simp;lia) λh' eb=>⟨rfl,I.turned (t':=s.toks) (λb o hb e=>eb b o hb e) f0 f1 f3 f4 f5⟩
 self:=λ_ _ _ _ _ st h=>wpAny_pyIter_listiter st h
def z8H{P:bm}{w:bo}{K:W.Frag}{tg:bi}(a it:Addr):zg8 P w K tg (Itt K a) [it] it (λi h=>h.IsTupleIter it a i) where
 mem:=by simp
 obj:=λi h st b hb=>by
  have e:b=it:=by simpa using hb
  subst e
  obtain⟨o,e,c,d⟩:=st
  exact⟨o,e,λv z=>by rw[d] at z;cases z⟩
 keep:=λi h h' st k=>st.at λo e=>k it (by simp) o e
 item:=by
  intro X hP hw hK hc i qx s σ H E I hf st hg
  subst hP hw hK
  obtain⟨xs,x,hq,hx⟩:=hg
  obtain⟨its,rv,p,hz⟩:=I.tuple hq
  obtain⟨u,hu,ru⟩:=rv.get hx
  obtain⟨f0,f1,f2,f3,f4,f5⟩:=hf it (by simp)
  refine wpAny_pyNext_tuple_item st (show s.heap.IsTuple a its.toArray from p) (x:=u) (by simpa using hu) λh' st' sb=> ?_
  have I1:Inv X qx σ H {s with heap:=h'}:=I.turned (t':=s.toks) (λb o hb e=>(sb.2 b hb).trans e) f0 f1 f3 f4 f5
  obtain⟨o,e,c,d⟩:=id st'
  exact⟨u,rfl,zbS (s:={s with heap:=h'}) e c d (by decide) ⟨x,H,I1,ru,⟨rfl,λys hy=>by rw[I.tuple_inj hy hq];exact hx⟩,st',λb hb=>(hf b hb).1⟩⟩
 done:=by
  intro X hP hw hK hc i qx s σ H E I hf st hg
  subst hP hw hK
  obtain⟨xs,hq,hx⟩:=hg
  obtain⟨its,rv,p,hz⟩:=I.tuple hq
  obtain⟨f0,f1,f2,f3,f4,f5⟩:=hf it (by simp)
  have hl:=rv.length
  exact wpAny_pyNext_tuple_end (I.ok.hd hc) st (show s.heap.IsTuple a its.toArray from p) (by simp;lia) λh' eb=>⟨rfl,I.turned (t':=s.toks) (λb o hb e=>eb b o hb e) f0 f1 f3 f4 f5⟩
 self:=λ_ _ _ _ _ st h=>wpAny_pyIter_tupleiter st h
def z8I{P:bm}{w:bo}{K:W.Frag}{tg:bi}(it:Addr)(lo:Int)(n:Nat):zg8 P w K tg (Itr lo n) [it] it (λi h=>IsRangeIter h it (lo+(i:Nat)*1) ((n:Int) -(i:Nat)) 1) where
 mem:=by simp
 obj:=λi h st b hb=>by
  have e:b=it:=by simpa using hb
  subst e
  exact⟨_,st,λv z=>by
   have z':Data.fields _=Data.cell v:=z
   cases z'⟩
 keep:=λi h h' st k=>k it (by simp) _ st
 item:=by
  intro X hP hw hK hc i qx s σ H E I hf st hg
  subst hP hw hK
  obtain⟨f0,f1,f2,f3,f4,f5⟩:=hf it (by simp)
  have W:=Walks.range (prog:=X.prog) (w:=X.w) (I.ok.hd hc) it lo 1 n
  refine W.item i s _ _ hg st λv h' tk hv st' kk=> ?_
  obtain⟨t,rfl⟩:=hv
  have I1:Inv X qx σ H {s with heap:=h',toks:=tk}:=I.turned (λb o hb e=>kk b o (by simpa using hb) e) f0 f1 f3 f4 f5
  refine⟨_,rfl,zbS (s:={s with heap:=h',toks:=tk}) (n:= "range_iterator") st' rfl rfl (by decide) ⟨.int (lo+i),H,I1,⟨t, ?_⟩,⟨rfl,rfl⟩,st',λb hb=>(hf b hb).1⟩⟩
  rw[Int.mul_one]
 done:=by
  intro X hP hw hK hc i qx s σ H E I hf st hg
  subst hP hw hK
  obtain⟨f0,f1,f2,f3,f4,f5⟩:=hf it (by simp)
  exact wpAny_pyNext_range_end (I.ok.hd hc) st (by have:n<=i:=hg;lia) λh' eb=>⟨rfl,I.turned (t':=s.toks) (λb o hb e=>eb b o hb e) f0 f1 f3 f4 f5⟩
 self:=λ_ _ _ _ _ st h=>wpAny_pyIter_rangeiter st h
section
variable{X:Cx}{tg:bi}
def z7R{R:It->Hp->Prop}{E:bc->be->Prop}{lo hi:Int}{t u v:Tok}{tk:Nat}(I:Inv X qx σ H s)(h1: -(2^62)<=lo)(h2:lo<2^62)(h3: -(2^62)<=hi)(h4:hi<2^62)
 (q:R (Itr lo (hi -lo).toNat) H):bg (bj X.prog X.w) X.A (dW (.ref s.heap.objs.size)) (PIE X qx σ tg R) E {s with heap:=s.heap.push {cls:= .type "range",data:= .fields #[.int lo t, .int hi u, .int 1 v]},toks:=tk}:=by
 refine wpAny_pyIter_range (IsRange.new ..) (small_one h1 h2 h3 h4) ?_
 have I1:Inv X qx σ H {s with heap:=s.heap.push {cls:= .type "range",data:= .fields #[.int lo t, .int hi u, .int 1 v]},toks:=tk}:=I.kept λb o e=>Heap.get?_push_of_some _ e
 refine⟨(s.heap.push {cls:= .type "range",data:= .fields #[.int lo t, .int hi u, .int 1 v]}).objs.size,[(s.heap.push {cls:= .type "range",data:= .fields #[.int lo t, .int hi u, .int 1 v]}).objs.size],_,_,H,rfl,
  I1.kept (t':=tk) λb o e=>Heap.get?_push_of_some _ e,z8I _ lo (hi -lo).toNat, ?_,λb hb=> ?_,q⟩
 .have e1:lo+((0:Nat):Int)*1=lo:=by simp
  have e2:(((hi -lo).toNat:Nat):Int) -((0:Nat):Int)=Builtin.Range.rangeSize lo hi 1:=by rw[rangeSize_one];split<;>lia
  show IsRangeIter _ _ (lo+((0:Nat):Int)*1) ((((hi -lo).toNat:Nat):Int) -((0:Nat):Int)) 1
  rw[e1,e2]
  exact Heap.get?_push_size _ rfl
 .have e:b=(s.heap.push {cls:= .type "range",data:= .fields #[.int lo t, .int hi u, .int 1 v]}).objs.size:=by simpa using hb
  subst e
  exact I1.fpOk (i6 _) (I1.hok.fresh (i6 _))
def zjJ(ta:TA):TI:=λ σ H R=>ta σ H λvs H1=> ∃j:Int,vs=[.int j]/\-(2^62)<=j/\j<2^62/\R (Itr 0 j.toNat) H1
def zjK(ta:TA):TI:=λ σ H R=>ta σ H λvs H1=> ∃i j:Int,vs=[.int i, .int j]/\(-(2^62)<=i/\i<2^62/\-(2^62)<=j/\j<2^62)/\R (Itr i (j -i).toNat) H1
def z9F{p pos:bO}(hg:Gl X "range")(hm:X.mg "range" =none)(ha:PA X [a] ta)(hs:bh [a] X.env=[(false,bC a X.env)]:=by rfl):PI X tg (.Call (.Name "range" p) [a] [] pos) (zjJ ta):=by
 intro qx s σ H R I h
 refine Call_ (z5M I hg hm boot_range (PyProof.Rows.callWith_type1 (thn (ha pos qx s σ H _ I h) λus s1 ⟨vs,H1,I1,r1,q1⟩=> ?_) hs rfl))
 obtain⟨j,e,q1,q2,q⟩:=q1
 subst e
 cases r1 with
 |cons r rr=>
  cases rr
  obtain⟨t,rfl⟩:=r
  exact call_range_1 (z7R I1 ⋯ ⋯ q1 q2 (by simpa using q))
def z9G{p pos:bO}(hg:Gl X "range")(hm:X.mg "range" =none)(ha:PA X [a,b] ta)(hs:bh [a,b] X.env=[(false,bC a X.env),(false,bC b X.env)]:=by rfl)(hs2:bh [b] X.env=[(false,bC b X.env)]:=by rfl):
 PI X tg (.Call (.Name "range" p) [a,b] [] pos) (zjK ta):=by
 intro qx s σ H R I h
 refine Call_ (z5M I hg hm boot_range (PyProof.Rows.callWith_type1 (thn (ha pos qx s σ H _ I h) λus s1 ⟨vs,H1,I1,r1,q1⟩=> ?_) (by rw[hs,hs2]) (by rw[hs2];rfl)))
 obtain⟨i,j,e,⟨q1,q2,q3,q4⟩,q⟩:=q1
 subst e
 cases r1 with
 |cons r rr=>
  cases rr with
  |cons r' rr=>
   cases rr
   obtain⟨t,rfl⟩:=r
   obtain⟨t',rfl⟩:=r'
   exact call_range_2 (z7R I1 q1 q2 q3 q4 q)
def zlK(wi:TI)(g:TG)(tb:TS):TS:=λD σ H=>wi σ H λJ H1=> ∃W:Nat->Nat->St->Hp->Prop,(∃m,W 0 m σ H1)/\∀i m σ H,W i m σ H->
 (J.stop i H/\D.nx σ H)\/(J.go i H/\∃N:St->Hp->Prop,(∀σ' H',N σ' H'->∃m',m'<m/\W (i+1) m' σ' H')/\∀x H',J.yld i H x H'->g x σ H' λ σ2 H2=>tb {D with nx:=N,ct:=N,bk:=D.nx} σ2 H2)
def z7S(fp:List Addr)(h:Heap):List (Addr×bE):=fp.filterMap λb=>(h.get? b).map λo=>(b,o)
def z0N{h:Heap}(hb:b∈fp)(e:h.get? b=some o):(b,o)∈z7S fp h:=u03.mpr ⟨b,hb,by rw[e];rfl⟩
def z9H{h:Heap}{p:Addr×bE}(hp:p∈z7S fp h):p.1∈fp/\h.get? p.1=some p.2:=by
 obtain⟨b,hb,e⟩:=u03.mp hp
 cases q:h.get? b with
 |none=>rw[q] at e;cases e
 |some o=>
  rw[q] at e
  have e':(b,o)=p:=Option.some.inj e
  subst e'
  exact⟨hb,q⟩
def Inv.pinned{s:be}(I:Inv X qx σ H s)(hf: ∀b∈fp,z9D X qx H b)(ho: ∀b∈fp,∃o,s.heap.get? b=some o/\∀v,o.data≠ .cell v):Inv X (qx++z7S fp s.heap) σ H s:=
 I.pins_of λp hp=>(l4.mp hp).elim (λz=>I.pin p (i4 _ z)) λz=>by
  obtain⟨hb,e⟩:=z9H z
  obtain⟨f0,f1,f2,_⟩:=hf p.1 hb
  obtain⟨o,e',d⟩:=ho p.1 hb
  rw[e] at e';cases e'
  exact⟨e,f0,f1,f2,d⟩
def Inv.unpinned(I:Inv X (qx++pl) σ H s):Inv X qx σ H s:=I.pins_of λp hp=>I.pin p (i4 _ (i8 _ hp))
def z9I{pos:bO}(hp:cw (bj X.prog X.w) X.A X.env X.xe)(hc:X.calm=true)(hi:PI X tg iter wi)(hg:PG X tg g)(hb:PSs X body tb)
 (hs: ∀x,br iter X.env x=pure x:=by intro _;rfl):PS X (.For tg iter body [] pos) (zlK wi g tb):=by
 intro qx s σ H D I h
 refine wpAny_For (thn (hi qx s σ H _ I h) λv s1 h1=>thn h1 λitv s2 h2=> ?_) hs
 obtain⟨it,fp,tn,J,H2,e,I2,T,st2,f2,W,⟨m0,w0⟩,turn⟩:=h2
 subst e
 have stat: ∀{H':Hp},(∀b∈fp,H' b=none)->∀b∈fp,z9D X qx H' b:=λhn b hb=>⟨hn b hb,(f2 b hb).2⟩
 refine codeAny_forLoop_any (λn s'=> ∃i σ' H',Inv X qx σ' H' s'/\tn i s'.heap/\(∀b∈fp,H' b=none)/\W i n σ' H') ?_ m0 ⟨0,σ,H2,I2,st2,λb hb=>(f2 b hb).1,w0⟩
 rintro n s3 ⟨i,σ3,H3,I3,st3,fr3,w3⟩
 rcases turn i n σ3 H3 w3 with⟨stop,qn⟩|⟨go,N,hN,step⟩
 .refine bH hp (thn (T.done X rfl rfl rfl hc i qx s3 σ3 H3 X.xe I3 (stat fr3) st3 stop) ?_)
  rintro r s4 ⟨hr,I4⟩
  subst hr
  exact cb ⟨σ3,H3,I4,qn⟩
 .refine bH hp (thn (T.item X rfl rfl rfl hc i qx s3 σ3 H3 X.xe I3 (stat fr3) st3 go) ?_)
  rintro r s4 ⟨u,hr,h4⟩
  subst hr
  refine bH hp (thn h4 ?_)
  rintro _ s5 ⟨x,H5,I5,r5,y5,st5,fr5⟩
  have I5':=I5.pinned (stat fr5) (T.obj _ _ st5)
  refine bH hp (thn (hg _ s5 σ3 H5 x u _ I5' r5 (step x H5 y5)) ?_)
  rintro _ s6 ⟨σ6,H6,I6,q6⟩
  refine bH hp (thn (hb _ s6 σ6 H6 _ I6 q6) λf s7 q7=> ?_)
  have again: ∀{σ7:St} {H7:Hp},Inv X (qx++z7S fp s5.heap) σ7 H7 s7->N σ7 H7->∃m,m<n/\∃i σ' H',Inv X qx σ' H' s7/\tn i s7.heap/\(∀b∈fp,H' b=none)/\W i m σ' H':=λ{σ7 H7} I7 n7=>by
   obtain⟨m',hm,w7⟩:=hN σ7 H7 n7
   refine⟨m',hm,i+1,σ7,H7,I7.unpinned,T.keep _ _ _ st5 λb hb o e=>(I7.pin (b,o) (i4 _ (i4 _ (z0N hb e)))).1,λb hb=> ?_,w7⟩
   obtain⟨o,e,d⟩:=T.obj _ _ st5 b hb
   exact(I7.pin (b,o) (i4 _ (i4 _ (z0N hb e)))).2.1
  cases f with
  |next=>obtain⟨σ7,H7,I7,n7⟩:=q7;exact again I7 n7
  |cont=>obtain⟨σ7,H7,I7,n7⟩:=q7;exact again I7 n7
  |brk=>obtain⟨σ7,H7,I7,q7⟩:=q7;exact⟨σ7,H7,I7.unpinned,q7⟩
  |ret v=>obtain⟨x7,σ7,H7,I7,r7,q7⟩:=q7;exact⟨x7,σ7,H7,I7.unpinned,r7,q7⟩
end
abbrev R2:=V->V->Hp->VK->Prop
def OpR(X:Cx)(f:bc->bc->fb bc)(r:R2):Prop:=
 ∀(qx:List (Addr×bE)) (s:be) (σ:St) (H:Hp) (x y:V) (v u:bc) (Q:VK),Inv X qx σ H s->RelV x v->RelV y u->r x y H Q->
  bg (bj X.prog X.w) X.A (f v u) (EP X qx σ Q) X.xe s
def UnR(X:Cx)(f:bc->fb bc)(r:V->Hp->VK->Prop):Prop:=
 ∀(qx:List (Addr×bE)) (s:be) (σ:St) (H:Hp) (x:V) (v:bc) (Q:VK),Inv X qx σ H s->RelV x v->r x H Q->
  bg (bj X.prog X.w) X.A (f v) (EP X qx σ Q) X.xe s
def CallR(X:Cx)(f:bc)(r:List V->Hp->VK->Prop):Prop:=
 ∀(qx:List (Addr×bE)) (s:be) (σ:St) (H:Hp) (xs:List V) (us:List bc) (Q:VK),Inv X qx σ H s->U5 xs us->r xs H Q->
  bg (bj X.prog X.w) X.A (call f us) (EP X qx σ Q) X.xe s
def zlL(X:Cx)(r:V->Hp->(Bool->Hp->Prop)->Prop):Prop:=
 ∀(qx:List (Addr×bE)) (s:be) (σ:St) (H:Hp) (x:V) (v:bc) (Q:Bool->Hp->Prop),Inv X qx σ H s->RelV x v->r x H Q->
  bg (bj X.prog X.w) X.A (truthy v) (TP X qx σ Q) X.xe s
def tOp(r:R2)(ta tb:TE):TE:=λ σ H Q=>ta σ H λx H1=>tb σ H1 λy H2=>r x y H2 Q
def tUn(r:V->Hp->VK->Prop)(ta:TE):TE:=λ σ H Q=>ta σ H λx H1=>r x H1 Q
def rI(C:Int->Int->Prop)(g:Int->Int->V):R2:=λx y H Q=> ∃i j,x= .int i/\y= .int j/\C i j/\Q (g i j) H
def rI0(g:Int->Int->V):R2:=λx y H Q=> ∃i j,x= .int i/\y= .int j/\Q (g i j) H
def rU(g:Int->V):V->Hp->VK->Prop:=λx H Q=> ∃i,x= .int i/\Q (g i) H
section
variable{X:Cx}{a b c:bi}{ta tb tc:TE}{pos:bO}
def zjL(ha:PE X a ta)(hb:PE X b tb){R:V->V->Hp->Prop}(I:Inv X qx σ H s)
 (h:ta σ H λx H1=>tb σ H1 λy H2=>R x y H2) {Q:bc->be->Prop} {f:bc->bc->fb bc}
 (hf: ∀v u s2 x y H2,Inv X qx σ H2 s2->RelV x v->RelV y u->R x y H2->bg (bj X.prog X.w) X.A (f v u) Q X.xe s2):
 bg (bj X.prog X.w) X.A (bC a X.env) (λv s₁=>bg (bj X.prog X.w) X.A (bC b X.env) (λu s₂=>bg (bj X.prog X.w) X.A (f v u) Q X.xe s₂) X.xe s₁) X.xe s:=by
 refine thn (ha qx s σ H _ I h) ?_
 rintro v s1 ⟨x,H1,I1,r1,q1⟩
 refine thn (hb qx s1 σ H1 _ I1 q1) ?_
 rintro u s2 ⟨y,H2,I2,r2,q2⟩
 exact hf v u s2 x y H2 I2 r1 r2 q2
def zjM(ho:OpR X (bP op) r)(ha:PE X a ta)(hb:PE X b tb):PE X (.BinOp a op b pos) (tOp r ta tb):=by
 intro qx s σ H Q I h
 exact wpAny_BinOp (zjL ha hb I h λv u s2 x y H2 I2 rx ry q=>ho qx s2 σ H2 x y v u Q I2 rx ry q)
def zjN{r:V->Hp->VK->Prop}(ho:UnR X (unaryOp op) r)(ha:PE X a ta):PE X (.UnaryOp op a pos) (tUn r ta):=by
 intro qx s σ H Q I h
 exact UnaryOp_ (thn (ha qx s σ H _ I h) λv s1 ⟨x,H1,I1,r1,q1⟩=>ho qx s1 σ H1 x v Q I1 r1 q1)
def opI{f:bc->bc->fb bc}{C:Int->Int->Prop}{g:Int->Int->Int}
 (rule: ∀i j (t u:Tok) s (Q:bc->be->Prop) (E:bc->be->Prop),C i j->Q (.int (g i j) s.toks) {s with toks:=s.toks+1}->bg (bj X.prog X.w) X.A (f (.int i t) (.int j u)) Q E s):
 OpR X f (rI C λi j=> .int (g i j)):=by
 intro qx s σ H x y v u Q I rx ry h
 obtain⟨i,j,rfl,rfl,hc,q⟩:=h
 obtain⟨t,rfl⟩:=rx
 obtain⟨t',rfl⟩:=ry
 exact rule i j t t' s _ _ hc ⟨.int (g i j),H,I.tok _,⟨_,rfl⟩,q⟩
def zlk{f:bc->bc->fb bc}{g:Int->Int->Int}
 (rule: ∀i j (t u:Tok) s (Q:bc->be->Prop) (E:bc->be->Prop),Q (.int (g i j) s.toks) {s with toks:=s.toks+1}->bg (bj X.prog X.w) X.A (f (.int i t) (.int j u)) Q E s):
 OpR X f (rI0 λi j=> .int (g i j)):=by
 intro qx s σ H x y v u Q I rx ry h
 obtain⟨i,j,rfl,rfl,q⟩:=h
 obtain⟨t,rfl⟩:=rx
 obtain⟨t',rfl⟩:=ry
 exact rule i j t t' s _ _ ⟨.int (g i j),H,I.tok _,⟨_,rfl⟩,q⟩
def zll{f:bc->bc->fb bc}{g:Int->Int->Bool}
 (rule: ∀i j (t u:Tok) s (Q:bc->be->Prop) (E:bc->be->Prop),Q (.bool (g i j)) s->bg (bj X.prog X.w) X.A (f (.int i t) (.int j u)) Q E s):
 OpR X f (rI0 λi j=> .bl (g i j)):=by
 intro qx s σ H x y v u Q I rx ry h
 obtain⟨i,j,rfl,rfl,q⟩:=h
 obtain⟨t,rfl⟩:=rx
 obtain⟨t',rfl⟩:=ry
 exact rule i j t t' s _ _ ⟨.bl (g i j),H,I,rfl,q⟩
def zg9(i j:Int):Prop:=0<j/\j<2^200
def zjO{x j:Int}(h1:0<j)(h2:j<2^200):Builtin.divisionGoesByPylong x j=false:=by
 refine PyProof.noPylong_of_log2 ?_
 have h3:j.natAbs.log2<200:=(Nat.log2_lt ⋯).mpr ⋯
 lia
def zga(i j:Int):Prop:=0<=j/\j<=1000000/\i.natAbs<2^64
def zdh(i j:Int):Prop:=(-(2^64)<i/\i<2^64)\/(-(2^64)<j/\j<2^64)
def zdh.ok{i j:Int}(h:zdh i j):IntMulOk i j:=by
 rcases h with⟨h1,h2⟩|⟨h1,h2⟩
 .exact .of_left (intBits_le_64 h1 h2)
 .exact .of_right (intBits_le_64 h1 h2)
def zgC:OpR X (bP .Add) (rI0 λi j=> .int (i+j)):=zlk λ_ _ _ _ _ _ _ q=>add_int q
def zgD:OpR X (bP .Sub) (rI0 λi j=> .int (i -j)):=zlk λ_ _ _ _ _ _ _ q=>sub_int q
def zgE:OpR X (bP .Mult) (rI zdh λi j=> .int (i*j)):=opI λ_ _ _ _ _ _ _ hc q=>mul_int q hc.ok
def zec:OpR X (bP .FloorDiv) (rI zg9 λi j=> .int (i/j)):=opI λi j _ _ _ _ _ hc q=>by
 have h1:(0:Int)<j:=hc.1
 have h2:j<2^200:=hc.2
 exact floordiv_int ⋯ (by rw[Int.fdiv_eq_ediv_of_nonneg i ⋯];exact q) (.inl (zjO h1 h2))
def zgF:OpR X (bP .Mod) (rI (λ_ j=>0<j) λi j=> .int (i %j)):=opI λi j _ _ _ _ _ hc q=>by
 have h1:(0:Int)<j:=hc
 exact mod_int' ⋯ (by rw[Int.fmod_eq_emod_of_nonneg i ⋯];exact q)
def zgG:OpR X (bP .Pow) (rI zga λi j=> .int (i^j.toNat)):=opI λ_ _ _ _ _ _ _ hc q=>pow_int_small hc.1 hc.2.1 hc.2.2 q
def unI{f:bc->fb bc}{g:Int->Int}
 (rule: ∀i (t:Tok) s (Q:bc->be->Prop) (E:bc->be->Prop),Q (.int (g i) s.toks) {s with toks:=s.toks+1}->bg (bj X.prog X.w) X.A (f (.int i t)) Q E s):
 UnR X f (rU λi=> .int (g i)):=by
 intro qx s σ H x v Q I rx h
 obtain⟨i,rfl,q⟩:=h
 obtain⟨t,rfl⟩:=rx
 exact rule i t s _ _ ⟨.int (g i),H,I.tok _,⟨_,rfl⟩,q⟩
def zgH:UnR X (unaryOp .USub) (rU λi=> .int (-i)):=unI λ_ _ _ _ _ q=>neg_int q
def zdi{k k':Bool}(I:Inv X qx σ H s)(q:Q (.bl k) H)(e:k=k'):EP X qx σ Q (.bool k') s:=by
 subst e
 exact⟨.bl k,H,I,rfl,q⟩
def zjP:OpR X (bI .Lt) (rI0 λi j=> .bl (decide (i<j))):=zll λ_ _ _ _ _ _ _ q=>lt_int q
def zjQ:OpR X (bI .Gt) (rI0 λi j=> .bl (decide (j<i))):=zll λ_ _ _ _ _ _ _ q=>gt_int q
def zgI:OpR X (bI .Is) (λx y H Q=>y= .non/\Q (.bl (decide (x= .non))) H):=by
 intro qx s σ H x y v u Q I rx ry h
 obtain⟨rfl,q⟩:=h
 cases ry
 refine is_none_gen (zdi I q ?_)
 cases x<;>first
  |(cases rx;rfl)
  |(obtain⟨t,rfl⟩:=rx;rfl)
def zed:OpR X (bI .IsNot) (λx y H Q=>y= .non/\Q (.bl (!decide (x= .non))) H):=by
 intro qx s σ H x y v u Q I rx ry h
 obtain⟨rfl,q⟩:=h
 cases ry
 refine isnot_none_gen (zdi I q ?_)
 cases x<;>first
  |(cases rx;rfl)
  |(obtain⟨t,rfl⟩:=rx;rfl)
def OpR.or(h:OpR X f r)(h':OpR X f r'):OpR X f (λx y H Q=>r x y H Q\/r' x y H Q):=by
 intro qx s σ H x y v u Q I rx ry q
 rcases q with q|q
 .exact h qx s σ H x y v u Q I rx ry q
 .exact h' qx s σ H x y v u Q I rx ry q
def j8 b{op:dM}(h:op≠ .In:=by decide)(h2:op≠ .NotIn:=by decide):bL op b=false:=by
 have e1:(op==CmpOp.In)=false:=by cases op<;>first|rfl|exact absurd rfl h
 have e2:(op==CmpOp.NotIn)=false:=by cases op<;>first|rfl|exact absurd rfl h2
 cases b<;>simp[bL,e1,e2]
def zee(ho:OpR X (bI op) r)(ha:PE X a ta)(hb:PE X b tb)(hm:bL op b=false):PE X (.Compare a [op] [b] pos) (tOp r ta tb):=by
 intro qx s σ H Q I h
 exact wpAny_Compare1 (zjL ha hb I h λv u s2 x y H2 I2 rx ry q=>ho qx s2 σ H2 x y v u Q I2 rx ry q) hm
def zjR(t:TE):TT:=λ σ H Q=>t σ H λx H'=> ∃k,x= .bl k/\Q k H'
def zef(ho:OpR X (bI op) r)(ha:PE X a ta)(hb:PE X b tb)(hm:bL op b=false):PT X (.Compare a [op] [b] pos) (zjR (tOp r ta tb)):=by
 intro qx s σ H Q I h
 refine wpAny_isTrue_Compare1 (thn (ha qx s σ H _ I h) λv s1 ⟨x,H1,I1,r1,q1⟩=>thn (hb qx s1 σ H1 _ I1 q1) λu s2 ⟨y,H2,I2,r2,q2⟩=>
  thn (ho qx s2 σ H2 x y v u _ I2 r1 r2 q2) λc s3 ⟨z,H3,I3,r3,k,e,q3⟩=> ?_) hm
 subst e
 cases r3
 exact bJ ⟨H3,I3,q3⟩
def TruV(K:W.Frag)(x:V)(H:Hp)(k:Bool):Prop:=
 match x with
 | .non=>k=false
 | .bl b=>k=b
 | .int i=>k=(i !=0)
 | .str y=>y.length<=qg/\k=((y.length:Int) !=0)
 | .byt y=>y.size<=qg/\k=((y.size:Int) !=0)
 | .ref p=>(∃xs,SqL K H p xs/\k= !xs.isEmpty)\/(∃xs,SqT K H p xs/\k= !xs.isEmpty)\/∃kvs,H p=some (.dK kvs)/\k= !kvs.isEmpty
 |_=>False
def z8J{κ:Type}{kvs:List (κ×V)}{vs:List (κ×bc)}(r:KV kvs vs):(!vs.isEmpty)= !kvs.isEmpty:=by
 cases r<;>rfl
def z4q{xs:List V}{its:List bc}(r:U5 xs its):(!its.toArray.isEmpty)= !xs.isEmpty:=by
 cases r<;>simp
def z5N:(qg:Nat)<2^63:=by rw[dy];decide
def zgJ:zlL X (λx H Q=> ∃k,TruV X.K x H k/\Q k H):=by
 intro qx s σ H x v Q I rx h
 obtain⟨k,e,q⟩:=h
 have hl:=z5N
 have hs:qg=16777216:=dy
 cases x with
 |non=>
  cases rx
  have e':k=false:=e
  subst e'
  exact truthy_none ⟨H,I,q⟩
 |bl b=>
  cases rx
  have e':k=b:=e
  subst e'
  exact bJ ⟨H,I,q⟩
 |int i=>
  obtain⟨t,rfl⟩:=rx
  have e':k=(i !=0):=e
  subst e'
  exact PySem.P.truthy_int ⟨H,I,q⟩
 |str y=>
  obtain⟨t,rfl⟩:=rx
  obtain⟨hy,e'⟩:y.length<=qg/\k=((y.length:Int) !=0):=e
  subst e'
  exact PySem.P.truthy_str ⋯ ⟨H,I.tok _,q⟩
 |byt y=>
  obtain⟨t,rfl⟩:=rx
  obtain⟨hy,e'⟩:y.size<=qg/\k=((y.size:Int) !=0):=e
  subst e'
  exact W.truthy_bytes ⋯ ⟨H,I.tok _,q⟩
 |ref p=>
  cases rx
  have e':(∃xs,SqL X.K H p xs/\k= !xs.isEmpty)\/(∃xs,SqT X.K H p xs/\k= !xs.isEmpty)\/∃kvs,H p=some (.dK kvs)/\k= !kvs.isEmpty:=e
  rcases e' with⟨xs,hx,e'⟩|⟨xs,hx,e'⟩|⟨kvs,hx,e'⟩
  .subst e'
   obtain⟨its,r,pl,hz⟩:=I.list hx
   have hlen:=r.length
   exact wpAny_truthy_list pl.isList (by erw[m9];lia) ⟨H,I.tok _,by rw[z4q r];exact q⟩
  .subst e'
   obtain⟨its,r,pl,hz⟩:=I.tuple hx
   have hlen:=r.length
   exact truthy_tuple pl (by erw[m9];lia) ⟨H,I.tok _,by rw[z4q r];exact q⟩
  .subst e'
   obtain⟨hz,hS,vs,r,m⟩:kvs.length<=qg/\(p==bz)=false/\∃vs,KV kvs vs/\s.heap.DictOf (Q0 X.prog X.w) p vs:=I.hok p _ hx
   have hlen:kvs.length=vs.length:=Paired.length r
   exact wpAny_truthy_dict hS m ⋯ ⟨H,I.tok _,by rw[z8J r];exact q⟩
 |_=>exact(show False from e).elim
def zbT(ha:PE X a ta)(he: ∀whole,dU a X.env whole=(do let v<-whole;standAt a.pos;cM [v] (truthy v))):
 PT X a (λ σ H Q=>ta σ H λx H'=> ∃k,TruV X.K x H' k/\Q k H'):=by
 intro qx s σ H Q I h
 exact isTrue_plain (thn (ha qx s σ H _ I h) λv s1 ⟨x,H1,I1,r1,q1⟩=>zgJ qx s1 σ H1 x v Q I1 r1 q1) (he _)
def z8K:OpR X (bP .Add) (λx y H Q=> ∃i j,x= .str i/\y= .str j/\i.length+j.length<=qg/\Q (.str (i++j)) H):=by
 intro qx s σ H x y v u Q I rx ry h
 obtain⟨i,j,rfl,rfl,hz,q⟩:=h
 obtain⟨t,rfl⟩:=rx
 obtain⟨t',rfl⟩:=ry
 exact add_str (λt' tk=>⟨.str (i++j),H,I.tok _,⟨_,rfl⟩,q⟩) hz
def z4g(r:U5 [x] us): ∃u,us=[u]/\RelV x u:=by
 cases r with
 |cons r1 r2=>cases r2;exact⟨_,rfl,r1⟩
def zeg(r:U5 [x,y] us): ∃u w',us=[u,w']/\RelV x u/\RelV y w':=by
 cases r with
 |cons r1 r2=>
  cases r2 with
  |cons r3 r4=>cases r4;exact⟨_,_,rfl,r1,r3⟩
def zbU:CallR X (.builtin "abs") (λxs H Q=> ∃i,xs=[.int i]/\Q (.int (if i<0 then -i else i)) H):=by
 intro qx s σ H xs us Q I r h
 obtain⟨i,rfl,q⟩:=h
 obtain⟨u,rfl,t,rfl⟩:=z4g r
 exact call_abs_int λu tk=>⟨.int (if i<0 then -i else i),H,I.tok _,⟨_,rfl⟩,q⟩
def z9J(hc:X.calm=true):CallR X (.builtin "max") (λxs H Q=> ∃i j,xs=[.int i, .int j]/\Q (.int (if j>i then j else i)) H):=by
 intro qx s σ H xs us Q I r h
 obtain⟨i,j,rfl,q⟩:=h
 obtain⟨u,w',rfl,⟨t,rfl⟩,⟨t',rfl⟩⟩:=zeg r
 refine max_two_ints (I.ok.hd hc) λh' tk k=>⟨_,H,I.kept k, ?_,q⟩
 by_cases hj:j>i
 .rw[qy hj,qy hj];exact⟨_,rfl⟩
 .rw[qh hj,qh hj];exact⟨_,rfl⟩
def z9K(hc:X.calm=true):CallR X (.builtin "min") (λxs H Q=> ∃i j,xs=[.int i, .int j]/\Q (.int (if j<i then j else i)) H):=by
 intro qx s σ H xs us Q I r h
 obtain⟨i,j,rfl,q⟩:=h
 obtain⟨u,w',rfl,⟨t,rfl⟩,⟨t',rfl⟩⟩:=zeg r
 refine min_two_ints (I.ok.hd hc) λh' tk k=>⟨_,H,I.kept k, ?_,q⟩
 by_cases hj:j<i
 .rw[qy hj,qy hj];exact⟨_,rfl⟩
 .rw[qh hj,qh hj];exact⟨_,rfl⟩
def z9L:CallR X (.type "int") (λxs H Q=>(∃i,xs=[.int i]/\Q (.int i) H)\/∃k,xs=[.bl k]/\Q (.int (if k then 1 else 0)) H):=by
 intro qx s σ H xs us Q I r h
 rcases h with⟨i,rfl,q⟩|⟨k,rfl,q⟩
 .obtain⟨u,rfl,t,rfl⟩:=z4g r
  exact call_int_int ⟨.int i,H,I,⟨_,rfl⟩,q⟩
 .obtain⟨u,rfl,r1⟩:=z4g r
  cases r1
  exact call_int_bool ⟨.int (if k then 1 else 0),H,I.tok _,⟨_,rfl⟩,q⟩
end
def RelO.some_of(r:RelO (some v) o): ∃u,o=some u/\RelV v u:=by
 cases o with
 |none=>exact(show False from r).elim
 |some u=>exact⟨u,rfl,r⟩
structure z4h(k:Nat)(A:bu):Prop where
 hd:A.handled=none
 dp:A.depth+3*k+5<recursionLimit
 un:A.units+16*k+200<cLine
 gd:A.guards=some []
def z4h.mono{j k:Nat}(r:z4h k A)(h:j<=k):z4h j A:=⟨r.hd,by have:=r.dp;lia,by have:=r.un;lia,r.gd⟩
def z4h.deeper{k:Nat}{A:bu}(r:z4h (k+1) A)(env:cY):z4h k (A.deeper env):=
 ⟨r.hd,by have:=r.dp;show A.depth+1+3*k+5<_;lia,by have:=r.un;show A.units+3+16*k+200<_;lia,r.gd⟩
def z4h.depth{k:Nat}{A:bu}(r:z4h k A):A.depth<recursionLimit:=by have:=r.dp;lia
def z4h.units{k:Nat}{A:bu}(r:z4h k A):A.units+64<cLine:=by have:=r.un;lia
def zlM:TA:=λ_ H Q=>Q [] H
def zjS(ta:TE)(tr:TA):TA:=λ σ H Q=>ta σ H λx H1=>tr σ H1 λxs H2=>Q (x::xs) H2
section
variable{X:Cx}{e:bi}{es:List bi}{te:TE}{t:TA}{pos:bO}
def zdj:PA X [] zlM:=λ_ _ _ _ H Q I h=>Calls.spliced_nil ⟨[],H,I, .nil,h⟩
def z70(ha:PE X e te)(hr:PA X es t)(hs:bh (e::es) X.env=(false,bC e X.env)::bh es X.env:=by rfl):PA X (e::es) (zjS te t):=by
 intro pos qx s σ H Q I h
 rw[hs]
 show bg _ _ (spliced ((false,bC e X.env)::bK pos (bh es X.env))) _ _ s
 refine Calls.spliced_cons (thn (ha qx s σ H _ I h) ?_)
 rintro u s1 ⟨x,H1,I1,r1,q1⟩
 exact thn (hr pos qx s1 σ H1 _ I1 q1) λus s2 ⟨xs,H2,I2,r2,q2⟩=>⟨x::xs,H2,I2, .cons r1 r2,q2⟩
def zlN(t:TA):TE:=λ σ H Q=>t σ H λxs H1=>xs.length<=qg/\∀p,H1 p=none->Q (.ref p) (upd H1 p (.tup xs))
def zlO(t:TA):TE:=λ σ H Q=>t σ H λxs H1=>xs.length<=qg/\∀p,H1 p=none->Q (.ref p) (upd H1 p (.lst xs))
def zgK{x1}(h:PA X es t):PE X (.Tuple es x1 pos) (zlN t):=by
 intro qx s σ H Q I hq
 refine wpAny_Tuple_spliced (thn (h pos qx s σ H _ I hq) λus s1 ⟨xs,H1,I1,r,z,q⟩=>⟨by rw[<-r.length];exact z, ?_⟩)
 have hf:H1 s1.heap.objs.size=none:=I1.hok.fresh (i6 _)
 refine⟨.ref s1.heap.objs.size,upd H1 s1.heap.objs.size (.tup xs),I1.laid (t':=s1.toks) (λb u e=>Heap.get?_push_of_some _ e) (i6 _) ?_,rfl,q _ hf⟩
 exact⟨z,us,r,⟨_,Heap.get?_push_size _ rfl,rfl,_,rfl⟩⟩
def zgL(h:PA X es t):PE X (.List es pos) (zlO t):=by
 intro qx s σ H Q I hq
 refine wpAny_List_spliced (thn (h pos qx s σ H _ I hq) λus s1 ⟨xs,H1,I1,r,z,q⟩=>⟨by rw[<-r.length];exact z, ?_⟩)
 have hf:H1 s1.heap.objs.size=none:=I1.hok.fresh (i6 _)
 refine⟨.ref s1.heap.objs.size,upd H1 s1.heap.objs.size (.lst xs),I1.laid (t':=s1.toks) (λb u e=>Heap.get?_push_of_some _ e) (i6 _) ?_,rfl,q _ hf⟩
 exact⟨z,us,0,r,Heap.get?_push_size _ rfl⟩
end
abbrev Sp:=List V->Hp->VK->XK->Prop
abbrev CXT:=List cY->Hp->be->XK->bc->be->Prop
structure zjs(P:bm)(w:bo)(K:W.Frag)(mg:Str->Option bc)(base:Heap)(A:bu)(outer:List cY)(s:be)(H:Hp):Prop where
 frames:A.frames=some outer
 mod:Mod K mg base
 bs: ∀b o,base.get? b=some o->s.heap.get? b=some o/\H b=none
 bsz:base.objs.size<=s.heap.objs.size
 funs:s.heap.FunFrames base outer
 frf: ∀b∈frs outer,H b=none
 hok:HOk P w H s.heap
 bare:cr s.gens
def CE(outer:List cY)(P:bm)(w:bo)(H:Hp)(s:be)(Q:VK)(u:bc)(s':be):Prop:=
 ∃v H',s'.os=s.os/\cr s'.gens/\Un (frs outer) [] H H' s.heap s'.heap/\HOk P w H' s'.heap/\RelV v u/\Q v H'
def CR(CX:CXT)(outer:List cY)(P:bm)(w:bo)(H:Hp)(s:be)(Q:VK)(E:XK)(r:dX)(s':be):Prop:=
 match r with
 | .ok (.ret u)=>CE outer P w H s Q u s'
 | .ok _=>False
 | .error e=>CX outer H s E e s'
structure z0F(P:bm)(w:bo)(K:W.Frag)(mg:Str->Option bc)(base:Heap)(CX:CXT)(k:Nat)(f:Addr)(fd:bB)(ps:List Str)(sp:Sp):Prop where
 len: ∀vs H Q E,sp vs H Q E->vs.length=ps.length
 run: ∀(A:bu) (outer:List cY) (s:be) (H:Hp) (args:Args) (us:List bc) (vs:List V) (Q:VK) (E:XK),z4h k A->zjs P w K mg base A outer s H->dg s fd args (ps.zip us)->U5 vs us->sp vs H Q E->
  ca (bj P w) A (.call (.ref f) args) (CR CX outer P w H s Q E) s
def z0F.mono{P:bm}{w:bo}{K:W.Frag}{mg:Str->Option bc}{base:Heap}{CX:CXT}{j k:Nat}{f:Addr}{fd:bB}{ps:List Str}{sp:Sp}(F:z0F P w K mg base CX j f fd ps sp)(h:j<=k):
 z0F P w K mg base CX k f fd ps sp:=⟨F.len,λA outer s H args us vs Q E hr=>F.run A outer s H args us vs Q E (hr.mono h)⟩
section
variable{X:Cx}{qx:List (Addr×bE)}{σ:St}{H:Hp}{s s':be}
def Inv.env0(I:Inv X qx σ H s):zjs X.prog X.w X.K X.mg X.base X.A X.stack s H:=
 ⟨I.ok.frames,I.ok.mod,I.bs,C7 I.ok.bsz I.sz,I.stack,I.stkFree,I.hok,I.bare⟩
def Inv.after(I:Inv X qx σ H s)(h:CE X.stack X.prog X.w H s Q u s'):EP X qx σ Q u s':=by
 obtain⟨v,H',os,bare,un,hok,r,q⟩:=h
 obtain⟨hh,g,d,t,os'⟩:=s'
 obtain rfl:os'=s.os:=os
 exact⟨v,H',I.call (h':=hh) (g':=g) (d':=d) (t':=t) (ch:=[]) un hok bare (λb z=>absurd z (by simp)),r,q⟩
end
def zjT(sp:Sp)(dvs:List V)(E:XK)(t:TA):TE:=λ σ H Q=>t σ H λvs H1=>sp (vs++dvs) H1 Q E
def z71(K:W.Frag)(fd:bB)(ps:List Str)(ds:List bc):Prop:=
 ∀(s:be) (us:List bc),K.In s.heap->(us++ds).length=ps.length->dg s fd ⟨us,[]⟩ (ps.zip (us++ds))
def z71.all{K:W.Frag}{fd:bB}{ps:List Str}(h: ∀us:List bc,us.length=ps.length->bindArgs fd ⟨us,[]⟩=pure (ps.zip us)):z71 K fd ps []:=λs us _ hl=>by
 rw[l7] at hl⊢
 exact .of_eq (h us hl)
def z5O(CX:CXT)(X:Cx)(E:XK):Prop:= ∀(qx:List (Addr×bE)) (σ:St) (H:Hp) (s:be) (e:bc) (s':be),Inv X qx σ H s->CX X.stack H s E e s'->X.xe e s'
section
variable{X:Cx}{CX:CXT}{k:Nat}{f C:Addr}{fd:bB}{ps:List Str}{sp:Sp}{dvs:List V}{ds:List bc}{E:XK}{x m:Str}{p pos apos:bO}{e o:bi}{es:List bi}{ta:TE}{t:TA}
def zgM{qx:List (Addr×bE)}{σ:St}{H:Hp}{s:be}{Q:VK}{us:List bc}{vs:List V}(F:z0F X.prog X.w X.K X.mg X.base CX k f fd ps sp)(hr:z4h k X.A)(hb:z71 X.K fd ps ds)(hd:U5 dvs ds)(hx:z5O CX X E)
 (I:Inv X qx σ H s) (r:U5 vs us) (h:sp (vs++dvs) H Q E):bg (bj X.prog X.w) X.A (call (.ref f) us) (EP X qx σ Q) X.xe s:=by
 have r2:U5 (vs++dvs) (us++ds):=r.append hd
 have hl:(us++ds).length=ps.length:=by rw[<-r2.length];exact F.len _ _ _ _ h
 refine wpAny_call (cy (F.run X.A X.stack s H ⟨us,[]⟩ (us++ds) (vs++dvs) Q E hr I.env0 (hb s us I.kIn hl) r2 h) λr s' hq=> ?_)
 cases r with
 |error e=>exact hx qx σ H s e s' I hq
 |ok fl=>
  cases fl with
  |ret u=>exact I.after hq
  |next=>exact False.elim hq
  |brk=>exact False.elim hq
  |cont=>exact False.elim hq
def zeh(F:z0F X.prog X.w X.K X.mg X.base CX k f fd ps sp)(hr:z4h k X.A)(hg:Gl X x)(hm:X.mg x=some (.ref f))(hk:W.keepIn X.K (.ref f)=true)(hb:z71 X.K fd ps ds)(hd:U5 dvs ds)(hx:z5O CX X E)
 (ha:PA X (e::es) t) (hdb:(x==("__debug__" :Str))=false:=by decide) (he:bh (e::es) X.env=(false,bC e X.env)::bh es X.env:=by rfl) (hpl:(bK pos (bh es X.env)).any (·.1)=false:=by rfl):
 PE X (.Call (.Name x p) (e::es) [] pos) (zjT sp dvs E t):=by
 intro qx s σ H Q I h
 refine cq (z9B I hg hm ?_ hdb)
 refine W.callWith_K (h₀:=X.base) I.ok.mod.kin hk (thn (ha pos qx s σ H _ I h) λus s1 ⟨vs,H1,I1,r,q⟩=>⟨I1.kIn, ?_⟩) he hpl
 exact zgM F hr hb hd hx I1 r q
end
structure Y9(N P:List Str)(sc:Scope):Prop where
 kind:sc.kind= .function
 co:sc.isCoroutine=false
 gen:sc.isGenerator=false
 nd:N.Nodup
 pre:N.take P.length=P
 par: ∀x∈P,sc.names.lookup x=some .local\/sc.names.lookup x=some .cell
 nofree: ∀y∈sc.names,y.2≠ .free
theorem z5P{kindOf:Str->Option bN}{x:Str}: ∀{binds:List (Str×bc)} {m:Str->Option bc},(∀v,(x,v)∉binds)->dN kindOf binds m x=m x
 |[],_,_=>rfl
 |(n,v)::r,m,h=>by
  unfold dN
  rw[z5P λw hw=>h w (i5 _ hw)]
  split
  .have:x≠n:=by rintro rfl;exact h v l6
   simp[this]
  .rfl
theorem z5Q{kindOf:Str->Option bN}{x:Str}: ∀{binds:List (Str×bc)} {m:Str->Option bc},(∀v,(x,v)∉binds)->dO kindOf binds m x=m x
 |[],_,_=>rfl
 |(n,v)::r,m,h=>by
  unfold dO
  rw[z5Q λw hw=>h w (i5 _ hw)]
  split
  .rfl
  .have:x≠n:=by rintro rfl;exact h v l6
   simp[this]
theorem z5R{kindOf:Str->Option bN}{x:Str}{v:bc}: ∀{P:List Str} {vs:List bc} {i:Nat} {m:Str->Option bc},P.Nodup->P[i]? =some x->vs[i]? =some v->kindOf x=some .local->
 dN kindOf (P.zip vs) m x=some v
 |[],_,_,_,_,h,_,_=>by simp at h
 |_::_,[],_,_,_,_,h,_=>by simp at h
 |p::P,w::vs,0,m,nd,h1,h2,hk=>by
  simp at h1 h2;subst h1;subst h2
  show dN kindOf ((p,w)::P.zip vs) m p=_
  unfold dN
  rw[z5P λv hv=>(C0.mp nd).1 (T1 hv).1,qy hk]
  simp
 |p::P,w::vs,i+1,m,nd,h1,h2,hk=>by
  show dN kindOf ((p,w)::P.zip vs) m x=_
  unfold dN
  exact z5R (i:=i) (C0.mp nd).2 (by simpa using h1) (by simpa using h2) hk
theorem z5S{kindOf:Str->Option bN}{x:Str}{v:bc}: ∀{P:List Str} {vs:List bc} {i:Nat} {m:Str->Option bc},P.Nodup->P[i]? =some x->vs[i]? =some v->kindOf x≠some .local->
 dO kindOf (P.zip vs) m x=some v
 |[],_,_,_,_,h,_,_=>by simp at h
 |_::_,[],_,_,_,_,h,_=>by simp at h
 |p::P,w::vs,0,m,nd,h1,h2,hk=>by
  simp at h1 h2;subst h1;subst h2
  show dO kindOf ((p,w)::P.zip vs) m p=_
  unfold dO
  rw[z5Q λv hv=>(C0.mp nd).1 (T1 hv).1,qh hk]
  simp
 |p::P,w::vs,i+1,m,nd,h1,h2,hk=>by
  show dO kindOf ((p,w)::P.zip vs) m x=_
  unfold dO
  exact z5S (i:=i) (C0.mp nd).2 (by simpa using h1) (by simpa using h2) hk
def z5T(N:List Str)(vs:List V):St:=vs.map some++B8 (N.length -vs.length) none
def zdk(CX:CXT)(P:bm)(w:bo)(K:W.Frag)(mg:Str->Option bc)(base:Heap)(N:List Str)(qual:Str)(scope:Scope)(f:Addr)(cd:bc)(A:bu)(outer:List cY)(s:be)(H:Hp)(E:XK):Cx where
 prog:=P
 w:=w
 K:=K
 mg:=mg
 base:=base
 A:=A.deeper (envOfC qual scope s.heap.objs.size f cd)
 N:=N
 s₀:=s
 H₀:=H
 env:=envOfC qual scope s.heap.objs.size f cd
 outer:=outer
 stack:=envOfC qual scope s.heap.objs.size f cd::outer
 ex:=[]
 calm:=true
 fn:=λ_=>true
 pn:=[]
 xe:=λe s'=>bg (bj P w) (A.deeper (envOfC qual scope s.heap.objs.size f cd)) (leaving (envOfC qual scope s.heap.objs.size f cd) e) (λ_ s''=>CX outer H s E e s'') (λe' s''=>CX outer H s E e' s'') s'
def z7T{sc:Scope}{n:Nat}(h:sc.names.lookup x=some .cell): ∃c,(bq n sc.names []).lookup x=some c:=by
 have q:=W.cellsFrom_some sc.names n [] (.inl h)
 exact Option.isSome_iff_exists.mp q
def z9M{CX:CXT}{P:bm}{w:bo}{K:W.Frag}{mg:Str->Option bc}{base:Heap}{N ps:List Str}{qual:Str}{scope:Scope}{f:Addr}{cd:bc}{A:bu}{outer:List cY}{s s1:be}{H:Hp}{E:XK}{us:List bc}{vs:List V}
 (S:Y9 N ps scope) (hd:A.handled=none) (e0:zjs P w K mg base A outer s H) (hl:vs.length=ps.length) (r:U5 vs us)
 (x:InCallC s s.heap.objs.size (dN (envOfC qual scope s.heap.objs.size f cd).kindOf (ps.zip us) λ_=>none) (bq (s.heap.objs.size+1) scope.names []) (dO (envOfC qual scope s.heap.objs.size f cd).kindOf (ps.zip us) λ_=>none) s1):
 Inv (zdk CX P w K mg base N qual scope f cd A outer s H E) [] (z5T N vs) H s1:=by
 have hpl:ps.length<=N.length:=by have:=congrArg E7 S.pre;rw[A5] at this;lia
 obtain⟨h1,tk,rfl,hk⟩:=x.done
 have noA: ∀b:Addr,b∉(zdk CX P w K mg base N qual scope f cd A outer s H E).ex:=λb z=>absurd (show b∈([]:List Addr) from z) (by simp)
 refine⟨⟨e0.mod,S.kind,rfl,rfl,i6 _,λy z c h1 h2=> ?_,λy hy=> ?_,λy c _ h=> ?_,λ_=>hd,Around.frames_deeper e0.frames, .inr ⟨rfl,rfl⟩,λb z=>absurd z (noA b),e0.bs,e0.bsz,λb _ _=>noA b,λb z=>absurd z (noA b),e0.funs,e0.frf⟩,
  rfl,e0.bare,Un.kept hk,⟨_,x.toInCall.ns,λi y v h1 h2 h3=> ?_⟩,λy c h=>⟨_,x.cell y c h⟩,e0.hok.fresh (i6 _),λy c h=> ?_,λp hp=>absurd (show p∈([]:List (Addr×bE)) from hp) (by simp),e0.hok.kept hk, ?_⟩
 .exact name_of_addr x.apart (PySem.mem_of_lookup h1) (PySem.mem_of_lookup h2)
 .have hy:scope.names.lookup y=some .cell\/scope.names.lookup y=some .free:=hy
  rcases hy with hy|hy
  .exact z7T hy
  .exact absurd rfl (S.nofree _ (PySem.mem_of_lookup hy))
 .exact L9 (x.above y c (PySem.mem_of_lookup h))
 .have hi:i<vs.length:=by
   unfold z5T at h2
   by_cases hi:i<vs.length
   .exact hi
   .rw[List.getElem?_append_right (by simpa using hi)] at h2
    rw[List.getElem?_replicate] at h2
    split at h2<;>cases h2
  have ha:vs[i]? =some v:=by
   unfold z5T at h2
   rw[List.getElem?_append_left (by simpa using hi),List.getElem?_map] at h2
   cases e:vs[i]? with
   |none=>rw[e] at h2;cases h2
   |some a=>rw[e] at h2;cases h2;rfl
  obtain⟨u,hu,rv⟩:=r.get ha
  have hp:ps[i]? =some y:=by
   rw[<-S.pre,List.getElem?_take_of_lt ⋯];exact h1
  have ndP:ps.Nodup:=by rw[<-S.pre];exact S.nd.sublist (List.take_sublist _ _)
  refine⟨u,rv, ?_⟩
  rcases S.par y (List.mem_of_getElem? hp) with k|k
  .exact .inl ⟨k,z5R ndP hp hu k⟩
  .obtain⟨c,e⟩:=z7T (n:=s.heap.objs.size+1) k
   refine .inr ⟨.inl k,c,e, ?_⟩
   have q:=x.cell y c e
   rw[z5S ndP hp hu (by show scope.names.lookup y≠_;rw[k];decide)] at q
   exact q
 .exact e0.hok.fresh (L9 (x.above y c (PySem.mem_of_lookup h)))
 .unfold z5T
  show _=N.length
  rw[m5,l0,T3]
  lia
def zjU{CX:CXT}{P:bm}{w:bo}{K:W.Frag}{mg:Str->Option bc}{base:Heap}{k:Nat}{f:Addr}{name qual:Str}{params:Arguments}{body:List Stmt}{scope:Scope}{dV kV doc pm cdv ct oc:bc}{an od:Option Addr}
 {osl:Array (Option bc)} {N ps:List Str} {sp:Sp} (lk:K.lookup f=some ⟨oc,od, .func (W.fnOf name qual params body scope dV kV doc pm an cdv ct),osl⟩) (hcd:W.codeIn K cdv qual=true) (S:Y9 N ps scope)
 (len: ∀vs H Q E,sp vs H Q E->vs.length=ps.length)
 (hbody: ∀A outer s H vs Q (E:XK),z4h k (A.deeper (envOfC qual scope s.heap.objs.size f cdv))->sp vs H Q E->
  ∃t,PSs (zdk CX P w K mg base N qual scope f cdv A outer s H E) body t/\t {nx:=λ_ H'=>Q .non H',rt:=Q} (z5T N vs) H):
 z0F P w K mg base CX (k+1) f (W.fnOf name qual params body scope dV kV doc pm an cdv ct) ps sp:=by
 refine⟨len,λA outer s H args us vs Q E hr e0 hb r hsp=> ?_⟩
 have hl:=len _ _ _ _ hsp
 have KX:K.In s.heap:=e0.mod.kin.keeps λb o e=>(e0.bs b o e).1
 have lim:s.heap.NoLimit:=e0.mod.nolimit.keeps λb o e=>(e0.bs b o e).1
 have hkind: ∀y∈ps.zip us,scope.names.lookup y.1=some .local\/(scope.names.lookup y.1=some .cell/\((bq (s.heap.objs.size+1) scope.names []).lookup y.1).isSome=true):=λ⟨n,v⟩ hy=>by
  rcases S.par n (T1 hy).1 with q|q
  .exact .inl q
  .exact .inr ⟨q,W.cellsFrom_some _ _ _ (.inl q)⟩
 refine codeAny_call_function hr.depth (KX _ _ lk) rfl S.co S.gen rfl (W.codeRec_of KX hcd) (hb _ _ _ _ ?_)
 refine wpAny_newFunctionEnv_cells S.kind hkind λenv he s1 x=> ?_
 subst he
 refine⟨lim.keeps x.toInCall.keep,codeAny_func ?_⟩
 obtain⟨t,ht,hq⟩:=hbody A outer s H vs Q E (hr.deeper _) hsp
 have I:Inv (zdk CX P w K mg base N qual scope f cdv A outer s H E) [] (z5T N vs) H s1:=z9M S hr.hd e0 hl r x
 refine bA (ht [] s1 (z5T N vs) H _ I hq) (λfl s' hs=> ?_) λe s' hs=>hs
 have fin: ∀{σ':St} {H':Hp} {v:V} {u:bc},Inv (zdk CX P w K mg base N qual scope f cdv A outer s H E) [] σ' H' s'->RelV v u->Q v H'->CE outer P w H s Q u s':=
  λ{σ' H' v u} J rv q=>⟨v,H',J.os,J.bare,J.base,J.hok,rv,q⟩
 cases fl with
 |ret u=>
  obtain⟨v,σ',H',J,rv,q⟩:=hs
  exact fin J rv q
 |next=>
  obtain⟨σ',H',J,q⟩:=hs
  exact fin (v:=V.non) (u:=Value.none) J rfl q
 |brk=>
  obtain⟨_,_,_,q⟩:=hs
  exact False.elim q
 |cont=>
  obtain⟨_,_,_,q⟩:=hs
  exact False.elim q
section
variable{X:Cx}{x:Str}{p pos:bO}{e:bi}{es:List bi}{t:TA}{id T:String}{r:List V->Hp->VK->Prop}
def tCB(r:List V->Hp->VK->Prop)(t:TA):TE:=λ σ H Q=>t σ H λvs H1=>r vs H1 Q
def z7U(hc:CallR X (.builtin id) r)(hg:Gl X x)(hm:X.mg x=none)(hv:bF x=some (.builtin id))(ha:PA X (e::es) t)(hn:x≠ "__name__" :=by decide)(hdb:(x==("__debug__" :Str))=false:=by decide)
 (he:bh (e::es) X.env=(false,bC e X.env)::bh es X.env:=by rfl) (hpl:(bK pos (bh es X.env)).any (·.1)=false:=by rfl):PE X (.Call (.Name x p) (e::es) [] pos) (tCB r t):=by
 intro qx s σ H Q I h
 refine cq (z5M I hg hm hv ?_ hn hdb)
 exact PyProof.Rows.callWith_builtin1 (thn (ha pos qx s σ H _ I h) λus s1 ⟨vs,H1,I1,r1,q1⟩=>hc qx s1 σ H1 vs us Q I1 r1 q1) he hpl
def z9N(hc:CallR X (.type T) r)(hg:Gl X x)(hm:X.mg x=none)(hv:bF x=some (.type T))(ha:PA X (e::es) t)(hn:x≠ "__name__" :=by decide)(hdb:(x==("__debug__" :Str))=false:=by decide)
 (he:bh (e::es) X.env=(false,bC e X.env)::bh es X.env:=by rfl) (hpl:(bK pos (bh es X.env)).any (·.1)=false:=by rfl):PE X (.Call (.Name x p) (e::es) [] pos) (tCB r t):=by
 intro qx s σ H Q I h
 refine cq (z5M I hg hm hv ?_ hn hdb)
 exact PyProof.Rows.callWith_type1 (thn (ha pos qx s σ H _ I h) λus s1 ⟨vs,H1,I1,r1,q1⟩=>hc qx s1 σ H1 vs us Q I1 r1 q1) he hpl
end
end L2
namespace HT
open PySem PyProof.Rows
section
open PySem.SeqAt
open PySem.AutoSeq1 (wpAny_loadPart')
open PySem.MeetsSeq PySem.MeetsSeq2 PySem.MeetsSeq3
end
section
variable{prog:bm}{w:bo}{A:bu}{E:bc->be->Prop}{s:be}
def cat_tup{vs ws:List bc}{Q:bc->be->Prop}(ht:dZ s.heap t vs.toArray)(hb:dZ s.heap b ws.toArray)(hv:vs≠[])
 (h1:ws=[]->Q (.ref t) s) (h2:ws≠[]->Q (.ref s.heap.objs.size) {s with heap:=s.heap.push {cls:= .type "tuple",data:= .seq (vs++ws).toArray}})
 (hsz:vs.length+ws.length<=qg):bg (bj prog w) A (bP .Add (.ref t) (.ref b)) Q E s:=by
 obtain⟨⟨cls,dd,data,sl⟩,ho,hc,n,hd⟩:=id ht
 obtain⟨⟨cls2,dd2,data2,sl2⟩,ho2,hc2,n2,hd2⟩:=id hb
 simp only at hc hd hc2 hd2
 subst hc hd hc2 hd2
 have e:vs.toArray++ws.toArray=(vs++ws).toArray:=by simp
 by_cases hw:ws=[]
 .exact dh ⟨_,ho,rfl⟩ ⟨_,ho2,rfl⟩ cx cT PySem.F.slot_tuple_add PySem.F.entry_tuple_add (PySem.F.args_tuple_add_2 _ _)
   (tuple_addW1 t b vs.toArray ws.toArray n n2 dd dd2 sl sl2 (by simpa using hv) (by simp[hw])) ⟨ho,ho2,h1 hw⟩
 .refine dh ⟨_,ho,rfl⟩ ⟨_,ho2,rfl⟩ cx cT PySem.F.slot_tuple_add PySem.F.entry_tuple_add (PySem.F.args_tuple_add_2 _ _)
   (tuple_addW2 t b vs.toArray ws.toArray n n2 dd dd2 sl sl2 (by simpa using hv) (by simpa using hw) (by rw[m9,m9];exact hsz)) ⟨ho,ho2, ?_⟩
  rw[e]
  exact h2 hw
def sIx(n d:Nat):Option Int->Nat
 |none=>d
 |some v=>if v<0 then(v+(n:Int)).toNat else min v.toNat n
def sIx_none n d:sIx n d none=d:=rfl
def sIx_nat(n d k:Nat):sIx n d (some (k:Int))=min k n:=by
 show(if(k:Int)<0 then((k:Int)+(n:Int)).toNat else min (k:Int).toNat n)=min k n
 rw[qh ⋯,L4]
def zgN n d(hd:d<=n) o:sIx n d o<=n:=by
 cases o with
 |none=>exact hd
 |some v=>
  show(if v<0 then(v+(n:Int)).toNat else min v.toNat n)<=n
  by_cases hv:v<0
  .rw[qy hv];lia
  .rw[qh hv];exact S0 _ _
def z9O(v:Int)(n d:Nat):(if v<0 then max (v+(n:Int)) 0 else min v (n:Int))=((sIx n d (some v):Nat):Int):=by
 show(if v<0 then max (v+(n:Int)) 0 else min v (n:Int))=(((if v<0 then(v+(n:Int)).toNat else min v.toNat n):Nat):Int)
 by_cases hv:v<0
 .erw[qy hv];lia
 .erw[qh hv];lia
def z8L(lo hi:Option Int)(n:Nat):Builtin.Slice.sliceAdjust lo hi 1 (n:Int)=(((sIx n 0 lo:Nat):Int),((sIx n n hi:Nat):Int)):=by
 have h1: ¬((1:Int)<0):=by lia
 delta Builtin.Slice.sliceAdjust
 erw[h1,if_false]
 refine Prod.ext ?_ ?_
 .cases lo with
  |none=>rfl
  |some v=>exact z9O v n 0
 .cases hi with
  |none=>rfl
  |some v=>exact z9O v n n
def z8M(i j:Nat):Builtin.Slice.slicePlaces (i:Int) (j:Int) 1=j -i:=by
 delta Builtin.Slice.slicePlaces
 have h1:(1:Int)>0:=by lia
 erw[h1,if_true,Int.ediv_one]
 split<;>lia
def z4r{Q:Option Int->be->Prop}(p:cz v o)(h:Q o s):bg (bj prog w) A (Builtin.Slice.slicePartIndex v) Q E s:=by
 cases p with
 |none=>exact slicePart_none h
 |int i t=>exact slicePart_int h
def z1n{sl:Addr}{vl vu:bc}{lo hi:Option Int}{n:Nat}{Q:Int×Int×Nat->be->Prop}(hs:s.heap.IsSliceOf sl vl vu .none)(pl:cz vl lo)(pu:cz vu hi)
 (h:Q (((sIx n 0 lo:Nat):Int),1,sIx n n hi -sIx n 0 lo) s):bg (bj prog w) A (Builtin.Slice.sliceApplied (.ref sl) (pure (n:Int))) Q E s:=by
 obtain⟨os,hos,hcs,hds⟩:=id hs
 delta Builtin.Slice.sliceApplied Builtin.Slice.sliceFields
 refine bb (bb (dz hos hds (x:=vl) rfl (bb (dz hos hds (x:=vu) rfl (bb (dz hos hds (x:= .none) rfl (bf ?_)))))))
 refine bb (slicePart_none ?_)
 show bg _ _ (if((1:Int)==0)=true then _ else _) _ _ s
 rw[qh (by decide)]
 refine bb (z4r pl (bb (z4r pu (bb (bf ?_)))))
 show bg _ _ (match Builtin.Slice.sliceAdjust lo hi 1 (n:Int) with|(lo,hi)=>pure (lo,(1:Int),Builtin.Slice.slicePlaces lo hi 1)) _ _ s
 rw[z8L lo hi n]
 show bg _ _ (pure (((sIx n 0 lo:Nat):Int),(1:Int),Builtin.Slice.slicePlaces ((sIx n 0 lo:Nat):Int) ((sIx n n hi:Nat):Int) 1)) _ _ s
 rw[z8M]
 exact bf h
def zbV(xs:Array bc)(i k:Nat):((D5 k).filterMap λ(m:Nat)=>xs[((i:Int)+(m:Int)*1).toNat]?).toArray=((xs.toList.drop i).take k).toArray:=by
 have e:(λ(m:Nat)=>xs[((i:Int)+(m:Int)*1).toNat]?)=λm=>xs[i+m]? :=by
  funext m
  have:((i:Int)+(m:Int)*1).toNat=i+m:=by lia
  rw[this]
 rw[e]
 have:=pick_run xs i k
 rw[List.filterMap_map] at this
 have e2:((λx=>xs[x]?)∘λx=>i+x)=λm=>xs[i+m]? :=rfl
 rw[e2] at this
 rw[this]
def getItem_tuple_cut{t sl:Addr}{qv:Array bc}{vl vu:bc}{lo hi:Option Int}{Q:bc->be->Prop}(ht:dZ s.heap t qv)(hs:s.heap.IsSliceOf sl vl vu .none)(pl:cz vl lo)(pu:cz vu hi)
 (hw: ¬(sIx qv.size 0 lo=0/\sIx qv.size qv.size hi=qv.size))
 (h:Q (.ref s.heap.objs.size) {s with heap:=s.heap.push {cls:= .type "tuple",data:= .seq ((qv.toList.drop (sIx qv.size 0 lo)).take (sIx qv.size qv.size hi -sIx qv.size 0 lo)).toArray}})
 (hsz:qv.size<=qg):bg (bj prog w) A (cg (.ref t) (.ref sl)) Q E s:=by
 have htake:sizeOk (.seq ((qv.toList.drop (sIx qv.size 0 lo)).take (sIx qv.size qv.size hi -sIx qv.size 0 lo)).toArray):=by
  show((qv.toList.drop (sIx qv.size 0 lo)).take (sIx qv.size qv.size hi -sIx qv.size 0 lo)).toArray.size<=qg
  rw[m9,A5,C2,Array.length_toList]
  lia
 have hj:sIx qv.size qv.size hi<=qv.size:=zgN _ _ (i6 _) hi
 obtain⟨os,hos,hcs,hds⟩:=id hs
 have hTs:s.TypeIs (.ref sl) "slice" :=⟨os,hos,hcs⟩
 delta cg
 try with_reducible refine bp ?_
 first|refine bb (bf ?_)|skip
 refine bb (di ht.typeIs (by decide) ?_)
 refine bb (wpAny_callSpecial?_slot (name:=Str.ofString "__getitem__") ht.typeIs PyProof.Rows.slot_tuple_getitem
  (bG PyProof.Rows.slot_tuple_getitem ht.typeIs cQ ?_ (cZ _ _)))
 show bg _ _ (Builtin.Tuple.tupleItemsOf (.ref t)>>=_) _ _ s
 refine bb (tupleItemsOf_ ht ?_)
 refine bb (cj hTs ?_)
 rw[qy (by decide)]
 refine bb (z1n hs pl pu ?_)
 have hno: ¬((((sIx qv.size 0 lo:Nat):Int)==0&&(1:Int)==1&&(sIx qv.size qv.size hi -sIx qv.size 0 lo)==qv.size)=true):=by
  intro q
  rw[A7,A7] at q
  have q1:((sIx qv.size 0 lo:Nat):Int)=0:=eq_of_beq q.1.1
  have q2:sIx qv.size qv.size hi -sIx qv.size 0 lo=qv.size:=eq_of_beq q.2
  exact hw ⟨⋯,⋯⟩
 show bg _ _ (if(((sIx qv.size 0 lo:Nat):Int)==0&&(1:Int)==1&&(sIx qv.size qv.size hi -sIx qv.size 0 lo)==qv.size)=true then _ else _) _ _ s
 rw[qh hno,zbV]
 first
  |exact bb (m:=Builtin.Tuple.tupleExact _) (bt (bf ⟨_,rfl,bf h⟩) htake)
  |exact bb (m:=Builtin.Tuple.tupleExact _) (bt (bb (bf (bf ⟨_,rfl,bf h⟩))) htake)
  |exact bb (bb (m:=Builtin.Tuple.tupleExact _) (bt (bf (bf ⟨_,rfl,bf h⟩)) htake))
  |exact bb (bb (m:=Builtin.Tuple.tupleExact _) (bt (bf ⟨_,rfl,bf h⟩) htake))
end
end HT
namespace L2
open PySem PySem.Spec PyProof.Rows
abbrev TO:=St->Hp->(Option Int->Hp->Prop)->Prop
def PO(X:Cx)(e:Option bi)(t:TO):Prop:=
 ∀(qx:List (Addr×bE)) (s:be) (σ:St) (H:Hp) (Q:Option Int->Hp->Prop),Inv X qx σ H s->t σ H Q->
  bg (bj X.prog X.w) X.A (evalPart e X.env) (λu s'=> ∃o H',Inv X qx σ H' s'/\cz u o/\Q o H') X.xe s
def zei:TO:=λ_ H Q=>Q none H
def zjV(t:TE):TO:=λ σ H Q=>t σ H λx H1=> ∃i,x= .int i/\Q (some i) H1
section
variable{X:Cx}{e:bi}{te:TE}{lo hi:Option bi}{tl th:TO}{pos p2:bO}
def zej:PO X none zei:=by
 intro qx s σ H Q I h
 rw[evalPart_none]
 exact bf ⟨none,H,I, .none,h⟩
def zek(h:PE X e te):PO X (some e) (zjV te):=by
 intro qx s σ H Q I hw
 rw[evalPart_some]
 refine thn (h qx s σ H _ I hw) ?_
 rintro u s1 ⟨x,H1,I1,r1,q1⟩
 obtain⟨i,rfl,q⟩:=q1
 obtain⟨t,rfl⟩:=r1
 exact⟨some i,H1,I1, .int i t,q⟩
def SlR(X:Cx)(r:V->Option Int->Option Int->Hp->VK->Prop):Prop:=
 ∀(qx:List (Addr×bE)) (s:be) (σ:St) (H:Hp) (x:V) (v vl vu:bc) (lo hi:Option Int) (sl:Addr) (Q:VK),Inv X qx σ H s->RelV x v->s.heap.IsSliceOf sl vl vu .none->cz vl lo->cz vu hi->r x lo hi H Q->
  ∃T id,dP (.type T) "__getitem__" =pure (some (.builtin id))/\s.TypeIs v T/\bg (bj X.prog X.w) X.A (cg v (.ref sl)) (EP X qx σ Q) X.xe s
def SlR.or{r r':V->Option Int->Option Int->Hp->VK->Prop}(h:SlR X r)(h':SlR X r'):SlR X (λx lo hi H Q=>r x lo hi H Q\/r' x lo hi H Q):=by
 intro qx s σ H x v vl vu lo hi sl Q I rx hs pl pu q
 rcases q with q|q
 .exact h qx s σ H x v vl vu lo hi sl Q I rx hs pl pu q
 .exact h' qx s σ H x v vl vu lo hi sl Q I rx hs pl pu q
def tSl(r:V->Option Int->Option Int->Hp->VK->Prop)(te:TE)(tl th:TO):TE:=λ σ H Q=>te σ H λx H1=>tl σ H1 λl H2=>th σ H2 λu H3=>r x l u H3 Q
def zbW{r:V->Option Int->Option Int->Hp->VK->Prop}(hr:SlR X r)(he:PE X e te)(hl:PO X lo tl)(hu:PO X hi th):PE X (.Subscript e (.Slice lo hi none p2) pos) (tSl r te tl th):=by
 intro qx s σ H Q I h
 refine dQ (thn (he qx s σ H _ I h) ?_)
 rintro v s1 ⟨x,H1,I1,r1,q1⟩
 refine wpAny_Slice (thn (hl qx s1 σ H1 _ I1 q1) λvl s2 ⟨l,H2,I2,pl,q2⟩=>thn (hu qx s2 σ H2 _ I2 q2) ?_)
 rintro vu s3 ⟨u,H3,I3,pu,q3⟩
 rw[evalPart_none]
 refine bf ?_
 have I4:Inv X qx σ H3 {s3 with heap:=s3.heap.push {cls:= .type "slice",data:= .fields #[vl,vu, .none]}}:=I3.kept (t':=s3.toks) λb ob q=>Heap.get?_push_of_some _ q
 obtain⟨T,id,hT,ht,hg⟩:=hr qx {s3 with heap:=s3.heap.push {cls:= .type "slice",data:= .fields #[vl,vu, .none]}} σ H3 x v vl vu l u s3.heap.objs.size Q I4 r1 (Heap.IsSliceOf.new ..) pl pu q3
 show bg (bj X.prog X.w) X.A (cU e (.Slice lo hi none p2) v (.ref s3.heap.objs.size)) (EP X qx σ Q) X.xe {s3 with heap:=s3.heap.push {cls:= .type "slice",data:= .fields #[vl,vu, .none]}}
 exact tail_any (ops:=[.ref s3.heap.objs.size,v]) ht hT hg (by with_unfolding_all rfl)
def z9P(xs:List V)(lo hi:Option Int):List V:=(xs.drop (HT.sIx xs.length 0 lo)).take (HT.sIx xs.length xs.length hi -HT.sIx xs.length 0 lo)
def z3p xs lo hi:(z9P xs lo hi).length<=xs.length:=by
 delta z9P
 rw[A5,C2]
 lia
def zlP(K:W.Frag):V->Option Int->Option Int->Hp->VK->Prop:=λx lo hi H Q=> ∃a xs,x= .ref a/\SqT K H a xs/\
 ¬(HT.sIx xs.length 0 lo=0/\HT.sIx xs.length xs.length hi=xs.length)/\∀p,H p=none->Q (.ref p) (upd H p (.tup (z9P xs lo hi)))
def zgO:SlR X (zlP X.K):=by
 intro qx s σ H x v vl vu lo hi sl Q I rx hs pl pu h
 obtain⟨a,xs,rfl,hx,hw,q⟩:=h
 cases rx
 obtain⟨its,r,ht,hz⟩:=I.tuple hx
 have hlen:its.toArray.size=xs.length:=by rw[m9];exact r.length.symm
 refine⟨"tuple",_,PyProof.Rows.slot_tuple_getitem.lookup,ht.typeIs, ?_⟩
 refine HT.getItem_tuple_cut ht hs pl pu (by rw[hlen];exact hw) ?_ (by rw[hlen];exact hz)
 rw[hlen]
 refine⟨.ref s.heap.objs.size,_,I.laid (t':=s.toks) (o:= .tup (z9P xs lo hi)) (λb ob q=>Heap.get?_push_of_some _ q) (i6 _) ?_,rfl,q _ (I.hok.fresh (i6 _))⟩
 exact⟨C7 (z3p xs lo hi) hz,_,(r.drop (HT.sIx xs.length 0 lo)).take (HT.sIx xs.length xs.length hi -HT.sIx xs.length 0 lo),IsTup.new _ _⟩
def zjW(K:W.Frag):R2:=λx y H Q=> ∃a b xs ys,x= .ref a/\y= .ref b/\SqT K H a xs/\SqT K H b ys/\xs≠[]/\xs.length+ys.length<=qg/\
 (ys=[]->Q (.ref a) H)/\(ys≠[]->∀p,H p=none->Q (.ref p) (upd H p (.tup (xs++ys))))
def U5.nil_iff(r:U5 xs us):us=[]↔xs=[]:=by
 cases r with
 |nil=>simp
 |cons _ _=>simp
def zel:OpR X (bP .Add) (zjW X.K):=by
 intro qx s σ H x y v u Q I rx ry h
 obtain⟨a,b,xs,ys,rfl,rfl,ha,hb,hx,hz,q1,q2⟩:=h
 cases rx
 cases ry
 obtain⟨its,r1,p1,_⟩:=I.tuple ha
 obtain⟨its2,r2,p2,_⟩:=I.tuple hb
 refine HT.cat_tup p1 p2 (λz=>hx (r1.nil_iff.mp z)) (λz=>⟨.ref a,H,I,rfl,q1 (r2.nil_iff.mp z)⟩) (λz=> ?_) (by rw[<-r1.length,<-r2.length];exact hz)
 refine⟨.ref s.heap.objs.size,_,I.laid (t':=s.toks) (o:= .tup (xs++ys)) (λb ob q=>Heap.get?_push_of_some _ q) (i6 _) ?_,rfl,q2 (λw=>z (r2.nil_iff.mpr w)) _ (I.hok.fresh (i6 _))⟩
 exact⟨by rw[m5];exact hz,_,r1.append r2,IsTup.new _ _⟩
end
def ixN(n:Nat)(i:Int):Option Nat:=if 0<=i then(if i<n then some i.toNat else none) else if -(n:Int)<=i then some (i+n).toNat else none
def atI{α:Type}(xs:List α)(i:Int):Option α:=(ixN xs.length i).bind λj=>xs[j]?
def z9Q{n:Nat}{i:Int}{j:Nat}(h:ixN n i=some j):seqIndex? i n=some j/\j<n/\-(n:Int)<=i/\i<n:=by
 delta ixN at h
 by_cases h0:0<=i
 .rw[qy h0] at h
  by_cases h1:i<n
  .rw[qy h1] at h
   have e:i.toNat=j:=Option.some.inj h
   exact⟨by rw[dA h0 h1,e],⋯,⋯,h1⟩
  .rw[qh h1] at h;cases h
 .rw[qh h0] at h
  by_cases h1: -(n:Int)<=i
  .rw[qy h1] at h
   have e:(i+n).toNat=j:=Option.some.inj h
   exact⟨by rw[dj ⋯ h1,e],⋯,h1,⋯⟩
  .rw[qh h1] at h;cases h
def z9R{α:Type}{xs:List α}{i:Int}{v:α}(h:atI xs i=some v): ∃j,seqIndex? i xs.length=some j/\xs[j]? =some v/\j<xs.length/\-(xs.length:Int)<=i/\i<xs.length:=by
 delta atI at h
 cases e:ixN xs.length i with
 |none=>rw[e] at h;cases h
 |some j=>
  rw[e] at h
  obtain⟨h1,h2,h3,h4⟩:=z9Q e
  exact⟨j,h1,h,h2,h3,h4⟩
def zem{α:Type}{xs:List α}{j:Nat}{v:α}(h:xs[j]? =some v):atI xs (j:Int)=some v:=by
 have hj:j<xs.length:=(List.getElem?_eq_some_iff.mp h).1
 have e:ixN xs.length (j:Int)=some j:=by
  delta ixN
  rw[qy ⋯,qy ⋯];simp
 delta atI;rw[e];exact h
def z2y(b:bi):Prop:= ∀o i,cJ b false o i=operate [o,i] (cg o i)
def IxR(X:Cx)(r:R2):Prop:=
 ∀(value slice:bi) (qx:List (Addr×bE)) (s:be) (σ:St) (H:Hp) (x y:V) (v u:bc) (Q:VK),Inv X qx σ H s->RelV x v->RelV y u->r x y H Q->
  cJ slice false v u=operate [v,u] (cg v u)->bg (bj X.prog X.w) X.A (cU value slice v u) (EP X qx σ Q) X.xe s
def MtR(X:Cx)(id:String)(r:V->List V->Hp->VK->Prop):Prop:=
 ∀(qx:List (Addr×bE)) (s:be) (σ:St) (H:Hp) (x:V) (xs:List V) (v:bc) (us:List bc) (Q:VK),Inv X qx σ H s->RelV x v->U5 xs us->r x xs H Q->
  bg (bj X.prog X.w) X.A (call (.builtin id) (v::us)) (EP X qx σ Q) X.xe s
section
variable{X:Cx}{a b:bi}{ta tb:TE}{pos:bO}
def IxR.or(h:IxR X r)(h':IxR X r'):IxR X (λx y H Q=>r x y H Q\/r' x y H Q):=by
 intro value slice qx s σ H x y v u Q I rx ry q hs
 rcases q with q|q
 .exact h value slice qx s σ H x y v u Q I rx ry q hs
 .exact h' value slice qx s σ H x y v u Q I rx ry q hs
def zjX(hr:IxR X r)(ha:PE X a ta)(hb:PE X b tb)(hs:z2y b):PE X (.Subscript a b pos) (tOp r ta tb):=by
 intro qx s σ H Q I h
 exact dQ (zjL ha hb I h λv u s2 x y H2 I2 rx ry q=>hr a b qx s2 σ H2 x y v u Q I2 rx ry q (hs _ _))
def zlm(K:W.Frag):R2:=λx y H Q=> ∃p xs i v,x= .ref p/\y= .int i/\SqL K H p xs/\atI xs i=some v/\Q v H
def zln(K:W.Frag):R2:=λx y H Q=> ∃p xs i v,x= .ref p/\y= .int i/\SqT K H p xs/\atI xs i=some v/\Q v H
def zen:IxR X (zlm X.K):=by
 intro value slice qx s σ H x y v u Q I rx ry h hs
 obtain⟨p,xs,i,z,rfl,rfl,hq,he,q⟩:=h
 cases rx
 obtain⟨t,rfl⟩:=ry
 obtain⟨its,r,pl,hz⟩:=I.list hq
 obtain⟨j,h1,h2,h3,h4,h5⟩:=z9R he
 obtain⟨w,ew,rw'⟩:=r.get h2
 have hl:=r.length
 have hn:=z5N
 have fin:EP X qx σ Q w s:=⟨z,H,I,rw',q⟩
 by_cases h0:0<=i
 .have hj:i.toNat=j:=by
   rw[dA h0 h5] at h1
   exact Option.some.inj h1
  exact item_listR pl.isList h0 ⋯ (by rw[hj];simpa using ew) fin hs
 .have hj:(i+(its.toArray.size:Int)).toNat=j:=by
   rw[dj ⋯ h4] at h1
   rw[m9,<-hl]
   exact Option.some.inj h1
  exact cB (x:=w) pl.isList.typeIs slot_list_getitem.lookup
   (wpAny_getItem_list_neg (Q:=λr s'=>r=w/\EP X qx σ Q r s') pl.isList ⋯ (by rw[m9]<;>lia) ⋯ (by rw[hj];simpa using ew) ⟨rfl,fin⟩) hs
def zgP:IxR X (zln X.K):=by
 intro value slice qx s σ H x y v u Q I rx ry h hs
 obtain⟨p,xs,i,z,rfl,rfl,hq,he,q⟩:=h
 cases rx
 obtain⟨t,rfl⟩:=ry
 obtain⟨its,r,pl,hz⟩:=I.tuple hq
 obtain⟨j,h1,h2,h3,h4,h5⟩:=z9R he
 obtain⟨w,ew,rw'⟩:=r.get h2
 have hl:=r.length
 have hn:=z5N
 have fin:EP X qx σ Q w s:=⟨z,H,I,rw',q⟩
 exact cB (x:=w) pl.typeIs slot_tuple_getitem.lookup
  (getItem_tuple (j:=j) (Q:=λr s'=>r=w/\EP X qx σ Q r s') pl ⋯ ⋯ (by rw[m9,<-hl];exact h1) (by simpa using ew) ⟨rfl,fin⟩) hs
def z8N(its:List bc)(n j:Nat)(u:bc):Obj.mapSeq (·.setIfInBounds j u) {cls:= .type "list",data:= .seq its.toArray n}={cls:= .type "list",data:= .seq (its.set j u).toArray n}:=by
 simp[Obj.mapSeq]
def Inv.lst(I:Inv X qx σ H s)(h:H p=some (.lst xs)):
 ∃(its:List bc) (n:Nat),U5 xs its/\s.heap.get? p=some {cls:= .type "list",data:= .seq its.toArray n}/\xs.length<=qg:=by
 obtain⟨z,its,n,r,e⟩:=I.hok p _ h
 exact⟨its,n,r,e,z⟩
def Inv.lstUpd{xs ys:List V}{its its':List bc}{n n':Nat}{f:bE->bE}(I:Inv X qx σ H s)(h:H p=some (.lst xs))
 (ho:s.heap.get? p=some {cls:= .type "list",data:= .seq its.toArray n}) (hf:f {cls:= .type "list",data:= .seq its.toArray n}={cls:= .type "list",data:= .seq its'.toArray n'}) (r:U5 ys its') (hz:ys.length<=qg) t:
 Inv X qx σ (upd H p (.lst ys)) {s with heap:=s.heap.update p f,toks:=t}:=by
 have e:(s.heap.update p f).get? p=some {cls:= .type "list",data:= .seq its'.toArray n'}:=by
  rw[Heap.get?_update_self f ho (by rw[hf]<;>rfl),hf]
 refine I.write (x:=p) (e:=p) (by rw[h];trivial) (.inl rfl) (λb u hb q=>(Heap.get?_update_other _ _ (Ne.symm hb)).trans q) ⟨_,e⟩ ?_
 exact⟨hz,its',n',r,e⟩
def zeo:V->V->V->Hp->(Hp->Prop)->Prop:=λo i v H Q=> ∃p xs k j,o= .ref p/\i= .int k/\H p=some (.lst xs)/\ixN xs.length k=some j/\Q (upd H p (.lst (xs.set j v)))
def z7V:zli X zeo:=by
 intro qx s σ H o i v ov iv u Q I ro ri rv h
 obtain⟨p,xs,k,j,rfl,rfl,hp,hj,q⟩:=h
 cases ro
 obtain⟨t,rfl⟩:=ri
 obtain⟨its,n,r,ho,hz⟩:=I.lst hp
 obtain⟨h1,h2,h3,h4⟩:=z9Q hj
 have hl:=r.length
 have hn:=z5N
 have I':Inv X qx σ (upd H p (.lst (xs.set j v))) {s with heap:=s.heap.update p (Obj.mapSeq (·.setIfInBounds j u))}:=
  I.lstUpd hp ho (z8N its n j u) (r.set rv j) (by rw[List.length_set];exact hz) s.toks
 by_cases h0:0<=k
 .have hk:k.toNat=j:=by
   rw[dA h0 h4] at h1
   exact Option.some.inj h1
  exact W.ki_setAt ho h0 ⋯ (by rw[m9,<-hl];exact h4) (by rw[hk];exact⟨_,I',q⟩)
 .have hk:(k+(its.toArray.size:Int)).toNat=j:=by
   rw[dj ⋯ h3] at h1
   rw[m9,<-hl]
   exact Option.some.inj h1
  exact W.ki_setBack ho ⋯ (by rw[m9,<-hl];exact h3) ⋯ (by rw[hk];exact⟨_,I',q⟩)
def z5U lo hi n:(bW lo hi none n).1=((HT.sIx n 0 lo:Nat):Int)/\(bW lo hi none n).2.1=((HT.sIx n n hi:Nat):Int)/\(bW lo hi none n).2.2=1:=by
 refine⟨?_, ?_,rfl⟩
 .cases lo with
  |none=>simp[bW,HT.sIx]
  |some i=>
   erw[bW,HT.sIx,M7,show(1:Int)>0 by decide,if_true]
   by_cases h:i<0
   .erw[h,if_true]<;>lia
   .erw[h,if_false]<;>lia
 .cases hi with
  |none=>simp[bW,HT.sIx]
  |some i=>
   erw[bW,HT.sIx,M7,show(1:Int)>0 by decide,if_true]
   by_cases h:i<0
   .erw[h,if_true]<;>lia
   .erw[h,if_false]<;>lia
def z4Q(its:List bc)(lo hi:Option Int):slicePick its.toArray lo hi none=((its.drop (HT.sIx its.length 0 lo)).take (HT.sIx its.length its.length hi -HT.sIx its.length 0 lo)).toArray:=by
 obtain⟨h1,h2,h3⟩:=z5U lo hi its.toArray.size
 delta slicePick
 rw[h1,h2,h3]
 erw[sliceRange_one,pick_run,m9]<;>rfl
def zjY(K:W.Frag):V->Option Int->Option Int->Hp->VK->Prop:=λx lo hi H Q=> ∃a xs,x= .ref a/\SqL K H a xs/\∀p,H p=none->Q (.ref p) (upd H p (.lst (z9P xs lo hi)))
def zep:SlR X (zjY X.K):=by
 intro qx s σ H x v vl vu lo hi sl Q I rx hs pl pu h
 obtain⟨a,xs,rfl,hx,q⟩:=h
 cases rx
 obtain⟨its,r,ht,hz⟩:=I.list hx
 have hlen:=r.length
 refine⟨"list",_,slot_list_getitem.lookup,ht.isList.typeIs, ?_⟩
 refine wpAny_getItem_list_slice ht.isList hs pl pu .none (by simp) ?_ (by rw[m9]<;>lia)
 rw[z4Q,<-hlen]
 refine⟨.ref s.heap.objs.size,_,I.laid (t':=s.toks) (o:= .lst (z9P xs lo hi)) (λb ob q=>Heap.get?_push_of_some _ q) (i6 _) ?_,rfl,q _ (I.hok.fresh (i6 _))⟩
 exact⟨C7 (z3p xs lo hi) hz,_,0,(r.drop (HT.sIx xs.length 0 lo)).take (HT.sIx xs.length xs.length hi -HT.sIx xs.length 0 lo),Heap.get?_push_size _ rfl⟩
def z5V:CallR X (.builtin "len") (λxs H Q=> ∃p ys,xs=[.ref p]/\(SqL X.K H p ys\/SqT X.K H p ys)/\Q (.int ys.length) H):=by
 intro qx s σ H xs us Q I r h
 obtain⟨p,ys,rfl,hq,q⟩:=h
 obtain⟨u,rfl,rx⟩:=z4g r
 cases rx
 have hn:=z5N
 rcases hq with hq|hq
 .obtain⟨its,r',pl,hz⟩:=I.list hq
  have hlen:=r'.length
  exact Calls.call_len_list pl.isList (by erw[m9]<;>lia) ⟨.int ys.length,H,I.tok _,⟨s.toks+1,by rw[m9,hlen]⟩,q⟩
 .obtain⟨its,r',pl,hz⟩:=I.tuple hq
  have hlen:=r'.length
  exact len_tuple pl (by erw[m9]<;>lia) ⟨.int ys.length,H,I.tok _,⟨s.toks+1,by rw[m9,hlen]⟩,q⟩
def z5W:CallR X (.type "list") (λxs H Q=> ∃p ys,xs=[.ref p]/\(SqL X.K H p ys\/SqT X.K H p ys)/\∀l,H l=none->Q (.ref l) (upd H l (.lst ys))):=by
 intro qx s σ H xs us Q I r h
 obtain⟨p,ys,rfl,hq,q⟩:=h
 obtain⟨u,rfl,rx⟩:=z4g r
 cases rx
 have fin: ∀(its:List bc),U5 ys its->ys.length<=qg->∀(h':Heap) (c':Nat),(∀b o',s.heap.get? b=some o'->h'.get? b=some o')->
  h'.get? s.heap.objs.size=some {cls:= .type "list",dict:=none,data:= .seq its.toArray c',slots:= #[]}->EP X qx σ Q (.ref s.heap.objs.size) {s with heap:=h'}:=λits r' hz h' c' kp e=>
  ⟨.ref s.heap.objs.size,_,I.laid (t':=s.toks) kp (i6 _) (show K3 X.prog X.w _ h' _ (.lst ys) from⟨hz,its,c',r',e⟩),rfl,q _ (I.hok.fresh (i6 _))⟩
 rcases hq with hq|hq
 .obtain⟨its,r',pl,hz⟩:=I.list hq
  have hlen:=r'.length
  obtain⟨o,ho,hc,n,hd⟩:=pl.isList
  exact call_list_seq p (.inl rfl) ho hc hd (λh' c' kp e=>fin its r' hz h' c' kp e) (by erw[m9]<;>lia)
 .obtain⟨its,r',pl,hz⟩:=I.tuple hq
  have hlen:=r'.length
  obtain⟨o,ho,hc,n,hd⟩:=pl
  exact call_list_seq p (.inr rfl) ho hc hd (λh' c' kp e=>fin its r' hz h' c' kp e) (by erw[m9]<;>lia)
def z4R:CallR X (.type "tuple") (λxs H Q=> ∃p ys,xs=[.ref p]/\((SqL X.K H p ys/\∀l,H l=none->Q (.ref l) (upd H l (.tup ys)))\/(SqT X.K H p ys/\Q (.ref p) H))):=by
 intro qx s σ H xs us Q I r h
 obtain⟨p,ys,rfl,h⟩:=h
 obtain⟨u,rfl,rx⟩:=z4g r
 cases rx
 rcases h with⟨hq,q⟩|⟨hq,q⟩
 .obtain⟨its,r',pl,hz⟩:=I.list hq
  have hlen:=r'.length
  refine call_tuple_list pl.isList (λh' kp=> ?_) (by erw[m9]<;>lia)
  have I1:Inv X qx σ H {s with heap:=h'}:=I.kept (t':=s.toks) kp
  have I2:Inv X qx σ (upd H h'.objs.size (.tup ys)) {s with heap:=h'.push {cls:= .type "tuple",data:= .seq its.toArray}}:=
   I1.laid (t':=s.toks) (λb o e=>Heap.get?_push_of_some _ e) (i6 _) (show K3 X.prog X.w _ _ _ (.tup ys) from⟨hz,its,r',IsTup.new _ _⟩)
  exact⟨.ref h'.objs.size,_,I2,rfl,q _ (I1.hok.fresh (i6 _))⟩
 .obtain⟨its,r',pl,hz⟩:=I.tuple hq
  exact call_tuple_same pl ⟨.ref p,H,I,rfl,q⟩
def tyV(K:W.Frag)(T:String)(x:V)(H:Hp):Prop:=match x with
 | .str _=>T= "str"
 | .int _=>T= "int"
 | .ref p=>(T= "list" /\∃xs,SqL K H p xs)\/(T= "tuple" /\∃o,K.lookup p=some o/\o.cls= .type "tuple" /\o.dict=none)\/
  (T= "dict" /\((∃kvs,H p=some (.dK kvs))\/∃kvs,H p=some (.dT kvs)))\/(T= "set" /\∃S n,H p=some (.set S n))
 |_=>False
def zdl(I:Inv X qx σ H s)(r:RelV x v)(ty:tyV X.K T x H):
 s.TypeIs v T/\∀a,v= .ref a->∃ob,s.heap.get? a=some ob/\ob.dict=none:=by
 cases x with
 |str z=>
  obtain⟨t,rfl⟩:=r
  cases(show T= "str" from ty)
  exact⟨typeIs_str s z t,λ_ e=>nomatch e⟩
 |int i=>
  obtain⟨t,rfl⟩:=r
  cases(show T= "int" from ty)
  exact⟨typeIs_int s i t,λ_ e=>nomatch e⟩
 |ref p=>
  cases r
  rcases ty with⟨rfl,xs,hq⟩|⟨rfl,o,hk,hc,hd⟩|⟨rfl,hk⟩|⟨rfl,S,n,hk⟩
  .obtain⟨its,_,pl,_⟩:=I.list hq
   refine⟨pl.isList.typeIs,λa e=> ?_⟩
   cases e
   obtain⟨o,n,e,c,hd,_⟩:=pl
   exact⟨o,e,hd⟩
  .refine⟨⟨o,I.kIn p o hk,hc⟩,λa e=> ?_⟩
   cases e
   exact⟨o,I.kIn _ o hk,hd⟩
  .have z: ∃o,s.heap.get? p=some o/\o.ExactDict:=by
    rcases hk with⟨kvs,hk⟩|⟨kvs,hk⟩
    .obtain⟨_,_,_,_,o,_,_,e,ex,_⟩:=I.hok p _ hk
     exact⟨o,e,ex⟩
    .obtain⟨_,_,_,_,o,_,_,e,ex,_⟩:=I.hok p _ hk
     exact⟨o,e,ex⟩
   obtain⟨o,e,ex⟩:=z
   refine⟨⟨o,e,ex.1⟩,λa e2=> ?_⟩
   cases e2
   exact⟨o,e,ex.2.1⟩
  .obtain⟨o,_,_,_,e,ex,_⟩:=I.hok p _ hk
   refine⟨⟨o,e,ex.1⟩,λa e2=> ?_⟩
   cases e2
   exact⟨o,e,ex.2.1⟩
 |_=>exact False.elim ty
def zlQ(K:W.Frag)(T:String)(r:V->List V->Hp->VK->Prop)(to:TE):TE:=λ σ H Q=>to σ H λx H1=>tyV K T x H1/\r x [] H1 Q
def tBM(K:W.Frag)(T:String)(r:V->List V->Hp->VK->Prop)(to:TE)(t:TA):TE:=λ σ H Q=>to σ H λx H1=>tyV K T x H1/\t σ H1 λxs H2=>r x xs H2 Q
variable{o e:bi}{es:List bi}{to:TE}{t:TA}{name:Str}{apos cpos:bO}{T id:String}{r:V->List V->Hp->VK->Prop}
def zgQ(pa:PlainAttrs T)(slot:Slot T name id)(hty:dv (.builtin id)=pure (.type "method_descriptor"))(hm:MtR X id r)(ho:PE X o to)
 (hbase:bR o name X.env (bC o X.env)=bC o X.env:=by rfl) (hline:(apos.endLine==cpos.line)=true:=by rfl):PE X (.Call (.Attribute o name apos) [] [] cpos) (zlQ X.K T r to):=by
 intro qx s σ H Q I h
 refine wpAny_Call_method0_late hbase hline (thn (ho qx s σ H _ I h) ?_)
 rintro v s1 ⟨x,H1,I1,r1,ty,q1⟩
 obtain⟨h1,h2⟩:=zdl I1 r1 ty
 exact⟨T,id,pa,slot,hty,h1,h2,Calls.callWith_builtin rfl (PySem.evalArgs_none (hm qx s1 σ H1 x [] v [] Q I1 r1 .nil q1))⟩
def zjZ(pa:PlainAttrs T)(slot:Slot T name id)(hty:dv (.builtin id)=pure (.type "method_descriptor"))(hm:MtR X id r)(ho:PE X o to)(ha:PA X (e::es) t)
 (hbase:bR o name X.env (bC o X.env)=bC o X.env:=by rfl)
 (hfew:((bK cpos (bh (e::es) X.env)).all (λx=> !x.1)&&(dR cpos (cK [] X.env)).all (λx=>x.1.isSome)
  &&decide ((e::es).length+([]:List cC).length+(if([]:List cC).isEmpty then 0 else 1)<30))=true:=by rfl)
 (hline:(apos.endLine==cpos.line)=true:=by rfl) (hs:bh (e::es) X.env=(false,bC e X.env)::bh es X.env:=by rfl) (hplain:(bK cpos (bh es X.env)).any (·.1)=false:=by rfl):
 PE X (.Call (.Attribute o name apos) (e::es) [] cpos) (tBM X.K T r to t):=by
 intro qx s σ H Q I h
 refine wpAny_Call_method_late hbase hfew hline rfl (thn (ho qx s σ H _ I h) ?_)
 rintro v s1 ⟨x,H1,I1,r1,ty,q1⟩
 obtain⟨h1,h2⟩:=zdl I1 r1 ty
 refine⟨T,id,pa,slot,hty,h1,h2, ?_⟩
 have hA:=ha cpos qx s1 σ H1 _ I1 q1
 rw[hs] at hA⊢
 refine Calls.callWith_builtin (by show(false||(bK cpos (bh es X.env)).any (·.1))=false;rw[hplain]<;>rfl) (Calls.evalArgs_plain ?_)
 exact thn hA λus s2 ⟨vs,H2,I2,r2,q2⟩=>hm qx s2 σ H2 x vs v us Q I2 r1 r2 q2
end
def MtM(X:Cx)(id:String)(r:V->List V->Hp->VK->Prop):Prop:=
 ∀(qx:List (Addr×bE)) (s:be) (σ:St) (H:Hp) (x:V) (xs:List V) (v:bc) (us:List bc) (Q:VK),Inv X qx σ H s->RelV x v->U5 xs us->r x xs H Q->
  bg (bj X.prog X.w) X.A (call (.builtin id) (v::us)) (EP X qx σ Q) X.xe s
def U5.one: ∀{x:V} {us:List bc},U5 [x] us->∃u,us=[u]/\RelV x u
 |_,_, .cons r .nil=>⟨_,rfl,r⟩
def U5.zero: ∀{us:List bc},U5 [] us->us=[]
 |_, .nil=>rfl
def U5.reverse{xs:List V}{us:List bc}(h:U5 xs us):U5 xs.reverse us.reverse:=by
 induction h with
 |nil=>exact .nil
 |cons r t ih=>rw[C3,C3];exact U5.append ih (.cons r .nil)
section
variable{X:Cx}{qx:List (Addr×bE)}{σ:St}{H:Hp}{s:be}{l b:Addr}{xs ys zs:List V}
def Inv.lset{its its':List bc}{n:Nat}{f:Array bc->Array bc}{t':Nat}(I:Inv X qx σ H s)(hH:H l=some (.lst xs))
 (e:s.heap.get? l=some {cls:= .type "list",data:= .seq its.toArray n}) (hf:f its.toArray=its'.toArray) (hv:U5 ys its') (hz:ys.length<=qg):
 Inv X qx σ (upd H l (.lst ys)) {s with heap:=s.heap.update l (Obj.mapSeq f),toks:=t'}:=by
 have q:=PySem.IsL.update e f
 rw[hf] at q
 refine I.write (x:=l) (e:=l) (by rw[hH];exact trivial) (.inl rfl) (λb' u hb hu=>(Heap.get?_update_other s.heap (Obj.mapSeq f) (Ne.symm hb)).trans hu) ⟨_,q⟩ ?_
 exact⟨hz,its',_,hv,q⟩
def Inv.lnew{t':Nat}(I:Inv X qx σ H s)(hv:U5 ys its)(hz:ys.length<=qg):
 Inv X qx σ (upd H s.heap.objs.size (.lst ys)) {s with heap:=s.heap.push {cls:= .type "list",data:= .seq its.toArray},toks:=t'}:=
 I.laid (λ_ _ q=>Heap.get?_push_of_some _ q) (i6 _) ⟨hz,its,0,hv,Heap.get?_push_size _ rfl⟩
def Inv.fresh(I:Inv X qx σ H s):H s.heap.objs.size=none:=I.hok.fresh (i6 _)
def Inv.lstM(I:Inv X qx σ H s)(hH:H l=some (.lst xs)):xs.length<=qg/\∃(its:List bc) (n:Nat),U5 xs its/\xs.length=its.length/\s.heap.get? l=some {cls:= .type "list",data:= .seq its.toArray n}:=by
 obtain⟨z,its,n,r,e⟩:=I.hok l _ hH
 exact⟨z,its,n,r,r.length,e⟩
def zbX{n:Nat}(h:n<=qg):Builtin.List.listTooLong n=false:=by
 delta Builtin.List.listTooLong
 exact decide_eq_false ⋯
def z9S:V->List V->Hp->VK->Prop:=λx vs H Q=> ∃l xs y,x= .ref l/\vs=[y]/\H l=some (.lst xs)/\xs.length<qg/\Q .non (upd H l (.lst (xs++[y])))
def z5X:MtM X "list.append" z9S:=by
 intro qx s σ H x vs v us Q I rx rv h
 obtain⟨l,xs,y,rfl,rfl,hH,hz,q⟩:=h
 cases rx
 obtain⟨u,rfl,ru⟩:=rv.one
 obtain⟨z,its,n,r,hl,e⟩:=I.lstM hH
 refine cD F.slot_list_append ⟨_,e,rfl⟩ F.entry_list_append (F.args_list_append_2 _ _) (PySem.list_append l its.toArray n u (by rw[m9];lia)) ⟨e, ?_⟩
 refine⟨.non,_,I.lset (its':=its++[u]) hH e (by simp) (r.append (.cons ru .nil)) ?_,rfl,q⟩
 rw[m5,D3]
 lia
def z7W:V->List V->Hp->VK->Prop:=λx vs H Q=> ∃l xs,x= .ref l/\vs=[]/\H l=some (.lst xs)/\Q .non (upd H l (.lst xs.reverse))
def z8O:MtM X "list.reverse" z7W:=by
 intro qx s σ H x vs v us Q I rx rv h
 obtain⟨l,xs,rfl,rfl,hH,q⟩:=h
 cases rx
 have hus:=rv.zero
 subst hus
 obtain⟨z,its,n,r,hl,e⟩:=I.lstM hH
 refine cD F.slot_list_reverse ⟨_,e,rfl⟩ F.entry_list_reverse (F.args_list_reverse_1 _) (AutoSeq1.list_reverse_list_0 l its.toArray n (by rw[m9];lia)) ⟨e, ?_⟩
 refine⟨.non,_,I.lset (its':=its.reverse) hH e (by simp) r.reverse ?_,rfl,q⟩
 rw[M8]
 lia
def zk0:R2:=λx y H Q=> ∃l b xs zs,x= .ref l/\y= .ref b/\H l=some (.lst xs)/\H b=some (.lst zs)/\xs.length+zs.length<=qg/\∀p,H p=none->Q (.ref p) (upd H p (.lst (xs++zs)))
def zgR:OpR X (bP .Add) zk0:=by
 intro qx s σ H x y v u Q I rx ry h
 obtain⟨l,b,xs,zs,rfl,rfl,hH,hB,hz,q⟩:=h
 cases rx
 cases ry
 obtain⟨z,its,n,r,hl,e⟩:=I.lstM hH
 obtain⟨z2,its2,n2,r2,hl2,e2⟩:=I.lstM hB
 refine PySem.P.add_list e e2 ?_ (by rw[m9,m9];lia)
 have ea:its.toArray++its2.toArray=(its++its2).toArray:=by simp
 rw[ea]
 exact⟨.ref _,_,I.lnew (t':=s.toks) (r.append r2) (by rw[m5];lia),rfl,q _ I.fresh⟩
variable{prog:bm}{w:bo}{A:bu}{E:bc->be->Prop}
set_option maxRecDepth 100000 in
end
section
variable{κ:Type}[DecidableEq κ]
def valV(kvs:List (κ×V))(k:κ):Option V:=(kvs.find? λkv=>decide (kv.1=k)).map (·.2)
def z3f(kvs:List (κ×V))(k:κ)(v:V):List (κ×V):=
 if(kvs.any λkv=>decide (kv.1=k))=true then kvs.map (λkv=>if kv.1=k then(kv.1,v) else kv) else kvs++[(k,v)]
def z3g{p:κ×V}(e:p.1=k):valV (p::r) k=some p.2:=by simp[valV,List.find?_cons,e]
def z2f{p:κ×V}(e: ¬p.1=k):valV (p::r) k=valV r k:=by simp[valV,List.find?_cons,e]
theorem z7X(k:κ): ∀kvs:List (κ×V),(kvs.any λkv=>decide (kv.1=k))=(valV kvs k).isSome
 |[]=>rfl
 |p::r=>by
  rw[O3]
  by_cases e:p.1=k
  .erw[z3g e,decide_eq_true e,S6,u04]
  .rw[z2f e,decide_eq_false e,N1];exact z7X k r
def z3q(kvs:List (κ×V))(k:κ) v:(z3f kvs k v).length<=kvs.length+1:=by
 delta z3f
 split
 .rw[l0];lia
 .rw[m5,A4,C8];lia
def RelO.isSome_eq{o:Option V}{u:Option bc}(r:RelO o u):o.isSome=u.isSome:=by
 cases o with
 |none=>cases u with
  |none=>rfl
  |some _=>exact(show False from r).elim
 |some _=>cases u with
  |none=>exact(show False from r).elim
  |some _=>rfl
def RelO.getD{o:Option V}{u:Option bc}(r:RelO o u)(rd:RelV d d'):RelV (o.getD d) (u.getD d'):=by
 cases o with
 |none=>cases u with
  |none=>exact rd
  |some _=>exact(show False from r).elim
 |some _=>cases u with
  |none=>exact(show False from r).elim
  |some _=>exact r
def KV.val(r:KV kvs vs)(k:κ):RelO (valV kvs k) (cN vs k):=by
 delta KV at r
 induction r with
 |nil=>exact True.intro
 | @cons p q ps qs h t ih=>
  obtain⟨h1,h2⟩:=h
  by_cases e:p.1=k
  .have e':q.1=k:=h1.symm.trans e
   have b:cN (q::qs) k=some q.2:=by simp[cN,List.find?_cons,e']
   rw[z3g e,b];exact h2
  .have e': ¬q.1=k:=λz=>e (h1.trans z)
   have b:cN (q::qs) k=cN qs k:=by simp[cN,List.find?_cons,e']
   rw[z2f e,b];exact ih
def KV.any{kvs:List (κ×V)}{vs:List (κ×bc)}(r:KV kvs vs)(k:κ):(kvs.any λkv=>decide (kv.1=k))=vs.any λkv=>decide (kv.1=k):=by
 delta KV at r
 induction r with
 |nil=>rfl
 |cons h t ih=>rw[O3,O3,ih,h.1]
def KV.repl(r:KV kvs vs)(k:κ)(ry:RelV y u):
 KV (kvs.map λkv=>if kv.1=k then(kv.1,y) else kv) (vs.map λkv=>if kv.1=k then(kv.1,u) else kv):=by
 delta KV at r⊢
 induction r with
 |nil=>exact .nil
 | @cons p q ps qs h t ih=>
  rw[i7,i7]
  refine .cons ?_ ih
  obtain⟨h1,h2⟩:=h
  by_cases e:p.1=k
  .rw[qy e,qy (h1.symm.trans e)];exact⟨h1,ry⟩
  .rw[qh e,qh (λz=>e (h1.trans z))];exact⟨h1,h2⟩
def KV.put(r:KV kvs vs)(k:κ)(ry:RelV y u):KV (z3f kvs k y) (stored vs k u):=by
 delta z3f stored
 rw[r.any k]
 by_cases e:(vs.any λkv=>decide (kv.1=k))=true
 .rw[qy e,qy e];exact r.repl k ry
 .rw[qh e,qh e];exact Paired.snoc r ⟨rfl,ry⟩
def KV.length{kvs:List (κ×V)}{vs:List (κ×bc)}(r:KV kvs vs):kvs.length=vs.length:=Paired.length r
end
def z8P(r:RelV (kV k) u):(Q0 P w).is k u=true:=by
 cases k with
 |inl i=>obtain⟨t,e⟩:=(show ∃t,u=Value.int i t from r);subst e;exact z6W P w i t
 |inr x=>obtain⟨t,e⟩:=(show ∃t,u=Value.str x t from r);subst e;exact z6X P w x t
theorem z5Y: ∀{ks:List Key} {us:List bc},U5 (ks.map kV) us->ItemsAre (Q0 P w) ks us
 |[],_,r=>by rw[t7] at r;cases r;exact .nil
 |k::ks,_,r=>by
  rw[i7] at r
  cases r with
  |cons h t=>exact .cons (z8P h) (z5Y t)
abbrev KT(H:Hp):List (NK×V)->List (NK×Addr×bc)->Prop:=bx λp q=>p.1=q.1/\TK H p.1 q.2.1/\RelV p.2 q.2.2
def KT.val(r:KT H kvs xs)(k:NK):RelO (valV kvs k) ((dk xs k).map (·.2)):=by
 induction r with
 |nil=>exact True.intro
 | @cons p q ps qs h t ih=>
  obtain⟨h1,_,h2⟩:=h
  by_cases e:p.1=k
  .have e':q.1=k:=h1.symm.trans e
   have b:dk (q::qs) k=some q.2:=by simp[dk,List.find?_cons,e']
   rw[z3g e,b];exact h2
  .have e': ¬q.1=k:=λz=>e (h1.trans z)
   have b:dk (q::qs) k=dk qs k:=by simp[dk,List.find?_cons,e']
   rw[z2f e,b];exact ih
def KT.repl(r:KT H kvs xs)(k:NK)(ry:RelV y u):
 KT H (kvs.map λkv=>if kv.1=k then(kv.1,y) else kv) (xs.map (putAt k u)):=by
 induction r with
 |nil=>exact .nil
 | @cons p q ps qs h t ih=>
  rw[i7,i7]
  refine .cons ?_ ih
  obtain⟨h1,h2,h3⟩:=h
  delta putAt
  by_cases e:p.1=k
  .rw[qy e,qy (h1.symm.trans e)];exact⟨h1,h2,ry⟩
  .rw[qh e,qh (λz=>e (h1.trans z))];exact⟨h1,h2,h3⟩
def KT.put(r:KT H kvs xs)(k:NK)(hb:TK H k b)(ry:RelV y u):
 KT H (z3f kvs k y) (storedH xs k b u):=by
 have e:(kvs.any λkv=>decide (kv.1=k))=(dk xs k).isSome:=by
  rw[z7X,(r.val k).isSome_eq,u05]
 delta z3f storedH
 rw[e]
 by_cases q:(dk xs k).isSome=true
 .rw[qy q,qy q];exact r.repl k ry
 .rw[qh q,qh q];exact Paired.snoc r ⟨rfl,hb,ry⟩
def KT.keeps(r:KT H kvs xs)(ht: ∀b ys,H b=some (.tup ys)->H' b=some (.tup ys)):KT H' kvs xs:=
 Paired.mapP r λ_ _ z=>⟨z.1,z.2.1.stay ht,z.2.2⟩
section
variable{P:bm}{w:bo}{H:Hp}{h:Heap}{a:Addr}
def zeq(ok:HOk P w H h)(e:Rd H a u):K3 P w H h a u:=e.ok ok
def z72{kvs:List (Key×V)}(ok:HOk P w H h)(e:Rd H a (.dK kvs)):kvs.length<=qg/\(a==bz)=false/\∃vs,KV kvs vs/\h.DictOf (Q0 P w) a vs:=
 show K3 P w H h a (.dK kvs) from zeq ok e
def zk1{kvs:List (Key×V)}(ok:HOk P w H h)(e:H a=some (.dK kvs)):kvs.length<=qg/\(a==bz)=false/\∃vs,KV kvs vs/\h.DictOf (Q0 P w) a vs:=z72 ok (.inl e)
def zer{ks:List Key}(ok:HOk P w H h)(e:H a=some (.tup (ks.map kV))):cX (Q0 P w) h ks a:=by
 obtain⟨_,its,r,o,h1,h2,n,h3⟩:=(show K3 P w H h a (.tup (ks.map kV)) from ok a _ e)
 exact⟨o,its.toArray,n,h1,h2,h3,by simpa using z5Y r⟩
theorem z73(ok:HOk P w H h): ∀{k:NK} {xs:List V} {us:List bc},bx (TKi H) k xs->U5 xs us->bx (ItN P w h) k us
 |_,_,_, .nil, .nil=> .nil
 | .inl k::_,_,_, .cons a b, .cons c d=>by
  have e:=(show _=kV k from a)
  subst e
  exact .cons (z8P c) (z73 ok b d)
 | .inr ks::_,_,_, .cons a b, .cons c d=>by
  obtain⟨x,rfl,hx⟩:=a
  cases c
  exact .cons ⟨x,rfl,zer ok hx⟩ (z73 ok b d)
def z3r(ok:HOk P w H h)(e:TK H k a):(U7 P w).is h k a:=by
 obtain⟨xs,e,p⟩:=e
 obtain⟨_,its,r,o,h1,h2,n,h3⟩:=(show K3 P w H h a (.tup xs) from ok a _ e)
 exact⟨o,its.toArray,n,h1,h2,h3,by simpa using z73 ok p r⟩
def z8Q{kvs:List (NK×V)}(ok:HOk P w H h)(e:Rd H a (.dT kvs)):kvs.length<=qg/\(a==bz)=false/\
 ∃xs,KT H kvs xs/\h.DictOfH (U7 P w) a xs:=by
 obtain⟨z,y,xs,r,o,es,ep,h1,h2,h3,h4,h5⟩:=(show K3 P w H h a (.dT kvs) from zeq ok e)
 refine⟨z,y,xs,r,o,es,ep,h1,h2,h3,h4,λx hx=> ?_,h5⟩
 have all: ∀{l:List (NK×V)} {m:List (NK×Addr×bc)},KT H l m->∀x∈m,(U7 P w).is h x.1 x.2.1:=by
  intro l m q
  induction q with
  |nil=>intro x hx;exact nomatch hx
  | @cons p q ps qs hq t ih=>
   intro x hx
   rcases m3.mp hx with e|hx
   .subst e
    exact z3r ok (by rw[<-hq.1];exact hq.2.1)
   .exact ih x hx
 exact all r x hx
def zgS{kvs:List (NK×V)}(ok:HOk P w H h)(e:H a=some (.dT kvs)):kvs.length<=qg/\(a==bz)=false/\
 ∃xs,KT H kvs xs/\h.DictOfH (U7 P w) a xs:=z8Q ok (.inl e)
end
def DGet(H:Hp)(a:Addr)(y:V)(r:Option V):Prop:=
 (∃kvs k,Rd H a (.dK kvs)/\y=kV k/\r=valV kvs k)\/∃kvs k b,Rd H a (.dT kvs)/\y= .ref b/\TK H k b/\r=valV kvs k
def z9p(H:Hp)(a:Addr)(y v:V)(H':Hp):Prop:=
 (∃kvs k,H a=some (.dK kvs)/\y=kV k/\kvs.length<qg/\H'=upd H a (.dK (z3f kvs k v)))\/
 ∃kvs k b,H a=some (.dT kvs)/\y= .ref b/\TK H k b/\kvs.length<qg/\H'=upd H a (.dT (z3f kvs k v))
def z9p.k{H:Hp}{a:Addr}{kvs:List (Key×V)}{k:Key}{v:V}(e:H a=some (.dK kvs))(hl:kvs.length<qg):z9p H a (kV k) v (upd H a (.dK (z3f kvs k v))):= .inl ⟨kvs,k,e,rfl,hl,rfl⟩
def z9p.t{H:Hp}{a b:Addr}{kvs:List (NK×V)}{k:NK}{v:V}(e:H a=some (.dT kvs))(eb:TK H k b)(hl:kvs.length<qg):
 z9p H a (.ref b) v (upd H a (.dT (z3f kvs k v))):= .inr ⟨kvs,k,b,e,rfl,eb,hl,rfl⟩
section
variable{X:Cx}{qx:List (Addr×bE)}{σ:St}{H:Hp}{s:be}{a:Addr}{y v:V}{u r:bc}{o:Option V}{A:bu}{E:bc->be->Prop}
def Inv.big(I:Inv X qx σ H s):bz<s.heap.objs.size:=by
 have h:bn<s.heap.objs.size:=(I.mod.glob.keeps I.bk).lt
 exact u06 (by decide) h
def z9T{Q:bc->be->Prop}(hu:A.units+2<cLine)(I:Inv X qx σ H s)(g:DGet H a y (some v))(ry:RelV y u)(h: ∀w' s',Inv X qx σ H s'->RelV v w'->Q w' s'):
 bg (bj X.prog X.w) A (cg (.ref a) u) Q E s:=by
 rcases g with⟨kvs,k,e,ey,l⟩|⟨kvs,k,b,e,ey,eb,l⟩
 .subst ey
  obtain⟨z,hd,vs,rel,dd⟩:=z72 I.hok e
  obtain⟨w',hw,rw'⟩:=RelO.some_of (v:=v) (o:=cN vs k) (by rw[l];exact rel.val k)
  exact wpAny_getItem_of (z8P ry) dd.mapOf hw (h w' _ (I.tok _) rw')
 .subst ey
  cases(show u=Value.ref b from ry)
  obtain⟨z,hd,xs,rel,dd⟩:=z8Q I.hok e
  obtain⟨w',hw,rw'⟩:=RelO.some_of (v:=v) (o:=(dk xs k).map (·.2)) (by rw[l];exact rel.val k)
  obtain⟨p,hp,hp2⟩:=L0.mp hw
  refine wpAny_getItem_heap (z2d hu) (z3r I.hok eb) dd hp ?_
  rw[hp2]
  exact h w' _ (I.tok _) rw'
def zes{Q:bc->be->Prop}(hu:A.units+2<cLine)(I:Inv X qx σ H s)(g:DGet H a y o)(ry:RelV y u)(h: ∀s',Inv X qx σ H s'->Q (.bool (!o.isSome)) s'):
 bg (bj X.prog X.w) A (bI .NotIn u (.ref a)) Q E s:=by
 rcases g with⟨kvs,k,e,ey,l⟩|⟨kvs,k,b,e,ey,eb,l⟩
 .subst ey
  obtain⟨z,hd,vs,rel,dd⟩:=z72 I.hok e
  refine wpAny_notIn_of (z8P ry) hd dd.mapOf ?_
  rw[<-(rel.val k).isSome_eq,<-l]
  exact h _ (I.tok _)
 .subst ey
  cases(show u=Value.ref b from ry)
  obtain⟨z,hd,xs,rel,dd⟩:=z8Q I.hok e
  refine wpAny_notIn_heap (z2d hu) (z3r I.hok eb) hd dd ?_
  have q:=(rel.val k).isSome_eq
  rw[u05] at q
  rw[<-q,<-l]
  exact h _ (I.tok _)
def z74{h':Heap}{t':Nat}(I:Inv X qx σ H s)(mu:Mut (H a))(hs:Heap.SameBut a s.heap h')(he: ∃q,h'.get? a=some q)(new:K3 X.prog X.w (upd H a ob) h' a ob):
 Inv X qx σ (upd H a ob) {s with heap:=h',toks:=t'}:=
 I.write (x:=a) (e:=a) mu (.inl rfl) (λb q hb z=>(hs.2 b hb).trans z) he new
def zgT{H':Hp}{h':Heap}{kvs:List (Key×V)}(z:kvs.length<=qg)(hd:(a==bz)=false)(rel:KV kvs vs)(dd:h'.DictOf (Q0 P w) a vs):
 K3 P w H' h' a (.dK kvs):=⟨z,hd,vs,rel,dd⟩
def z9U{H':Hp}{Q:Unit->be->Prop}(hu:A.units+2<cLine)(I:Inv X qx σ H s)(g:z9p H a y v H')(ry:RelV y u)(rv:RelV v r)(h: ∀s',Inv X qx σ H' s'->Q () s'):
 bg (bj X.prog X.w) A (setItem (.ref a) u r) Q E s:=by
 rcases g with⟨kvs,k,e,ey,l,eH⟩|⟨kvs,k,b,e,ey,eb,l,eH⟩
 .subst ey eH
  obtain⟨z,hd,vs,rel,dd⟩:=zk1 I.hok e
  have hz:vs.length<=qg:=by rw[<-rel.length];exact z
  have hl:(z3f kvs k v).length<=qg:=by have:=z3q kvs k v;lia
  refine wpAny_setItem_pairs (hsz:=hz) (z8P ry) dd λh' dd' hs=>h _ ?_
  have he: ∃q,h'.get? a=some q:=let⟨q,_,_,hq,_⟩:=dd';⟨q,hq⟩
  exact z74 I (by rw[e];exact True.intro) hs he (zgT hl hd (rel.put k rv) dd')
 .subst ey eH
  cases(show u=Value.ref b from ry)
  obtain⟨z,hd,xs,rel,dd⟩:=zgS I.hok e
  have hz:xs.length<=qg:=by rw[<-Paired.length rel];exact z
  have hl:(z3f kvs k v).length<=qg:=by have:=z3q kvs k v;lia
  refine wpAny_setItem_heap (hsz:=hz) (z2d hu) (z3r I.hok eb) dd λh' dd' hs=>h _ ?_
  obtain⟨q,es,ep,hq,h2,h3,h4,_,h5⟩:=dd'
  refine z74 I (by rw[e];exact True.intro) hs ⟨q,hq⟩ ⟨hl,hd,_,(rel.put k eb rv).keeps λc ys ec=> ?_,q,es,ep,hq,h2,h3,h4,h5⟩
  rw[Z5 (z0Z ec e (λz=>nomatch z))]
  exact ec
end
def zlo(i:bi):Prop:= ∀ov iv,cJ i false ov iv=operate [ov,iv] (cg ov iv)
def zet{prog:bm}{w:bo}{A:bu}{E:bc->be->Prop}{s:be}{env:cY}{value slice:bi}{pos:bO}{T id:String}{Q:bc->be->Prop}
 (hl:dP (.type T) "__getitem__" =pure (some (.builtin id))) (hs:zlo slice)
 (h:bg (bj prog w) A (bC value env) (λo s₁=>bg (bj prog w) A (bC slice env) (λi s₂=>s₂.TypeIs o T/\bg (bj prog w) A (cg o i) Q E s₂) E s₁) E s):
 bg (bj prog w) A (bC (.Subscript value slice pos) env) Q E s:=by
 refine dQ (bA h (λo s₁ h₁=>bA h₁ (λi s₂ h₂=> ?_) λ_ _ x=>x) λ_ _ x=>x)
 obtain⟨hT,h₂⟩:=h₂
 delta cU
 refine bb ?_
 rw[getitemInPython_of_ne hT.not_modules]
 refine bb (bU hT hl ?_)
 have fin:bg (bj prog w) A (cJ slice false o i) (λr s₃=>bg (bj prog w) A (letTemporaryGo value o r>>=λ_=>pure r) Q E s₃) E s₂:=by
  rw[hs o i]
  exact wpAny_operating (bA h₂ (λr s₃ h₃=>bb (wpAny_letTemporaryGo (bf h₃))) λ_ _ x=>x)
 first
  |exact bf (bb fin)
  |exact bb (bf (bb fin))
  |exact bb fin
def z75{s:be}(I:Inv X qx σ H s)(g:DGet H a y o):s.TypeIs (.ref a) "dict" :=by
 rcases g with⟨kvs,k,e,_,_⟩|⟨kvs,k,b,e,_,_,_⟩
 .obtain⟨_,_,vs,_,dd⟩:=z72 I.hok e
  exact dd.typeIs
 .obtain⟨_,_,xs,_,dd⟩:=z8Q I.hok e
  exact dd.typeIs
def zk2(td ty:TE):TE:=λ σ H Q=>td σ H λx H1=>ty σ H1 λy H2=> ∃a v,x= .ref a/\DGet H2 a y (some v)/\Q v H2
def zk3(td ty tv:TE):TS:=λD σ H=>tv σ H λv H1=>td σ H1 λx H2=>ty σ H2 λy H3=> ∃a H4,x= .ref a/\z9p H3 a y v H4/\D.nx σ H4
section
variable{X:Cx}{o i e value:bi}{pos pos' tpos:bO}{td ty tv:TE}
def zeu(hu:X.A.units+2<cLine)(ho:PE X o td)(hi:PE X i ty)(hs:zlo i):PE X (.Subscript o i pos) (zk2 td ty):=by
 intro qx s σ H Q I h
 refine zet PySem.F.slot_dict_getitem.lookup hs (thn (ho qx s σ H _ I h) λu s1 ⟨x,H1,I1,rx,q1⟩=>thn (hi qx s1 σ H1 _ I1 q1) ?_)
 rintro iv s2 ⟨y,H2,I2,ry,a,v,ex,g,q2⟩
 subst ex
 obtain rfl:u=Value.ref a:=rx
 exact⟨z75 I2 g,z9T hu I2 g ry λw' s3 I3 rw'=>⟨v,H2,I3,rw',q2⟩⟩
def z76(hu:X.A.units+2<cLine)(ho:PE X o td)(hi:PE X i ty)(hv:PE X value tv)(hs:bQ value (some (.Subscript o i pos')) pos.line X.env=pure false):
 PS X (.Assign [.Subscript o i pos'] value pos) (zk3 td ty tv):=by
 intro qx s σ H D I h
 refine wpAny_Assign_Subscript (thn (hv qx s σ H _ I h) λr s1 ⟨v,H1,I1,rv,q1⟩=>thn (ho qx s1 σ H1 _ I1 q1) λu s2 ⟨x,H2,I2,rx,q2⟩=>thn (hi qx s2 σ H2 _ I2 q2) λiv s3 ⟨y,H3,I3,ry,a,H4,ex,g,q3⟩=> ?_) hs
 subst ex
 obtain rfl:u=Value.ref a:=rx
 exact z9U hu I3 g ry rv λs4 I4=>⟨σ,H4,I4,q3⟩
end
def zbY(h:Heap)(hb:bz<h.objs.size):K3 P w H (h.push {cls:= .type "dict",data:= .dict #[]}) h.objs.size (.dK []):=
 ⟨B9 _,beq_eq_false_iff_ne.mpr (Ne.symm (B3 hb)),[], .nil,Heap.DictOf.new h⟩
def z7Y(h:Heap)(hb:bz<h.objs.size):K3 P w H (h.push {cls:= .type "dict",data:= .dict #[]}) h.objs.size (.dT []):=
 ⟨B9 _,beq_eq_false_iff_ne.mpr (Ne.symm (B3 hb)),[], .nil,_, #[],0,Heap.get?_push_size _ rfl,⟨rfl,rfl,rfl⟩,rfl,rfl,N6⟩
def zgU:TE:=λ_ H Q=> ∀p,H p=none->Q (.ref p) (upd H p (.dK []))
def zgV:TE:=λ_ H Q=> ∀p,H p=none->Q (.ref p) (upd H p (.dT []))
section
variable{X:Cx}{pos:bO}
def zbZ:PE X (.Dict [] [] pos) zgU:=λqx s σ H Q I h=>
 dw ⟨.ref s.heap.objs.size,_,I.laid (a:=s.heap.objs.size) (o:= .dK []) (t':=s.toks) (λ_ _ q=>Heap.get?_push_of_some _ q) (i6 _) (zbY s.heap I.big),rfl,h _ (I.hok.fresh (i6 _))⟩
def zc0:PE X (.Dict [] [] pos) zgV:=λqx s σ H Q I h=>
 dw ⟨.ref s.heap.objs.size,_,I.laid (a:=s.heap.objs.size) (o:= .dT []) (t':=s.toks) (λ_ _ q=>Heap.get?_push_of_some _ q) (i6 _) (z7Y s.heap I.big),rfl,h _ (I.hok.fresh (i6 _))⟩
end
def z9V:List (TE×TE)->St->Hp->(List (V×V)->Hp->Prop)->Prop
 |[],_,H,Q=>Q [] H
 |(tk,tv)::r,σ,H,Q=>tk σ H λx H1=>tv σ H1 λy H2=>z9V r σ H2 λps H3=>Q ((x,y)::ps) H3
abbrev VV:List (V×V)->List (bc×bc)->Prop:=bx λp q=>RelV p.1 q.1/\RelV p.2 q.2
def PPs(X:Cx)(pos:bO)(keys:List (Option bi))(values:List bi)(trs:List (TE×TE)):Prop:=
 ∀(qx:List (Addr×bE)) (s:be) (σ:St) (H:Hp) (Q:List (V×V)->Hp->Prop),Inv X qx σ H s->z9V trs σ H Q->
  bg (bj X.prog X.w) X.A (evalPairs (pairTrees keys values X.env pos)) (λvs s'=> ∃ps H',Inv X qx σ H' s'/\VV ps vs/\Q ps H') X.xe s
def zev:PPs X pos [] [] []:=λqx s σ H Q I h=>pairTrees_nil_walk ⟨[],H,I, .nil,h⟩
def zc1(hk:PE X k tk)(hv:PE X v tv)(hr:PPs X pos ks vs trs):
 PPs X pos (some k::ks) (v::vs) ((tk,tv)::trs):=λqx s σ H Q I h=>
 pairTrees_cons_walk (thn (hk qx s σ H _ I h) λu s1 ⟨x,H1,I1,rx,q1⟩=>thn (hv qx s1 σ H1 _ I1 q1) λw2 s2 ⟨y,H2,I2,ry,q2⟩=>
  thn (hr qx s2 σ H2 _ I2 q2) λws s3 ⟨ps,H3,I3,rel,q3⟩=>⟨(x,y)::ps,H3,I3, .cons ⟨rx,ry⟩ rel,q3⟩)
structure M2(X:Cx)(o:bi)(m:Str)(apos:bO)(e f:bi)(cpos:bO):Prop where
 base:bR o m X.env (bC o X.env)=bC o X.env
 few:((bK cpos (bh [e,f] X.env)).all (λx=> !x.1)&&(dR cpos (cK [] X.env)).all (λx=>x.1.isSome)
  &&decide (([e,f]:List bi).length+([]:List cC).length+(if([]:List cC).isEmpty then 0 else 1)<30))=true
 line:(apos.endLine==cpos.line)=true
 trees:bK cpos (bh [e,f] X.env)=[(false,bC e X.env),(false,bC f X.env)]
def IsD(H:Hp)(a:Addr):Prop:=(∃kvs,Rd H a (.dK kvs))\/∃kvs,Rd H a (.dT kvs)
def zgW(I:Inv X qx σ H s)(d:IsD H a):
 s.TypeIs (.ref a) "dict" /\(∀b,Value.ref a= .ref b->∃ob,s.heap.get? b=some ob/\ob.dict=none)/\(a==bz)=false:=by
 rcases d with⟨kvs,e⟩|⟨kvs,e⟩
 .obtain⟨_,hd,vs,_,dd⟩:=z72 I.hok e
  refine⟨dd.typeIs,λb q=> ?_,hd⟩
  cases q
  obtain⟨ob,_,_,h1,h2,_⟩:=dd
  exact⟨ob,h1,h2.2.1⟩
 .obtain⟨_,hd,xs,_,dd⟩:=z8Q I.hok e
  refine⟨dd.typeIs,λb q=> ?_,hd⟩
  cases q
  obtain⟨ob,_,_,h1,h2,_⟩:=dd
  exact⟨ob,h1,h2.2.1⟩
section
variable{X:Cx}{qx:List (Addr×bE)}{σ:St}{H:Hp}{s:be}{a:Addr}{y d:V}{u r:bc}{o:Option V}{A:bu}{E:bc->be->Prop}
def zgX{Q:bc->be->Prop}(hu:A.units+2<cLine)(I:Inv X qx σ H s)(g:DGet H a y o)(ry:RelV y u)(rd:RelV d r)(h: ∀w' s',Inv X qx σ H s'->RelV (o.getD d) w'->Q w' s'):
 bg (bj X.prog X.w) A (call (.builtin "dict.get") [.ref a,u,r]) Q E s:=by
 rcases g with⟨kvs,k,e,ey,l⟩|⟨kvs,k,b,e,ey,eb,l⟩
 .subst ey
  obtain⟨z,hd,vs,rel,dd⟩:=z72 I.hok e
  refine call_meetsIn PySem.F.slot_dict_get dd.typeIs PySem.F.entry_dict_get (PySem.F.args_dict_get_3 _ _ _) (meets_dict_get_default (Q0 X.prog X.w) a (z8P ry) hd r) ⟨_,dd.mapOf,h _ _ (I.tok _) ?_⟩
  rw[l]
  exact(rel.val k).getD rd
 .subst ey
  cases(show u=Value.ref b from ry)
  obtain⟨z,hd,xs,rel,dd⟩:=z8Q I.hok e
  refine call_meetsIn PySem.F.slot_dict_get dd.typeIs PySem.F.entry_dict_get (PySem.F.args_dict_get_3 _ _ _) (meetsH_dict_get_default (U7 X.prog X.w) a b hd r) ⟨z2d hu,k,xs,z3r I.hok eb,dd,h _ _ (I.tok _) ?_⟩
  rw[l]
  exact(rel.val k).getD rd
end
def zdm(td ty tx:TE):TE:=λ σ H Q=>td σ H λx H1=> ∃a,x= .ref a/\IsD H1 a/\ty σ H1 λy H2=>tx σ H2 λz H3=> ∃o,DGet H3 a y o/\Q (o.getD z) H3
section
variable{X:Cx}{o e f:bi}{apos cpos:bO}{td ty tx:TE}
def zc2(hu:X.A.units+2<cLine)(ho:PE X o td)(he:PE X e ty)(hf:PE X f tx)(m:M2 X o "get" apos e f cpos):PE X (.Call (.Attribute o "get" apos) [e,f] [] cpos) (zdm td ty tx):=by
 intro qx s σ H Q I h
 refine wpAny_Call_method m.base m.few m.line PySem.F.plainAttrs_dict PySem.F.slot_dict_get PySem.F.type_dict_get (thn (ho qx s σ H _ I h) ?_)
 rintro u s1 ⟨x,H1,I1,rx,a,ex,d,q1⟩
 subst ex
 obtain rfl:u=Value.ref a:=rx
 obtain⟨t1,t2,_⟩:=zgW I1 d
 refine⟨t1,t2, ?_⟩
 rw[m.trees]
 refine Calls.callWith_builtin rfl (Calls.evalArgs_plain (Calls.spliced_cons (thn (he qx s1 σ H1 _ I1 q1) λiv s2 ⟨y,H2,I2,ry,q2⟩=>
  Calls.spliced_cons (thn (hf qx s2 σ H2 _ I2 q2) λfv s3 ⟨z,H3,I3,rz,ov,g,q3⟩=>Calls.spliced_nil ?_))))
 exact zgX hu I3 g ry rz λw' s4 I4 rw'=>⟨_,H3,I4,rw',q3⟩
end
end L2
namespace Att
open PySem PySem.W PySem.Calls PyProof.Rows
def z3s: ∀ns vs,WellAll P h vs (ns.map WData.int)->dB vs ns:=by
 intro ns
 induction ns with
 |nil=>
  intro vs w
  rw[t7] at w
  cases w
  exact .nil
 |cons n ns ih=>
  intro vs w
  rw[i7] at w
  cases w with
  |cons a b=>
   cases a
   exact .cons _ _ (ih _ b)
def z9W{l:OpenLaw}{n:Nat}(hn:l.most=some n){P:Params}{h:Heap}{args:List WData}{vals:List bc}
 (hpre:l.row.toRowW.claim.pre args=true) (hwl:WellAll P h vals args):
 ∃a vs ns,vals=[Value.ref a]/\args=[WData.list (ns.map WData.int)]/\h.get? a=some {cls:= .type "list",data:= .seq vs.toArray}/\dB vs ns/\ns.length<=n:=by
 have hsh:WShape.hasAll [] args [.list .int]=true:=(pre_splitW hpre).1
 have hc:l.pre.holds [] {args:=args}=true:=(pre_splitW hpre).2
 obtain⟨d,r,rfl,h1,h2⟩:=hasAllW_cons hsh
 obtain rfl:=hasAllW_nil h2
 obtain⟨xs,rfl,h3⟩:=hasW_list h1
 obtain⟨ns,rfl⟩:=items_int h3
 have hlen:ns.length<=n:=by
  delta OpenLaw.pre at hc
  have h4:(WTm.not (.lt (.lit (.int (n:Int))) (.len (.arg 0)))).holds [] {args:=[.list (ns.map .int)]}=true:=by
   have h4:=(holds_andW hc).1
   rw[hn] at h4
   exact h4
  have h5:=condW_of h4 (w_not (w_lt w_lit (w_len_list (w_arg rfl))))
  rw[l0] at h5
  refine S1 λq=> ?_
  have q':(n:Int)<((ns.length:Nat):Int):=by lia
  first
   |(rw[decide_eq_true q'] at h5;exact absurd h5 (by decide))
   |(simp at h5;lia)
 cases hwl with
 |cons w1 w2=>
  cases w2
  cases w1 with
  |list ho hall=>exact⟨_,_,ns,rfl,rfl,ho,z3s ns _ hall,hlen⟩
def z9X(l:OpenLaw) args:l.row.toRowW.claim.post args (.bool true) args=true:=
 postW_of (r:=l.row.toRowW) (X:=(true==true))
  (show WShape.has [] (.bool true) .bool=true by first|rfl|decide|simp[WShape.has,WShape.arms,WShape.armsAll])
  (show(WTm.eq .res (.lit (.bool true))).value [] {args:=args,res:=some (.bool true),after:=args}=some (.bool (true==true)) from w_eq_bool (w_res rfl) w_lit) rfl
def attach_call{l:OpenLaw}{n:Nat}{q:bm}{loose:List Str}{XP:(Str->Option bc)->Heap->Prop}{YP:bo->Heap->Prop}{d:DefRec}
 (hn:l.most=some n) (hdf:d.params.defaults=[])
 (call: ∀w s₀ s₁ (mg mb:Str->Option bc) fa o pm cd doc a vs ns,
  Ground q loose [] XP w s₀ mg mb s₁.heap->YP w s₁.heap->
  s₁.heap.get? fa=some o->o.data= .func (docDef d.name d.params d.body d.scope pm cd doc)->s₁.heap.CodeRec cd d.name->mg d.name=some (.ref fa)->
  s₁.heap.get? a=some {cls:= .type "list",data:= .seq vs.toArray}->dB vs ns->ns.length<=n->s₁.gens= #[]->
  ca (bj l.prog w) cO (.call (.ref fa) ⟨[.ref a],[]⟩) (λr s'=>r= .ok (.ret (.bool true))/\OldK s₁.heap s'.heap/\s'.os=s₁.os/\cr s'.gens) s₁):
 WalkO q loose XP YP l.row.toRowW d [] (λf vs=>PySem.call f vs):=by
 intro w s₀ s₁ mg mb G Y fa o pm cd doc dV kV ho hd hcd hD hmg hg args vals as hpre hlay hrd hwl hlo
 obtain rfl:dV= .none:=Dflts.none hD hdf
 obtain rfl:kV= .none:=Dflts.noKw hD
 obtain⟨a,vs,ns,rfl,rfl,hobj,hints,hlen⟩:=z9W hn hpre hwl
 refine enter_call (cy (call w s₀ s₁ mg mb fa o pm cd doc a vs ns G Y ho (fd_plain hd) hcd hmg hobj hints hlen hg) λr s' hq=> ?_)
 obtain⟨rfl,h2,h3,h4⟩:=hq
 exact⟨.inl ⟨.bool true, .bool true,[],rfl,λ_=>rfl, .bool true,z9X l _,λ_=>⟨List.Pairwise.nil,λ_ hm=>(nomatch hm)⟩⟩,h2,h3,h4⟩
end Att
namespace L2
open PySem PySem.Spec PyProof.Rows
theorem z5Z: ∀{vs:List bc} {ns:List Int},dB vs ns->U5 (ns.map V.int) vs
 |_,_, .nil=> .nil
 |_,_, .cons n t h=> .cons ⟨t,rfl⟩ (z5Z h)
def zjt(H:Hp):Prop:= ∀b,H b=none\/∃o xs,H b=some (.frz o (.lst xs))
def zc3{P:bm}{w:bo}{K:W.Frag}{mg mb:Str->Option bc}{CX:CXT}{k:Nat}{fa a:Addr}{fd:bB}{x:Str}{sp:Sp}{s₁:be}{vs:List bc}{ns:List Int}
 (KX:K.In s₁.heap) (hns:s₁.heap.Ns bn mg) (hb:s₁.heap.Ns dG mb) (hbb: ∀x:Str,x≠ "__name__" ->mb x=bF x) (hlim:s₁.heap.NoLimit) (hg:s₁.gens= #[])
 (ha:s₁.heap.get? a=some {cls:= .type "list",data:= .seq vs.toArray}) (hi:dB vs ns) (hl:ns.length<=qg) (hr:z4h k cO)
 (F: ∀base:Heap,K.In base->base.Ns bn mg->z0F P w K mg base CX k fa fd [x] sp) (hbind: ∀s u,dg s fd ⟨[u],[]⟩ [(x,u)])
 (hsp: ∀H:Hp,zjt H->SqL K H a (ns.map V.int)->sp [.ref a] H (λv _=>v= .bl true) λ_ _ _=>False)
 (hCX: ∀H e s',CX [] H s₁ (λ_ _ _=>False) e s'->False):
 ca (bj P w) cO (.call (.ref fa) ⟨[.ref a],[]⟩) (λr s'=>r= .ok (.ret (.bool true))/\OldK s₁.heap s'.heap/\s'.os=s₁.os/\cr s'.gens) s₁:=by
 have rv:=z5Z hi
 have lenV:=hi.length
 have core: ∀H:Hp,zjt H->SqL K H a (ns.map V.int)->HOk P w H s₁.heap->(∀b,H b≠none->b=a)->(H a≠none->K.lookup a=none)->
  ca (bj P w) cO (.call (.ref fa) ⟨[.ref a],[]⟩) (λr s'=>r= .ok (.ret (.bool true))/\OldK s₁.heap s'.heap/\s'.os=s₁.os/\cr s'.gens) s₁:=by
  intro H hO hS hok hA hK
  have base_of: ∀{b:Addr} {o:bE},s₁.heap.get? b=some o->H b=none->(zbN s₁.heap H).get? b=some o:=λe n=>zbO e n
  have noA: ∀{b:Addr} {o:bE} {es:Array cn} {ep:Nat},s₁.heap.get? b=some o->o.data= .dict es ep->H b=none:=λ{b o es ep} e d=>by
   cases q:H b with
   |none=>rfl
   |some u=>
    have e':b=a:=hA b (by rw[q];simp)
    subst e'
    rw[ha] at e;cases e
    have d':Data.seq vs.toArray _=Data.dict es ep:=d
    cases d'
  have nsK: ∀{b:Addr} {m:Str->Option bc},s₁.heap.Ns b m->(zbN s₁.heap H).Ns b m:=λ{b m} ⟨o,es,ep,e,d,r⟩=>⟨o,es,ep,base_of e (noA e d),d,r⟩
  have hKb:K.In (zbN s₁.heap H):=λb o e=>base_of (KX b o e) (by
   cases q:H b with
   |none=>rfl
   |some u=>
    have e':b=a:=hA b (by rw[q];simp)
    subst e'
    rw[hK (by rw[q];simp)] at e;cases e)
  have hM:Mod K mg (zbN s₁.heap H):=⟨hKb,nsK hns,⟨mb,nsK hb,hbb⟩,let⟨mc,h1,h2⟩:=hlim;⟨mc,nsK h1,h2⟩⟩
  have e0:zjs P w K mg (zbN s₁.heap H) cO [] s₁ H:=⟨rfl,hM,λb o e=>ze5 e,u0k (z9z _ _),trivial,λb hb=>absurd (show b∈([]:List Addr) from hb) (by simp),hok, .of_eq hg⟩
  refine cy ((F _ hKb (nsK hns)).run cO [] s₁ H ⟨[.ref a],[]⟩ [.ref a] [.ref a] _ _ hr e0 (hbind s₁ (.ref a)) (.cons rfl .nil) (hsp H hO hS)) λr s' h=> ?_
  cases r with
  |error e=>exact(hCX H e s' h).elim
  |ok fl=>
   cases fl with
   |next=>exact False.elim h
   |brk=>exact False.elim h
   |cont=>exact False.elim h
   |ret u=>
    obtain⟨v,H',os,bare,un,hok',r',q⟩:=h
    have q':v= .bl true:=q
    subst q'
    obtain rfl:u=Value.bool true:=r'
    refine⟨rfl,OldK.of_keep λb o e=> ?_,os,bare⟩
    cases q:H b with
    |none=>exact un.keep b o e q (by intro z;exact absurd (show b∈([]:List Addr) from z) (by simp)) (by simp)
    |some u=>
     rcases hO b with z|⟨ob,xs,z⟩
     .rw[q] at z;cases z
     .have z2:=un.frzs b ob _ z
      obtain⟨e1,_⟩:=hok b _ z
      obtain⟨e2,_⟩:=hok' b _ z2
      rw[e] at e1;cases e1
      exact e2
 cases hk:K.lookup a with
 |some o=>
  have e:=KX a o hk
  rw[ha] at e
  cases e
  refine core (λ_=>none) (λ_=> .inl rfl) (.inr ⟨_,vs.toArray,_,hk,rfl,rfl,rfl,by rw[m9,lenV];exact hl,by simpa using rv⟩) (λb u z=>by have z':(none:Option HO)=some u:=z;cases z') (λb z=>absurd rfl z) λz=>absurd rfl z
 |none=>
  refine core (λb=>if b=a then some (.frz {cls:= .type "list",data:= .seq vs.toArray} (.lst (ns.map V.int))) else none) (λb=> ?_) (.inl (.inr ⟨{cls:= .type "list",data:= .seq vs.toArray},qy rfl⟩)) (λb u z=> ?_) (λb z=> ?_) λ_=>hk
  .by_cases hb:b=a
   .exact .inr ⟨_,_,qy hb⟩
   .exact .inl (qh hb)
  .by_cases hb:b=a
   .have z':=(qy hb).symm.trans z
    cases z'
    subst hb
    exact⟨ha,by rw[l0];exact hl,vs,_,rv,ha⟩
   .have z':=(qh hb).symm.trans z
    cases z'
  .by_cases hb:b=a
   .exact hb
   .exact absurd (qh hb) z
def zew{l:W.OpenLaw}{n k:Nat}{q:bm}{loose:List Str}{XP:(Str->Option bc)->Heap->Prop}{YP:bo->Heap->Prop}{d:DefRec}{K:Params->W.Frag}{CX:bo->CXT}{sp:bo->Sp}{x:Str}
 (hn:l.most=some n) (hn2:n<=qg) (hdf:d.params.defaults=[]) (hr:z4h k cO)
 (hY: ∀(w:bo) (h:Heap),YP w h->(K w.params).In h)
 (F: ∀(w:bo) (mg:Str->Option bc) (fa:Addr) (h:Heap),(K w.params).In h->h.Ns bn mg->mg d.name=some (.ref fa)->
  ∃fd:bB,(∀(s:be) (u:bc),dg s fd ⟨[u],[]⟩ [(x,u)])/\
   ∀base:Heap,(K w.params).In base->base.Ns bn mg->z0F l.prog w (K w.params) mg base (CX w) k fa fd [x] (sp w))
 (hsp: ∀(w:bo) (H:Hp) (a:Addr) (ns:List Int),ns.length<=n->zjt H->SqL (K w.params) H a (ns.map V.int)->sp w [.ref a] H (λv _=>v= .bl true) λ_ _ _=>False)
 (hCX: ∀(w:bo) (H:Hp) (s:be) (e:bc) (s':be),CX w [] H s (λ_ _ _=>False) e s'->False):
 W.WalkO q loose XP YP l.row.toRowW d [] (λf vs=>PySem.call f vs):=by
 refine Att.attach_call hn hdf λw s₀ s₁ mg mb fa o pm cd doc a vs ns G Y ho hd hcd hmg hobj hints hlen hg=> ?_
 have KX:=hY w _ Y
 obtain⟨fd,hb,hF⟩:=F w mg fa _ KX G.T.g hmg
 exact zc3 KX G.T.g G.T.b G.T.builtins G.T.nolimit hg hobj hints (C7 hlen hn2) hr hF hb (λH hO hS=>hsp w H a ns hlen hO hS) λH e s'=>hCX w H s₁ e s'
def z1X(s:Stmt):Arguments:=match s with
 | .FunctionDef _ a _ _ _ _ _ _ _ _=>a
 |_=>{posonlyargs:=[],args:=[],vararg:=none,kwonlyargs:=[],kw_defaults:=[],kwarg:=none,defaults:=[]}
def z0G(s:Stmt):List Stmt:=match s with
 | .FunctionDef _ _ b _ _ _ _ _ _ _=>b
 |_=>[]
def Z4(s:Stmt):Scope:=match s with
 | .FunctionDef _ _ _ _ _ _ sc _ _ _=>sc
 |_=>{kind:= .function,names:=[],isGenerator:=false,isCoroutine:=false}
abbrev CX0:CXT:=λ_ _ _ _ _ _=>False
abbrev E0:XK:=λ_ _ _=>False
def zk4:z5O CX0 X E0:=λ_ _ _ _ _ _ _ h=>h.elim
structure Fun(K:W.Frag)(x qual:Str)(st:Stmt)(f:Addr)(fd:bB):Prop where
 ex: ∃(oc:bc) (od:Option Addr) (kV doc pm:bc) (an:Option Addr) (cdv ct:bc) (osl:Array (Option bc)),
  fd=W.fnOf x qual (z1X st) (z0G st) (Z4 st) .none kV doc pm an cdv ct/\K.lookup f=some ⟨oc,od, .func fd,osl⟩/\W.codeIn K cdv qual=true
 kp:W.keepIn K (.ref f)=true
section
variable{P:bm}{w:bo}{K:W.Frag}{mg:Str->Option bc}{base:Heap}
def Fun.ok{x qual:Str}{st:Stmt}{f:Addr}{fd:bB}{N ps:List Str}{k:Nat}{sp:Sp}(F:Fun K x qual st f fd)(S:Y9 N ps (Z4 st))(len: ∀vs H Q E,sp vs H Q E->vs.length=ps.length)
 (hbody: ∀(cdv:bc) (A:bu) (outer:List cY) (s:be) (H:Hp) (vs:List V) (Q:VK) (E:XK),z4h k (A.deeper (envOfC qual (Z4 st) s.heap.objs.size f cdv))->sp vs H Q E->
  ∃t,PSs (zdk CX0 P w K mg base N qual (Z4 st) f cdv A outer s H E).nox (z0G st) t/\t {nx:=λ_ H'=>Q .non H',rt:=Q} (z5T N vs) H):z0F P w K mg base CX0 (k+1) f fd ps sp:=by
 obtain⟨oc,od,kV,doc,pm,an,cdv,ct,osl,rfl,lk,hcd⟩:=F.ex
 refine zjU lk hcd S len λA outer s H vs Q E hr hsp=> ?_
 obtain⟨t,h,q⟩:=hbody cdv A outer s H vs Q E hr hsp
 exact⟨t,h.nox,q⟩
def Fun.binds{x qual:Str}{st:Stmt}{f:Addr}{fd:bB}{ps:List Str}(F:Fun K x qual st f fd)
 (h: ∀(kV doc pm:bc) (an:Option Addr) (cdv ct:bc) (us:List bc),us.length=ps.length->bindArgs (W.fnOf x qual (z1X st) (z0G st) (Z4 st) .none kV doc pm an cdv ct) ⟨us,[]⟩=pure (ps.zip us)):z71 K fd ps []:=by
 obtain⟨oc,od,kV,doc,pm,an,cdv,ct,osl,rfl,lk,hcd⟩:=F.ex
 exact .all (h kV doc pm an cdv ct)
def zgY{x qual:Str}{st:Stmt}{f:Addr}{oc:bc}{od an:Option Addr}{osl:Array (Option bc)}{kV doc pm cdv ct:bc}(l:K.lookup f=some ⟨oc,od, .func (W.fnOf x qual (z1X st) (z0G st) (Z4 st) .none kV doc pm an cdv ct),osl⟩)
 (c:W.codeIn K cdv qual=true) (k:W.keepIn K (.ref f)=true):Fun K x qual st f (W.fnOf x qual (z1X st) (z0G st) (Z4 st) .none kV doc pm an cdv ct):=⟨⟨oc,od,kV,doc,pm,an,cdv,ct,osl,rfl,l,c⟩,k⟩
variable{X:Cx}
def pv i{x:Str}{pos:bO}(hN:X.N[i]? =some x:=by rfl)(hv:Vis X.env.scope x:=by first|exact Or.inl rfl|exact Or.inr (Or.inl rfl)|exact Or.inr (Or.inr rfl))(hd:(x==("__debug__" :Str))=false:=by decide)
 (hcd:(x==("__classdict__" :Str))=false:=by decide):PE X (.Name x pos) (zjA i):=zgq hN hv hd hcd
end
def z4i(H H':Hp):Prop:= ∀b o,H b=some o->H' b=some o
def z4i.refl H:z4i H H:=λ_ _ h=>h
end L2
set_option linter.unusedSimpArgs false
set_option linter.unusedVariables false
namespace So
open PySem PySem.W PyProof.Rows PySem.SeqAt
open AutoSeq1 (wpAny_loadPart')
mutual
def ltD:PyData->PyData->Option Bool
 | .int a, .int b=>some (decide (a<b))
 | .tuple xs, .tuple ys=>ltL xs ys
 |_,_=>none
def ltL:List PyData->List PyData->Option Bool
 |x::xs,y::ys=>if PyData.eqv x y=true then ltL xs ys else ltD x y
 |[],ys=>some (decide (0<ys.length))
 |_::_,[]=>some false
end
variable{cmp:Nat->Nat->Bool}{n:Nat}{α β:Type}
def ev(cmp:Nat->Nat->Bool):KasT α->α
 | .ret a=>a
 | .ask i j k=>ev cmp (k (cmp i j))
def KW(cmp:Nat->Nat->Bool)(n:Nat):KasT α->(α->Prop)->Prop
 | .ret a,P=>P a
 | .ask i j k,P=>i<n/\j<n/\KW cmp n (k (cmp i j)) P
theorem KW.ev{P:α->Prop}: ∀{t:KasT α},KW cmp n t P->P (So.ev cmp t)
 | .ret _,h=>h
 | .ask i j k,h=>KW.ev (t:=k (cmp i j)) h.2.2
theorem KW.bind{P:β->Prop}: ∀{t:KasT α},KW cmp n t (λa=>KW cmp n (f a) P)->KW cmp n (t.bind f) P
 | .ret _,h=>h
 | .ask i j k,h=>⟨h.1,h.2.1,KW.bind (t:=k (cmp i j)) h.2.2⟩
theorem KW.mono{P P':α->Prop}(hp: ∀a,P a->P' a): ∀{t:KasT α},KW cmp n t P->KW cmp n t P'
 | .ret _,h=>hp _ h
 | .ask i j k,h=>⟨h.1,h.2.1,KW.mono hp (t:=k (cmp i j)) h.2.2⟩
def Pm(n:Nat)(p:Array Nat):Prop:=p.Perm (D5 n).toArray
def Pm.size{p:Array Nat}(h:Pm n p):p.size=n:=by have:=h.size_eq;simpa using this
def Pm.lt{p:Array Nat}(h:Pm n p){i:Nat}(hi:i<n):p.getD i 0<n:=by
 have hs:=h.size
 have hi':i<p.size:=by lia
 have e:p.getD i 0=p[i]:=by simp[Array.getD,hi']
 rw[e]
 have:=(h.mem_iff (a:=p[i])).mp (Array.getElem_mem hi')
 simpa using this
def Pm.rev(h:Pm n p) i j:Pm n (cm p i j):=(mirror_perm _ _ _ _).trans h
def Pm.bub(h:Pm n p) i j:Pm n (bubble p i j):=(bubble_perm _ _ _).trans h
def gd{p:Array Nat}{i:Nat}:p.getD i 0=(p[i]?).getD 0:=by simp[Array.getD_eq_getD_getElem?]
def z60{p:Array Nat}{i j k:Nat}(hj:j<=p.size):(cm p i j).getD k 0=if i<=k/\k<j then p.getD (i+j - 1 -k) 0 else p.getD k 0:=by
 rw[gd,cm,getElem?_mirror_all hj]
 split<;>exact gd.symm
def zk5{p:Array Nat}{s d k:Nat}(hs:s<p.size)(hd:d<=s):(bubble p s d).getD k 0=if k=s -d then p.getD s 0 else if s -d<k/\k<=s then p.getD (k - 1) 0 else p.getD k 0:=by
 rw[gd,getElem?_bubble hs d hd]
 by_cases h1:k=s -d
 .rw[qy h1,qy h1,gd]
 .rw[qh h1,qh h1]
  split<;>exact gd.symm
structure Od(cmp:Nat->Nat->Bool)(n:Nat):Prop where
 a: ∀i j,i<n->j<n->cmp i j=true->cmp j i=false
 t: ∀i j k,i<n->j<n->k<n->cmp i j=false->cmp j k=false->cmp i k=false
def Od.r(h:Od cmp n){i:Nat}(hi:i<n):cmp i i=false:=by
 cases e:cmp i i with
 |false=>rfl
 |true=>rw[<-e];exact h.a i i hi hi e
def Srt(cmp:Nat->Nat->Bool)(p:Array Nat)(m:Nat):Prop:= ∀i j,i<=j->j<m->cmp (p.getD j 0) (p.getD i 0)=false
def Dsc(cmp:Nat->Nat->Bool)(p:Array Nat)(m:Nat):Prop:= ∀i j,i<=j->j<m->cmp (p.getD i 0) (p.getD j 0)=false
def Eqt(cmp:Nat->Nat->Bool)(p:Array Nat)(m q:Nat):Prop:= ∀i,m -(q+1)<=i->i<m->cmp (p.getD i 0) (p.getD (m - 1) 0)=false/\cmp (p.getD (m - 1) 0) (p.getD i 0)=false
def Srt.up{p:Array Nat}{m:Nat}(o:Od cmp n)(hp:Pm n p)(h:Srt cmp p m)(h1:1<=m)(hm:m<n)(e:cmp (p.getD m 0) (p.getD (m - 1) 0)=false):Srt cmp p (m+1):=by
 intro i j hij hj
 by_cases hjm:j<m
 .exact h i j hij hjm
 .obtain rfl:j=m:=by lia
  by_cases hi:i=j
  .subst hi;exact o.r (hp.lt hm)
  .exact o.t _ _ _ (hp.lt hm) (hp.lt (show j - 1<n by lia)) (hp.lt (show i<n by lia)) e (h i (j - 1) ⋯ ⋯)
theorem zex{p:Array Nat}(hp:Pm n p): ∀(f m:Nat),1<=m->m+f<=n->KW cmp n (kas_asc p f m) λr=>m<=r/\r<=m+f/\(Od cmp n->Srt cmp p m->Srt cmp p r)/\(r<m+f->cmp (p.getD r 0) (p.getD (r - 1) 0)=true)
 |0,m,_,_=>⟨i6 _,i6 _,λ_ h=>h,λh=>absurd h ⋯⟩
 |f+1,m,h1,h2=>by
  refine⟨hp.lt ⋯,hp.lt ⋯, ?_⟩
  cases e:cmp (p.getD m 0) (p.getD (m - 1) 0) with
  |true=>exact⟨i6 _,⋯,λ_ h=>h,λ_=>e⟩
  |false=>
   refine KW.mono (λr hr=> ?_) (zex hp f (m+1) ⋯ ⋯)
   obtain⟨a,b,c,d⟩:=hr
   exact⟨⋯,⋯,λo h=>c o (h.up o hp h1 ⋯ e),λh=>d ⋯⟩
def Dsc.eqrev{p:Array Nat}{m q:Nat}(o:Od cmp n)(hp:Pm n p)(h:Dsc cmp p m)(he:Eqt cmp p m q)(hq:q+1<=m)(hm:m<=n):Dsc cmp (cm p (m -(q+1)) m) m/\∀i,i<m->cmp ((cm p (m -(q+1)) m).getD i 0) (p.getD (m - 1) 0)=false:=by
 have hz:m<=p.size:=by rw[hp.size];exact hm
 have le: ∀i,i<m->p.getD i 0<n:=λi hi=>hp.lt ⋯
 refine⟨λi j hij hj=> ?_,λi hi=> ?_⟩
 .rw[z60 hz,z60 hz]
  by_cases hi:m -(q+1)<=i/\i<m
  .rw[qy hi,qy ⋯]
   exact o.t _ _ _ (le _ ⋯) (le (m - 1) ⋯) (le _ ⋯) (he _ ⋯ ⋯).1 (he _ ⋯ ⋯).2
  .rw[qh hi]
   split
   .exact h _ _ ⋯ ⋯
   .exact h _ _ hij hj
 .rw[z60 hz]
  split
  .exact(he _ ⋯ ⋯).1
  .exact h _ _ ⋯ ⋯
theorem z7Z: ∀(f:Nat) (p:Array Nat) (m q:Nat),Pm n p->q+1<=m->m+f<=n->(Od cmp n->Dsc cmp p m/\Eqt cmp p m q)->
 KW cmp n (kas_desc f p m q) λr=>Pm n r.1/\m<=r.2.1/\r.2.1<=m+f/\r.2.2+1<=r.2.1/\(Od cmp n->Dsc cmp r.1 r.2.1/\Eqt cmp r.1 r.2.1 r.2.2)
 |0,p,m,q,hp,hq,hm,h=>⟨hp,i6 _,i6 _,hq,h⟩
 |f+1,p,m,q,hp,hq,hm,h=>by
  have hz:m<=p.size:=by rw[hp.size];lia
  refine⟨hp.lt ⋯,hp.lt ⋯, ?_⟩
  have e1: ∀(p':Array Nat),Od cmp n->(Eqt cmp p' (m+1) 0↔cmp (p'.getD m 0) (p'.getD m 0)=false):=λp' o=>by
   constructor
   .intro z;exact(z m ⋯ ⋯).1
   .intro z i hi hi'
    obtain rfl:i=m:=by lia
    exact⟨z,z⟩
  cases e:cmp (p.getD m 0) (p.getD (m - 1) 0) with
  |true=>
   erw[if_true]
   by_cases h0:q>0
   .erw[qy h0]
    refine KW.mono (λr hr=>⟨hr.1,⋯,⋯,hr.2.2.2⟩) (z7Z f (cm p (m -(q+1)) m) (m+1) 0 (hp.rev _ _) ⋯ ⋯ λo=> ?_)
    obtain⟨d,t⟩:=h o
    obtain⟨d',u⟩:=d.eqrev o hp t hq ⋯
    have gm:(cm p (m -(q+1)) m).getD m 0=p.getD m 0:=by rw[z60 hz,qh ⋯]
    have lt: ∀i,i<n->(cm p (m -(q+1)) m).getD i 0<n:=λi hi=>(hp.rev _ _).lt hi
    refine⟨λi j hij hj=> ?_,(e1 _ o).mpr (o.r (lt m ⋯))⟩
    by_cases hjm:j<m
    .exact d' i j hij hjm
    .obtain rfl:j=m:=by lia
     by_cases hi:i=j
     .subst hi;exact o.r (lt _ ⋯)
     .rw[gm]
      exact o.t _ _ _ (lt _ ⋯) (hp.lt (show j - 1<n by lia)) (hp.lt ⋯) (u i ⋯) (o.a _ _ (hp.lt ⋯) (hp.lt ⋯) e)
   .erw[qh h0]
    refine KW.mono (λr hr=>⟨hr.1,⋯,⋯,hr.2.2.2⟩) (z7Z f p (m+1) 0 hp ⋯ ⋯ λo=> ?_)
    obtain⟨d,t⟩:=h o
    refine⟨λi j hij hj=> ?_,(e1 _ o).mpr (o.r (hp.lt ⋯))⟩
    by_cases hjm:j<m
    .exact d i j hij hjm
    .obtain rfl:j=m:=by lia
     by_cases hi:i=j
     .subst hi;exact o.r (hp.lt ⋯)
     .exact o.t _ _ _ (hp.lt ⋯) (hp.lt (show j - 1<n by lia)) (hp.lt ⋯) (d i (j - 1) ⋯ ⋯) (o.a _ _ (hp.lt ⋯) (hp.lt ⋯) e)
  |false=>
   erw[t8,if_false]
   refine⟨hp.lt ⋯,hp.lt ⋯, ?_⟩
   cases e':cmp (p.getD (m - 1) 0) (p.getD m 0) with
   |true=>exact⟨hp,i6 _,Nat.le_add_right _ _,hq,h⟩
   |false=>
    erw[t8,if_false]
    refine KW.mono (λr hr=>⟨hr.1,⋯,⋯,hr.2.2.2⟩) (z7Z f p (m+1) (q+1) hp ⋯ ⋯ λo=> ?_)
    obtain⟨d,t⟩:=h o
    refine⟨λi j hij hj=> ?_,λi hi hi'=> ?_⟩
    .by_cases hjm:j<m
     .exact d i j hij hjm
     .obtain rfl:j=m:=by lia
      by_cases hi:i=j
      .subst hi;exact o.r (hp.lt ⋯)
      .exact o.t _ _ _ (hp.lt ⋯) (hp.lt (show j - 1<n by lia)) (hp.lt ⋯) (d i (j - 1) ⋯ ⋯) e'
    .rw[Nat.add_sub_cancel]
     by_cases him:i=m
     .subst him;exact⟨o.r (hp.lt ⋯),o.r (hp.lt ⋯)⟩
     .obtain⟨t1,t2⟩:=t i ⋯ ⋯
      exact⟨o.t _ _ _ (hp.lt ⋯) (hp.lt (show m - 1<n by lia)) (hp.lt ⋯) t1 e',o.t _ _ _ (hp.lt ⋯) (hp.lt (show m - 1<n by lia)) (hp.lt ⋯) e t2⟩
def Cnt(cmp:Nat->Nat->Bool)(n:Nat)(r:Nat×Array Nat):Prop:=Pm n r.2/\1<=r.1/\r.1<=n/\(Od cmp n->Srt cmp r.2 r.1)
def zdn{m:Nat}(hp:Pm n p)(h1:1<=m)(hm:m<=n)(h:Od cmp n->Dsc cmp p m):KW cmp n (kas_tail3 m n p) (Cnt cmp n):=by
 have hz:m<=p.size:=by rw[hp.size];exact hm
 refine KW.bind (KW.mono (λr hr=> ?_) (zex (hp.rev 0 m) (n -m) m h1 ⋯))
 obtain⟨a,b,c,_⟩:=hr
 refine⟨hp.rev _ _,by show 1<=r;lia,by show r<=n;lia,λo=>c o λi j hij hj=> ?_⟩
 rw[z60 hz,z60 hz,qy ⋯,qy ⋯]
 exact h o _ _ ⋯ ⋯
def z9Y{m:Nat}(hp:Pm n p)(h1:1<=m)(hm:m+1<=n)(h:Od cmp n->Dsc cmp p (m+1)):KW cmp n (kas_descPart m n p) (Cnt cmp n):=by
 refine KW.bind (KW.mono (λr hr=> ?_) (z7Z (n -(m+1)) p (m+1) 0 hp ⋯ ⋯ λo=>⟨h o,λi hi hi'=> ?_⟩))
 .obtain⟨a,b,c,d,e⟩:=hr
  split
  .exact zdn (a.rev _ _) ⋯ ⋯ λo=>((e o).1.eqrev o a (e o).2 d ⋯).1
  .exact zdn a ⋯ ⋯ λo=>(e o).1
 .obtain rfl:i=m:=by lia
  exact⟨h o i i (i6 _) ⋯,h o i i (i6 _) ⋯⟩
def zey(hp:Pm n p)(h1:1<=n):KW cmp n (kas_count n p) (Cnt cmp n):=by
 refine KW.bind (KW.mono (λr hr=> ?_) (zex hp (n - 1) 1 (i6 _) ⋯))
 obtain⟨a,b,c,d⟩:=hr
 have s1:Od cmp n->Srt cmp p r:=λo=>c o λi j hij hj=>by
  obtain rfl:j=0:=by lia
  obtain rfl:i=0:=by lia
  exact o.r (hp.lt ⋯)
 have hz:r<=p.size:=by rw[hp.size];lia
 by_cases hn:r=n
 .rw[qy (by simpa using hn)]
  exact⟨hp,a,⋯,s1⟩
 .rw[qh (by simpa using hn)]
  have hd:cmp (p.getD r 0) (p.getD (r - 1) 0)=true:=d ⋯
  by_cases h2:r>1
  .rw[qy h2]
   refine⟨hp.lt ⋯,hp.lt ⋯, ?_⟩
   cases e:cmp (p.getD 0 0) (p.getD (r - 1) 0) with
   |true=>exact⟨hp,a,⋯,s1⟩
   |false=>
    refine z9Y (hp.rev _ _) a ⋯ λo i j hij hj=> ?_
    have s:=s1 o
    have all: ∀i j,i<r->j<r->cmp (p.getD i 0) (p.getD j 0)=false:=λi j hi hj=>by
     have q1:cmp (p.getD i 0) (p.getD 0 0)=false:=s 0 i (B9 _) hi
     have q2:cmp (p.getD (r - 1) 0) (p.getD j 0)=false:=s j (r - 1) ⋯ ⋯
     exact o.t _ _ _ (hp.lt ⋯) (hp.lt (show 0<n by lia)) (hp.lt ⋯) q1 (o.t _ _ _ (hp.lt ⋯) (hp.lt (show r - 1<n by lia)) (hp.lt ⋯) e q2)
    have al: ∀i,i<r->(cm p 0 r).getD i 0=p.getD (r - 1 -i) 0:=λi hi=>by rw[z60 hz,qy ⋯];congr 1;lia
    by_cases hjr:j<r
    .rw[al i ⋯,al j hjr];exact all _ _ ⋯ ⋯
    .obtain rfl:j=r:=by lia
     have er:(cm p 0 j).getD j 0=p.getD j 0:=by rw[z60 hz,qh ⋯]
     by_cases hi:i=j
     .subst hi;exact o.r ((hp.rev _ _).lt ⋯)
     .rw[al i ⋯,er]
      exact o.t _ _ _ (hp.lt ⋯) (hp.lt (show j - 1<n by lia)) (hp.lt ⋯) (all _ _ ⋯ ⋯) (o.a _ _ (hp.lt ⋯) (hp.lt ⋯) hd)
  .rw[qh h2]
   refine z9Y hp a ⋯ λo i j hij hj=> ?_
   obtain rfl:r=1:=by lia
   by_cases hi:i=j
   .subst hi;exact o.r (hp.lt ⋯)
   .obtain rfl:i=0:=by lia
    obtain rfl:j=1:=by lia
    exact o.a _ _ (hp.lt ⋯) (hp.lt ⋯) hd
theorem z77{k:Nat}(hp:Pm n p)(hk:k<n): ∀(f l r:Nat),r -l<=f->l<=r->r<=k->KW cmp n (kas_place p k f l r) λx=>l<=x/\x<=r/\(Od cmp n->Srt cmp p k->
 (∀i,i<l->cmp (p.getD k 0) (p.getD i 0)=false)->(∀i,r<=i->i<k->cmp (p.getD i 0) (p.getD k 0)=false)->(∀i,i<x->cmp (p.getD k 0) (p.getD i 0)=false)/\∀i,x<=i->i<k->cmp (p.getD i 0) (p.getD k 0)=false)
 |0,l,r,hf,hlr,hrk=>⟨i6 _,hlr,λ_ _ h1 h2=>⟨h1,λi hi hi'=>h2 i ⋯ hi'⟩⟩
 |f+1,l,r,hf,hlr,hrk=>by
  unfold kas_place
  by_cases h:l≥r
  .rw[qy h]
   exact⟨i6 _,hlr,λ_ _ h1 h2=>⟨h1,λi hi hi'=>h2 i ⋯ hi'⟩⟩
  .rw[qh h]
   refine⟨hp.lt hk,hp.lt ⋯, ?_⟩
   cases e:cmp (p.getD k 0) (p.getD ((l+r)/2) 0) with
   |true=>
    erw[if_true]
    refine KW.mono (λx hx=> ?_) (z77 hp hk f l ((l+r)/2) ⋯ ⋯ ⋯)
    obtain⟨a,b,c⟩:=hx
    refine⟨a,⋯,λo s h1 h2=>c o s h1 λi hi hi'=> ?_⟩
    exact o.t _ _ _ (hp.lt ⋯) (hp.lt (show(l+r)/2<n by lia)) (hp.lt hk) (s _ _ hi hi') (o.a _ _ (hp.lt hk) (hp.lt ⋯) e)
   |false=>
    erw[t8,if_false]
    refine KW.mono (λx hx=> ?_) (z77 hp hk f ((l+r)/2+1) r ⋯ ⋯ hrk)
    obtain⟨a,b,c⟩:=hx
    refine⟨⋯,b,λo s h1 h2=>c o s (λi hi=> ?_) h2⟩
    exact o.t _ _ _ (hp.lt hk) (hp.lt (show(l+r)/2<n by lia)) (hp.lt ⋯) e (s _ _ ⋯ ⋯)
theorem zgZ: ∀(f:Nat) (p:Array Nat) (k:Nat),Pm n p->k+f<=n->(Od cmp n->Srt cmp p k)->KW cmp n (kas_bin f p k) λq=>Pm n q/\(Od cmp n->Srt cmp q (k+f))
 |0,p,k,hp,_,h=>⟨hp,h⟩
 |f+1,p,k,hp,hk,h=>by
  have hz:k<p.size:=by rw[hp.size];lia
  refine KW.bind (KW.mono (λx hx=> ?_) (z77 hp ⋯ k 0 k ⋯ (B9 _) (i6 _)))
  obtain⟨_,b,c⟩:=hx
  refine KW.mono (λq hq=>⟨hq.1,λo=>by have:=hq.2 o;rw[show k+(f+1)=k+1+f by lia];exact this⟩) (zgZ f (bubble p k (k -x)) (k+1) (hp.bub _ _) ⋯ λo=> ?_)
  have s:=h o
  obtain⟨c1,c2⟩:=c o s (λi hi=>absurd hi ⋯) λi hi hi'=>absurd hi' ⋯
  have g: ∀i,(bubble p k (k -x)).getD i 0=if i=x then p.getD k 0 else if x<i/\i<=k then p.getD (i - 1) 0 else p.getD i 0:=λi=>by
   rw[zk5 hz ⋯,show k -(k -x)=x by lia]
  intro i j hij hj
  by_cases hi:i=j
  .subst hi;exact o.r ((hp.bub _ _).lt ⋯)
  .rw[g,g]
   by_cases hjx:j=x
   .rw[qy hjx,qh ⋯,qh ⋯]
    exact c1 i ⋯
   .rw[qh hjx]
    by_cases hjk:x<j/\j<=k
    .rw[qy hjk]
     by_cases hix:i=x
     .rw[qy hix];exact c2 _ ⋯ ⋯
     .rw[qh hix]
      split
      .exact s _ _ ⋯ ⋯
      .exact s _ _ ⋯ ⋯
    .rw[qh hjk]
     rw[qh ⋯,qh ⋯]
     exact s _ _ hij ⋯
def z9Z(h:1<=n):KW cmp n (cL n) λq=>Pm n q/\(Od cmp n->Srt cmp q n):=by
 refine KW.bind (KW.mono (λr hr=> ?_) (zey (Array.Perm.refl _) h))
 obtain⟨a,b,c,d⟩:=hr
 by_cases hl:r.1<n
 .rw[qy hl]
  have e:max r.1 1=r.1:=by lia
  rw[e]
  refine KW.mono (λq hq=>⟨hq.1,λo=>by have:=hq.2 o;rw[show r.1+(n -r.1)=n by lia] at this;exact this⟩) (zgZ (n -r.1) r.2 r.1 a ⋯ d)
 .rw[qh hl]
  obtain e:r.1=n:=by lia
  rw[e] at d
  exact⟨a,d⟩
def permS(n:Nat)(cmp:Nat->Nat->Bool):List Nat:=if n<2 then D5 n else(ev cmp (cL n)).toList
def permS_pm{n:Nat}:(permS n cmp).Perm (D5 n):=by
 unfold permS
 by_cases h2:n<2
 .rw[qy h2]
 .rw[qh h2]
  have:=(z9Z (cmp:=cmp) (n:=n) ⋯).ev.1.toList
  simpa using this
def permS_len{n:Nat}:(permS n cmp).length=n:=by rw[permS_pm.length_eq];simp
def permS_lt{n:Nat}: ∀i∈permS n cmp,i<n:=λi hi=>by have:=permS_pm.mem_iff.mp hi;simpa using this
def permS_srt{n:Nat}(o:Od cmp n): ∀i j,i<=j->j<n->cmp ((permS n cmp).getD j 0) ((permS n cmp).getD i 0)=false:=by
 intro i j hij hj
 by_cases h2:n<2
 .obtain rfl:i=j:=by lia
  refine o.r ?_
  have hl:i<(permS n cmp).length:=by rw[permS_len];exact hj
  rw[show(permS n cmp).getD i 0=(permS n cmp)[i] by simp[hl]]
  exact permS_lt _ (A9 hl)
 .have s:=(z9Z (cmp:=cmp) (n:=n) ⋯).ev.2 o i j hij hj
  have e: ∀i,(permS n cmp).getD i 0=(ev cmp (cL n)).getD i 0:=λi=>by
   unfold permS;rw[qh h2,gd];simp
  rw[e,e];exact s
theorem zlp{α:Type}{n:Nat}{G:be->Prop}{P:α->Prop}(hc: ∀i j C s,i<n->j<n->G s->(∀s',G s'->C (cmp i j) s')->kas_cmp prog w A κ it i j C s): ∀{t:KasT α} {s:be},KW cmp n t P->G s->t.kasWp (kas_cmp prog w A κ it) (λa s'=>a=ev cmp t/\G s') s
 | .ret _,_,_,hs=>⟨rfl,hs⟩
 | .ask i j k,s,hw,hs=>hc i j _ s hw.1 hw.2.1 hs λs' h'=>zlp hc (t:=k (cmp i j)) hw.2.2 h'
def zc4{vs:List bc}:(vs.toArray.zip vs.toArray).map (·.2)=vs.toArray:=by
 apply Array.ext_getElem?
 intro i
 by_cases hi:i<vs.length<;>simp[hi]
def z78{vs:List bc}:(D5 vs.length).map (λi=>vs.getD i Value.none)=vs:=by
 apply List.ext_getElem?
 intro i
 by_cases hi:i<vs.length<;>simp[hi]
section
variable{prog:bm}{w:bo}{A:bu}{E:bc->be->Prop}{s:be}
theorem z79{vs:List bc}{n:Nat}{cmp:Nat->Nat->Bool}{P:PySem.Fin->be->Prop}(ho:s.heap.get? a=some (bT "list" vs.toArray n))(h64:vs.length<64)
 (hk: ∀h',(∀b o,b≠a->s.heap.get? b=some o->h'.get? b=some o)->2<=vs.length->∃κ,(∀(Q:SortKind->be->Prop) E,Q κ {s with heap:=h'}->bg (bj prog w) A (keyKind' vs.toArray) Q E {s with heap:=h'})/\
  ∀i j (hi:i<vs.length) (hj:j<vs.length) (C:Bool->be->Prop),C (cmp i j) {s with heap:=h'}->bg (bj prog w) A (keyLt' κ vs[i] vs[j]) C (λ_ _=>False) {s with heap:=h'})
 (h: ∀h' e1,(∀b o,b≠a->s.heap.get? b=some o->h'.get? b=some o)->h'.get? a=some (bT "list" ((permS vs.length cmp).map λi=>vs.getD i Value.none).toArray e1)->P (.done (.ret .none)) {s with heap:=h'}):
 bg (bj prog w) A (Builtin.«list.sort» ⟨[.ref a],[]⟩) P E s:=by
 have hz:vs.length<=qg:=by have:qg=16777216:=rfl;lia
 obtain⟨e1,ho1⟩: ∃e1,(s.heap.update a (Obj.mapSeq λ_=>(#[]:Array bc))).get? a=some (bT "list" #[] e1):=⟨_,get?_update_seq ho λ_=> #[]⟩
 have ho3:(((s.heap.update a (Obj.mapSeq λ_=>(#[]:Array bc))).push (bT "tuple" vs.toArray 0)).push (bT "list" #[] 0)).get? a=some (bT "list" #[] e1):=Heap.get?_push_of_some _ (Heap.get?_push_of_some _ ho1)
 have kept: ∀b o,b≠a->s.heap.get? b=some o->(((s.heap.update a (Obj.mapSeq λ_=>(#[]:Array bc))).push (bT "tuple" vs.toArray 0)).push (bT "list" #[] 0)).get? b=some o:=λb o hb q=>
  Heap.get?_push_of_some _ (Heap.get?_push_of_some _ ((Heap.get?_update_ne _ _ _ _ hb).trans q))
 rw[list_sort_plain]
 refine bb (listItems_at ho rfl ?_)
 refine bb (listUpdate_at ho rfl ?_ (by rw[m9];exact hz) (B9 _))
 refine bb (seqEpoch_at ho1 rfl ?_)
 refine bb (wpAny_newTuple ?_ (by show vs.length<=_;exact hz))
 refine bb (wpAny_newList ?_ (B9 _))
 refine bp ?_
 show bg (bj prog w) A _ P E {s with heap:=((s.heap.update a (Obj.mapSeq λ_=>(#[]:Array bc))).push (bT "tuple" vs.toArray 0)).push (bT "list" #[] 0)}
 dsimp only
 generalize ((s.heap.update a (Obj.mapSeq λ_=>(#[]:Array bc))).push (bT "tuple" vs.toArray 0)).push (bT "list" #[] 0)=h1 at ho3 kept⊢
 have fin: ∀st':SortSt,(arrOf st').map (·.2)=((permS vs.length cmp).map λi=>vs.getD i Value.none).toArray->failedOf st'=none->bg (bj prog w) A (do
  let touched<-seqEpoch a
  Builtin.List.listUpdate (.ref a) λ_=>(arrOf st').map (·.2)
  if let some e:=failedOf st' then rule "list.sort.comparison-raised";throw e
  if(touched !=e1)=true then rule "list.sort.modified";raiseError "ValueError" "list modified during sort"
  ret .none) P E {s with heap:=h1}:=by
  intro st' har hf
  refine bb (seqEpoch_at ho3 rfl ?_)
  rw[har]
  have hsz:((permS vs.length cmp).map λi=>vs.getD i Value.none).toArray.size=vs.length:=by rw[m9,l0,permS_len]
  refine bb (listUpdate_at ho3 rfl ?_ (B9 _) (C7 (u0k hsz) ⋯))
  rw[hf]
  erw[bne_self_eq_false,t8,if_false]
  obtain⟨c2,hc2⟩: ∃c2,(h1.update a (Obj.mapSeq λ_=>((permS vs.length cmp).map λi=>vs.getD i Value.none).toArray)).get? a=some (bT "list" ((permS vs.length cmp).map λi=>vs.getD i Value.none).toArray c2):=⟨_,get?_update_seq ho3 λ_=>_⟩
  exact bf (h _ c2 (λb o hb q=>(Heap.get?_update_ne _ _ _ _ hb).trans (kept b o hb q)) hc2)
 by_cases h2:vs.length<2
 .have h2':vs.toArray.size<2:=by simpa using h2
  rw[qy h2',qy h2']
  refine bb (bf ?_)
  rw[StateT.run_pure]
  refine bb (bf ?_)
  refine fin _ ?_ rfl
  show(vs.toArray.zip vs.toArray).map (·.2)=_
  unfold permS
  rw[qy h2,zc4,z78]
 .have h2': ¬vs.toArray.size<2:=by simpa using h2
  rw[qh h2',qh h2']
  obtain⟨κ,k1,k2⟩:=hk h1 kept ⋯
  refine bb (k1 _ _ ?_)
  have sz:(vs.toArray.zip vs.toArray).size=vs.length:=by simp
  have rr:((D5 vs.length).toArray.map (kas_item (vs.toArray.zip vs.toArray)))=vs.toArray.zip vs.toArray:=by
   have:=kas_range (vs.toArray.zip vs.toArray)
   rw[sz] at this
   exact this
  have est:SortSt.mk' κ (vs.toArray.zip vs.toArray) #[] 7 none=kas_st κ (vs.toArray.zip vs.toArray) (D5 vs.length).toArray:=by
   unfold kas_st
   rw[rr]
  have hpe:permS vs.length cmp=(ev cmp (cL vs.length)).toList:=by unfold permS;rw[qh h2]
  have hw:=z9Z (cmp:=cmp) (n:=vs.length) ⋯
  rw[est]
  have go:=kas_runs (prog:=prog) (w:=w) (A:=A) (E:=E) (κ:=κ) (it:=vs.toArray.zip vs.toArray) (n:=vs.length) (Q:=λ_ st' s'=>arrOf st'=(ev cmp (cL vs.length)).map (kas_item (vs.toArray.zip vs.toArray))/\failedOf st'=none/\s'={s with heap:=h1}) (G:=λp' s'=>p'=ev cmp (cL vs.length)/\s'={s with heap:=h1}) (s:={s with heap:=h1}) ⋯ h64 (λp' st' s' z1 z2 z3 z4=>⟨by rw[z2,z4.1],z3,z4.2⟩) (zlp (G:=λs'=>s'={s with heap:=h1}) (λi j C s' hi hj hs hC=>by
   subst hs
   have hq:=k2 i j hi hj C (hC _ rfl)
   unfold kas_cmp
   rw[kat_item rfl,kat_item rfl]
   rw[show vs.getD i Value.none=vs[i] by simp[hi],show vs.getD j Value.none=vs[j] by simp[hj]]
   exact hq) hw rfl)
  refine bb (bA go ?_ λ_ _ e=>e)
  rintro ⟨⟨⟩,st'⟩ s' ⟨hst,hfa,hs⟩
  dsimp only at hst hfa⊢
  subst hs
  refine fin _ ?_ hfa
  rw[hpe,hst]
  apply Array.toList_inj.mp
  rw[Array.map_map,Array.toList_map]
  exact D2 λi hi=>by erw[Function.comp];rw[kat_item rfl]
end
end So
namespace L2
open PySem PySem.Spec PyProof.Rows
mutual
def Dp(K:W.Frag)(H:Hp):PyData->V->Prop
 | .none,v=>v= .non
 | .bool b,v=>v= .bl b
 | .int i,v=>v= .int i
 | .str x,v=>v= .str x
 | .list ds,v=> ∃a xs,v= .ref a/\SqL K H a xs/\DpAll K H ds xs
 | .tuple ds,v=> ∃a xs,v= .ref a/\SqT K H a xs/\DpAll K H ds xs
 | .dict _,_=>False
def DpAll(K:W.Frag)(H:Hp):List PyData->List V->Prop
 |[],xs=>xs=[]
 |d::ds,xs=> ∃x r,xs=x::r/\Dp K H d x/\DpAll K H ds r
end
section
variable{X:Cx}{qx:List (Addr×bE)}{σ:St}{H:Hp}{s:be}
mutual
theorem Dp.reads(I:Inv X qx σ H s): ∀(d:PyData) (v:V) (u:bc),Dp X.K H d v->RelV v u->∃as,Reads s.heap u d as
 | .none,v,u,h,r=>by
  erw[Dp] at h;subst h;cases r;exact⟨_, .none⟩
 | .bool b,v,u,h,r=>by
  erw[Dp] at h;subst h;cases r;exact⟨_, .bool b⟩
 | .int i,v,u,h,r=>by
  erw[Dp] at h;subst h;obtain⟨t,rfl⟩:=r;exact⟨_, .int i t⟩
 | .str x,v,u,h,r=>by
  erw[Dp] at h;subst h;obtain⟨t,rfl⟩:=r;exact⟨_, .str x t⟩
 | .list ds,v,u,h,r=>by
  erw[Dp] at h
  obtain⟨a,xs,rfl,hs,hd⟩:=h
  cases r
  obtain⟨its,rv,⟨o,n,e,c,_,dd⟩,_⟩:=I.list hs
  obtain⟨as,ra⟩:=DpAll.reads I ds xs its hd rv
  exact⟨_, .list e c dd (by simpa using ra)⟩
 | .tuple ds,v,u,h,r=>by
  erw[Dp] at h
  obtain⟨a,xs,rfl,hs,hd⟩:=h
  cases r
  obtain⟨its,rv,⟨o,e,c,n,dd⟩,_⟩:=I.tuple hs
  obtain⟨as,ra⟩:=DpAll.reads I ds xs its hd rv
  exact⟨_, .tuple e c dd (by simpa using ra)⟩
 | .dict _,v,u,h,r=>by
  erw[Dp] at h
theorem DpAll.reads(I:Inv X qx σ H s): ∀(ds:List PyData) (vs:List V) (us:List bc),DpAll X.K H ds vs->U5 vs us->∃as,ReadsAll s.heap us ds as
 |[],vs,us,h,r=>by
  erw[DpAll] at h;subst h
  cases r
  exact⟨_, .nil⟩
 |d::ds,vs,us,h,r=>by
  erw[DpAll] at h
  obtain⟨x,q,rfl,h1,h2⟩:=h
  cases r with
  |cons r1 r2=>
   obtain⟨as,ra⟩:=Dp.reads I d _ _ h1 r1
   obtain⟨bs,rb⟩:=DpAll.reads I ds _ _ h2 r2
   exact⟨_, .cons ra rb⟩
end
def zju(K:W.Frag)(neg:Bool):R2:=λx y H Q=> ∃d e,Dp K H d x/\Dp K H e y/\d.canLay0=true/\e.canLay0=true/\min d.depth e.depth<=60/\
 Q (.bl (if neg then !PyData.eqv d e else PyData.eqv d e)) H
def zh0(hu:X.A.units+64<cLine):OpR X (bI .Eq) (zju X.K false):=by
 intro qx s σ H x y v u Q I rx ry h
 obtain⟨d,e,hx,hy,c1,c2,hd,q⟩:=h
 obtain⟨as,ra⟩:=hx.reads I _ _ _ rx
 obtain⟨bs,rb⟩:=hy.reads I _ _ _ ry
 exact SeqAt.compareEq_reads ra rb c1 c2 ⋯ ⟨.bl _,H,I,rfl,q⟩
def zh1(hu:X.A.units+64<cLine):OpR X (bI .NotEq) (zju X.K true):=by
 intro qx s σ H x y v u Q I rx ry h
 obtain⟨d,e,hx,hy,c1,c2,hd,q⟩:=h
 obtain⟨as,ra⟩:=hx.reads I _ _ _ rx
 obtain⟨bs,rb⟩:=hy.reads I _ _ _ ry
 exact SeqAt.compareNe_reads ra rb c1 c2 ⋯ ⟨.bl _,H,I,rfl,q⟩
def zlq(K:W.Frag)(H:Hp)(T:String)(r:Bool):V->Prop
 | .non=>r=false
 | .bl _=>r=(T== "int" ||T== "bool")
 | .int _=>r=(T== "int")
 | .str _=>r=(T== "str")
 | .ref a=>(∃xs,SqT K H a xs/\r=(T== "tuple"))\/(∃xs,SqL K H a xs/\r=(T== "list"))
 |_=>False
def zlR(K:W.Frag):List V->Hp->VK->Prop:=λxs H Q=> ∃x T r,xs=[x, .ty T]/\(T= "int" \/T= "bool" \/T= "tuple" \/T= "list" \/T= "str")/\zlq K H T r x/\Q (.bl r) H
def zc5:CallR X (.builtin "isinstance") (zlR X.K):=by
 intro qx s σ H xs us Q I r h
 obtain⟨x,T,b,rfl,hT,hx,q⟩:=h
 obtain⟨u,u',rfl,ru,ru'⟩:=zeg r
 cases ru'
 have fin: ∀t,EP X qx σ Q (.bool b) {s with toks:=t}:=λt=>⟨.bl b,H,I.tok t,rfl,q⟩
 have fin0:EP X qx σ Q (.bool b) s:=⟨.bl b,H,I,rfl,q⟩
 cases x with
 |non=>
  cases ru
  have hx:b=false:=hx
  subst hx
  rcases hT with rfl|rfl|rfl|rfl|rfl
  .exact IsiPair.NoneType_int (fin _)
  .exact IsiPair.NoneType_bool (fin _)
  .exact IsiPair.NoneType_tuple (fin _)
  .exact IsiPair.NoneType_list (fin _)
  .exact IsiPair.NoneType_str (fin _)
 |bl k=>
  cases ru
  rcases hT with rfl|rfl|rfl|rfl|rfl
  .have hx:b=true:=hx
   subst hx;exact IsiPair.bool_int fin0
  .have hx:b=true:=hx
   subst hx;exact IsiPair.bool_bool fin0
  .have hx:b=false:=hx
   subst hx;exact IsiPair.bool_tuple (fin _)
  .have hx:b=false:=hx
   subst hx;exact IsiPair.bool_list (fin _)
  .have hx:b=false:=hx
   subst hx;exact IsiPair.bool_str (fin _)
 |int k=>
  obtain⟨t,rfl⟩:=ru
  rcases hT with rfl|rfl|rfl|rfl|rfl
  .have hx:b=true:=hx
   subst hx;exact IsiPair.int_int fin0
  .have hx:b=false:=hx
   subst hx;exact IsiPair.int_bool (fin _)
  .have hx:b=false:=hx
   subst hx;exact IsiPair.int_tuple (fin _)
  .have hx:b=false:=hx
   subst hx;exact IsiPair.int_list (fin _)
  .have hx:b=false:=hx
   subst hx;exact IsiPair.int_str (fin _)
 |str k=>
  obtain⟨t,rfl⟩:=ru
  rcases hT with rfl|rfl|rfl|rfl|rfl
  .have hx:b=false:=hx
   subst hx;exact IsiPair.str_int (fin _)
  .have hx:b=false:=hx
   subst hx;exact IsiPair.str_bool (fin _)
  .have hx:b=false:=hx
   subst hx;exact IsiPair.str_tuple (fin _)
  .have hx:b=false:=hx
   subst hx;exact IsiPair.str_list (fin _)
  .have hx:b=true:=hx
   subst hx;exact IsiPair.str_str fin0
 |ref a=>
  cases ru
  rcases hx with⟨ys,hs,hb⟩|⟨ys,hs,hb⟩
  .obtain⟨its,rv,⟨o,e,c,n,dd⟩,_⟩:=I.tuple hs
   rcases hT with rfl|rfl|rfl|rfl|rfl
   .have hx:b=false:=hb
    subst hx;exact IsiPair.tuple_int e c (fin _)
   .have hx:b=false:=hb
    subst hx;exact IsiPair.tuple_bool e c (fin _)
   .have hx:b=true:=hb
    subst hx;exact IsiPair.tuple_tuple e c fin0
   .have hx:b=false:=hb
    subst hx;exact IsiPair.tuple_list e c (fin _)
   .have hx:b=false:=hb
    subst hx;exact IsiPair.tuple_str e c (fin _)
  .obtain⟨its,rv,⟨o,n,e,c,_,dd⟩,_⟩:=I.list hs
   rcases hT with rfl|rfl|rfl|rfl|rfl
   .have hx:b=false:=hb
    subst hx;exact IsiPair.list_int e c (fin _)
   .have hx:b=false:=hb
    subst hx;exact IsiPair.list_bool e c (fin _)
   .have hx:b=false:=hb
    subst hx;exact IsiPair.list_tuple e c (fin _)
   .have hx:b=true:=hb
    subst hx;exact IsiPair.list_list e c fin0
   .have hx:b=false:=hb
    subst hx;exact IsiPair.list_str e c (fin _)
 |byt _=>exact hx.elim
 |flt _=>exact hx.elim
 |ty _=>exact hx.elim
theorem z1Y: ∀{bs:List Bool} {us:List bc},U5 (bs.map V.bl) us->LSm.BoolsAre us bs
 |[],_, .nil=> .nil
 |b::bs,_, .cons r t=>by
  cases r
  exact .cons b (z1Y t)
def za0(hc:X.A.handled=none):CallR X (.builtin "all") (λxs H Q=> ∃(p:Addr) (bs:List Bool),xs=[.ref p]/\SqL X.K H p (bs.map V.bl)/\Q (.bl (bs.all id)) H):=by
 intro qx s σ H xs us Q I r h
 obtain⟨p,bs,rfl,hs,q⟩:=h
 obtain⟨u,rfl,ru⟩:=z4g r
 cases ru
 obtain⟨its,rv,pl,_⟩:=I.list hs
 have hb:=z1Y rv
 have hl:=pl.isList
 have hlt:p<s.heap.objs.size:=by obtain⟨_,e,_⟩:=hl;exact Heap.lt_size e
 refine call_all_walk (bS hl ?_)
 refine⟨s.heap.objs.size,[s.heap.objs.size,p],[s.heap.objs.size],its.toArray.size,_,_,λi=>(bs[i]?).getD true,rfl,Walks.list (A:=X.A.in1) hc _ p (B3 hlt) its.toArray,
  ⟨⟨_,Heap.get?_push_size _ rfl,rfl,rfl⟩,hl.push _⟩,λi v s' Q' E' hP hQ=> ?_,λh' tk hk=> ?_⟩
 .obtain⟨b,e,rfl⟩:=hb.get i v (by simpa using hP)
  erw[e,B4] at hQ
  exact bJ hQ
 .have e:((D5 its.toArray.size).all λi=>(bs[i]?).getD true)=bs.all id:=by
   rw[m9,hb.length];exact LSm.range_all bs
  rw[e]
  exact⟨.bl _,H,I.kept (LSm.kept_iter hk),rfl,q⟩
def za1(hc:X.A.handled=none):CallR X (.builtin "any") (λxs H Q=> ∃(p:Addr) (bs:List Bool),xs=[.ref p]/\SqL X.K H p (bs.map V.bl)/\Q (.bl (bs.any id)) H):=by
 intro qx s σ H xs us Q I r h
 obtain⟨p,bs,rfl,hs,q⟩:=h
 obtain⟨u,rfl,ru⟩:=z4g r
 cases ru
 obtain⟨its,rv,pl,_⟩:=I.list hs
 have hb:=z1Y rv
 have hl:=pl.isList
 have hlt:p<s.heap.objs.size:=by obtain⟨_,e,_⟩:=hl;exact Heap.lt_size e
 refine call_any_walk (bS hl ?_)
 refine⟨s.heap.objs.size,[s.heap.objs.size,p],[s.heap.objs.size],its.toArray.size,_,_,λi=>(bs[i]?).getD false,rfl,Walks.list (A:=X.A.in1) hc _ p (B3 hlt) its.toArray,
  ⟨⟨_,Heap.get?_push_size _ rfl,rfl,rfl⟩,hl.push _⟩,λi v s' Q' E' hP hQ=> ?_,λh' tk hk=> ?_⟩
 .obtain⟨b,e,rfl⟩:=hb.get i v (by simpa using hP)
  erw[e,B4] at hQ
  exact bJ hQ
 .have e:((D5 its.toArray.size).any λi=>(bs[i]?).getD false)=bs.any id:=by
   rw[m9,hb.length];exact LSm.range_any bs
  rw[e]
  exact⟨.bl _,H,I.kept (LSm.kept_iter hk),rfl,q⟩
end
end L2
namespace HT
open PySem PyProof.Rows
section
variable{prog:bm}{w:bo}{A:bu}{E:bc->be->Prop}{s:be}
def getItem_tuple_whole{t sl:Addr}{qv:Array bc}{vl vu:bc}{lo hi:Option Int}{Q:bc->be->Prop}(ht:dZ s.heap t qv)(hs:s.heap.IsSliceOf sl vl vu .none)(pl:cz vl lo)(pu:cz vu hi)
 (hw:sIx qv.size 0 lo=0/\sIx qv.size qv.size hi=qv.size) (h:Q (.ref t) s):bg (bj prog w) A (cg (.ref t) (.ref sl)) Q E s:=by
 obtain⟨os,hos,hcs,hds⟩:=id hs
 have hTs:s.TypeIs (.ref sl) "slice" :=⟨os,hos,hcs⟩
 delta cg
 try with_reducible refine bp ?_
 first|refine bb (bf ?_)|skip
 refine bb (di ht.typeIs (by decide) ?_)
 refine bb (wpAny_callSpecial?_slot (name:=Str.ofString "__getitem__") ht.typeIs PyProof.Rows.slot_tuple_getitem
  (bG PyProof.Rows.slot_tuple_getitem ht.typeIs cQ ?_ (cZ _ _)))
 show bg _ _ (Builtin.Tuple.tupleItemsOf (.ref t)>>=_) _ _ s
 refine bb (tupleItemsOf_ ht ?_)
 refine bb (cj hTs ?_)
 rw[qy (by decide)]
 refine bb (z1n hs pl pu ?_)
 have hyes:((((sIx qv.size 0 lo:Nat):Int)==0&&(1:Int)==1&&(sIx qv.size qv.size hi -sIx qv.size 0 lo)==qv.size)=true):=by
  rw[hw.1,hw.2]
  simp
 show bg _ _ (if(((sIx qv.size 0 lo:Nat):Int)==0&&(1:Int)==1&&(sIx qv.size qv.size hi -sIx qv.size 0 lo)==qv.size)=true then _ else _) _ _ s
 rw[qy hyes]
 obtain⟨o,ho,hc,n,hd⟩:=id ht
 have ex:Builtin.Tuple.tupleIsExact (.ref t)=(dv (.ref t)>>=λT=>pure (T== .type "tuple")):=rfl
 refine bb (m:=Builtin.Tuple.tupleIsExact (.ref t)) ?_
 rw[ex]
 refine bb (cj ht.typeIs (bf ?_))
 rw[qy (by decide)]
 exact bb (dF (bf ⟨_,rfl,bf h⟩))
end
end HT
namespace L2
open PySem PySem.Spec PyProof.Rows
section
variable{X:Cx}
def z8R{xs:List V}{lo hi:Option Int}(h:HT.sIx xs.length 0 lo=0/\HT.sIx xs.length xs.length hi=xs.length):z9P xs lo hi=xs:=by
 delta z9P
 rw[h.1,h.2]
 simp
def zh2(K:W.Frag):V->List V->Hp->VK->Prop:=λx vs H Q=> ∃l b xs zs,x= .ref l/\vs=[.ref b]/\H l=some (.lst xs)/\(SqT K H b zs\/SqL K H b zs)/\xs.length+zs.length<=qg/\Q .non (upd H l (.lst (xs++zs)))
def za2 l qv n b items2 n2 dd2 sl2(hs0: ¬(!qv.isEmpty&&Builtin.List.listTooLong (qv.size+items2.size))=true)(hs1:qv.size<=qg)(hs2:qv.size+items2.size<=qg+1):
 Meets (Builtin.«list.extend» ⟨[.ref l, .ref b],[]⟩) (λ_ R s=>s.heap.get? l=some {cls:= .type "list",dict:=none,data:= .seq qv n,slots:= #[]}/\s.heap.get? b=some {cls:= .type "tuple",dict:=dd2,data:= .seq items2 n2,slots:=sl2}/\R (.ok (.ret Value.none)) {s with heap:=s.heap.update l (Obj.mapSeq λx=>x++items2),toks:=s.toks}):=
 .of_wp λprog w A R s h=>by
  obtain⟨hp,g,d,tk,os⟩:=s;obtain⟨hl,hb,h⟩:=h;have f1:=AutoSeq1.idx_int;have f2:=AutoSeq1.sub_tuple_tuple;have f3:=AutoSeq1.sub_list_list;have f4:=AutoSeq1.sub_tuple_list;have f5:=AutoSeq1.sub_list_tuple
  have hz':(qv++items2).size<=qg+1:=by rw[Array.size_append];exact hs2
  wp_walk using(wpAny_updateSeq hl rfl (hz:=hs1) (_hz':=hz')),AutoSeq1.wpAny_loadPart' hl,AutoSeq1.wpAny_loadPart' hb;exact⟨_,rfl,h⟩
def za3 l qv n b items2 n2 dd2 sl2(hs0: ¬(!qv.isEmpty&&Builtin.List.listTooLong (qv.size+items2.size))=true)(hs1:qv.size<=qg)(hs2:qv.size+items2.size<=qg+1):
 Meets (Builtin.«list.extend» ⟨[.ref l, .ref b],[]⟩) (λ_ R s=>s.heap.get? l=some {cls:= .type "list",dict:=none,data:= .seq qv n,slots:= #[]}/\s.heap.get? b=some {cls:= .type "list",dict:=dd2,data:= .seq items2 n2,slots:=sl2}/\R (.ok (.ret Value.none)) {s with heap:=s.heap.update l (Obj.mapSeq λx=>x++items2),toks:=s.toks}):=
 .of_wp λprog w A R s h=>by
  obtain⟨hp,g,d,tk,os⟩:=s;obtain⟨hl,hb,h⟩:=h;have f1:=AutoSeq1.idx_int;have f2:=AutoSeq1.sub_tuple_tuple;have f3:=AutoSeq1.sub_list_list;have f4:=AutoSeq1.sub_tuple_list;have f5:=AutoSeq1.sub_list_tuple
  have hz':(qv++items2).size<=qg+1:=by rw[Array.size_append];exact hs2
  wp_walk using(wpAny_updateSeq hl rfl (hz:=hs1) (_hz':=hz')),AutoSeq1.wpAny_loadPart' hl,AutoSeq1.wpAny_loadPart' hb;exact⟨_,rfl,h⟩
def zez:MtM X "list.extend" (zh2 X.K):=by
 intro qx s σ H x vs v us Q I rx rv h
 obtain⟨l,b,xs,zs,rfl,rfl,hH,hB,hz,q⟩:=h
 cases rx
 obtain⟨u,rfl,ru⟩:=rv.one
 cases ru
 obtain⟨z,its,n,r,hl,e⟩:=I.lstM hH
 have key: ∃its2:List bc,U5 zs its2/\((∃dd2 n2 sl2,s.heap.get? b=some {cls:= .type "tuple",dict:=dd2,data:= .seq its2.toArray n2,slots:=sl2})\/(∃dd2 n2 sl2,s.heap.get? b=some {cls:= .type "list",dict:=dd2,data:= .seq its2.toArray n2,slots:=sl2})):=by
  rcases hB with hB|hB
  .obtain⟨its2,r2,⟨⟨cls,dd,data,sl⟩,e2,c,n2,d2⟩,_⟩:=I.tuple hB
   simp only at c d2
   subst c d2
   exact⟨its2,r2, .inl ⟨_,_,_,e2⟩⟩
  .obtain⟨its2,r2,⟨⟨cls,dd,data,sl⟩,n2,e2,c,_,d2⟩,_⟩:=I.list hB
   simp only at c d2
   subst c d2
   exact⟨its2,r2, .inr ⟨_,_,_,e2⟩⟩
 obtain⟨its2,r2,k⟩:=key
 have hl2:=r2.length
 have hsz:its.toArray.size+its2.toArray.size<=qg:=by rw[m9,m9];lia
 have hlong: ¬(!its.toArray.isEmpty&&Builtin.List.listTooLong (its.toArray.size+its2.toArray.size))=true:=by
  rw[zbX hsz,u0j]
  exact C6
 have fin:EP X qx σ Q .none {s with heap:=s.heap.update l (Obj.mapSeq λx=>x++its2.toArray),toks:=s.toks}:=by
  refine⟨.non,_,I.lset (its':=its++its2) hH e (by simp) (r.append r2) ?_,rfl,q⟩
  rw[m5]
  lia
 rcases k with⟨dd2,n2,sl2,e2⟩|⟨dd2,n2,sl2,e2⟩
 .exact cD F.slot_list_extend ⟨_,e,rfl⟩ F.entry_list_extend (F.args_list_extend_2 _ _) (za2 l its.toArray n b its2.toArray n2 dd2 sl2 hlong (by rw[m9];lia) ⋯) ⟨e,e2,fin⟩
 .exact cD F.slot_list_extend ⟨_,e,rfl⟩ F.entry_list_extend (F.args_list_extend_2 _ _) (za3 l its.toArray n b its2.toArray n2 dd2 sl2 hlong (by rw[m9];lia) ⋯) ⟨e,e2,fin⟩
end
def z3t(env:cY):List (Str×bN)->List (Str×Addr)->List (Str×Addr)
 |[],cs=>cs
 |(n,k)::r,cs=>z3t env r (if k== .free then(match env.cells.lookup n with|some a=>(n,a)::cs|none=>cs) else cs)
theorem z80{env:cY}: ∀(names:List (Str×bN)) (cs:List (Str×Addr)),(∀y∈names,y.2= .free->∃a,env.cells.lookup y.1=some a)->
 (forIn names cs λ(x:Str×bN) (r:List (Str×Addr))=>if(x.2==NameKind.free)=true then cellOf env x.1>>=λa=>pure (ForInStep.yield ((x.1,a)::r)) else pure (ForInStep.yield r))=(pure (z3t env names cs):fb _)
 |[],cs,_=>rfl
 |(n,k)::r,cs,h=>by
  have ih:=λcs=>z80 (env:=env) r cs λy hy=>h y (i5 _ hy)
  rw[u0g]
  show((if(k==NameKind.free)=true then cellOf env n>>=λa=>pure (ForInStep.yield ((n,a)::cs)) else pure (ForInStep.yield cs))>>=_)=pure (z3t env r (if k== .free then(match env.cells.lookup n with|some a=>(n,a)::cs|none=>cs) else cs))
  by_cases hk:(k==NameKind.free)=true
  .obtain⟨a,e⟩:=h (n,k) l6 (by simpa using hk)
   have e:env.cells.lookup n=some a:=e
   rw[qy hk,qy hk,e]
   have e2:cellOf env n=pure a:=by delta cellOf;rw[e]
   rw[e2]
   exact ih _
  .rw[qh hk,qh hk]
   exact ih _
def z4S{env:cY}{scope:Scope}(h: ∀y∈scope.names,y.2= .free->∃a,env.cells.lookup y.1=some a):closureFor scope env=pure (z3t env scope.names []):=by
 have e:=z80 (env:=env) scope.names [] h
 exact congrArg (λ(m:fb (List (Str×Addr)))=>m>>=λcs=>pure cs) e
theorem z4T: ∀(names:List (Str×bN)) (cs:List (Str×Addr)),(z3t env names cs).lookup x=some c->
 cs.lookup x=some c\/(env.cells.lookup x=some c/\(x,NameKind.free)∈names)
 |[],cs,h=> .inl h
 |(n,k)::r,cs,h=>by
  rcases z4T r _ h with q|⟨q,m⟩
  .by_cases hk:(k==NameKind.free)=true
   .rw[qy hk] at q
    cases e:env.cells.lookup n with
    |none=>rw[e] at q;exact .inl q
    |some a=>
     rw[e] at q
     have q:((n,a)::cs).lookup x=some c:=q
     rw[B5] at q
     by_cases hx:(x==n)=true
     .rw[hx] at q
      have q:some a=some c:=q
      cases q
      have hx:x=n:=eq_of_beq hx
      subst hx
      have hk:k= .free:=eq_of_beq hk
      subst hk
      exact .inr ⟨e,l6⟩
     .have hx:(x==n)=false:=by simpa using hx
      rw[hx] at q
      exact .inl q
   .rw[qh hk] at q
    exact .inl q
  .exact .inr ⟨q,i5 _ m⟩
theorem z3u{env:cY}: ∀(names:List (Str×bN)) (cs:List (Str×Addr)),(((∃c,cs.lookup x=some c))\/((x,NameKind.free)∈names/\∃c,env.cells.lookup x=some c))->
 ∃c,(z3t env names cs).lookup x=some c
 |[],cs,h=>by
  rcases h with h|⟨m,_⟩
  .exact h
  .cases m
 |(n,k)::r,cs,h=>by
  refine z3u r _ ?_
  rcases h with⟨c,hc⟩|⟨m,c,hc⟩
  .left
   by_cases hk:(k==NameKind.free)=true
   .rw[qy hk]
    cases e:env.cells.lookup n with
    |none=>exact⟨c,hc⟩
    |some a=>
     by_cases hx:(x==n)=true
     .exact⟨a,by show((n,a)::cs).lookup x=some a;rw[B5,hx]⟩
     .have hx:(x==n)=false:=by simpa using hx
      exact⟨c,by show((n,a)::cs).lookup x=some c;rw[B5,hx];exact hc⟩
   .rw[qh hk]
    exact⟨c,hc⟩
  .rcases m3.mp m with e|m
   .left
    cases e
    rw[qy (by decide),hc]
    exact⟨c,by show((x,c)::cs).lookup x=some c;rw[B5,beq_self_eq_true]⟩
   .exact .inr ⟨m,c,hc⟩
theorem z0a{env:cY}: ∀{names:List (Str×bN)} {x:Str},names.lookup x=some .free->
 (names.map λ(n,k)=>if(k==NameKind.free&&env.scope.kind== .function&&env.kindOf n==some .cell) then(n,NameKind.cell) else(n,k)).lookup x=some .cell\/
 (names.map λ(n,k)=>if(k==NameKind.free&&env.scope.kind== .function&&env.kindOf n==some .cell) then(n,NameKind.cell) else(n,k)).lookup x=some .free
 |[],_,h=>by simp at h
 |(n,k)::r,x,h=>by
  have ih:= @z0a env r x
  rw[i7]
  show T5 x ((if(k==NameKind.free&&env.scope.kind== .function&&env.kindOf n==some .cell)=true then(n,NameKind.cell) else(n,k))::_)=_\/T5 x ((if(k==NameKind.free&&env.scope.kind== .function&&env.kindOf n==some .cell)=true then(n,NameKind.cell) else(n,k))::_)=_
  cases hx:x==n with
  |true=>
   erw[B5,hx] at h
   cases h
   by_cases hc:(NameKind.free==NameKind.free&&env.scope.kind== .function&&env.kindOf n==some .cell)=true
   .rw[qy hc];left;erw[B5,hx]
   .rw[qh hc];right;erw[B5,hx]
  |false=>
   erw[B5,hx] at h
   by_cases hc:(k==NameKind.free&&env.scope.kind== .function&&env.kindOf n==some .cell)=true
   .rw[qy hc];erw[B5,hx];exact ih h
   .rw[qh hc];erw[B5,hx];exact ih h
theorem z0O{env:cY}: ∀{names:List (Str×bN)} {x:Str},((names.map λ(n,k)=>if(k==NameKind.free&&env.scope.kind== .function&&env.kindOf n==some .cell) then(n,NameKind.cell) else(n,k)).lookup x=some .cell\/
 (names.map λ(n,k)=>if(k==NameKind.free&&env.scope.kind== .function&&env.kindOf n==some .cell) then(n,NameKind.cell) else(n,k)).lookup x=some .free)->names.lookup x=some .free\/names.lookup x=some .cell
 |[],_,h=>by simp at h
 |(n,k)::r,x,h=>by
  have ih:= @z0O env r x
  rw[i7] at h
  have h:T5 x ((if(k==NameKind.free&&env.scope.kind== .function&&env.kindOf n==some .cell)=true then(n,NameKind.cell) else(n,k))::_)=_\/T5 x ((if(k==NameKind.free&&env.scope.kind== .function&&env.kindOf n==some .cell)=true then(n,NameKind.cell) else(n,k))::_)=_:=h
  cases hx:x==n with
  |true=>
   erw[B5,hx]
   by_cases hc:(k==NameKind.free&&env.scope.kind== .function&&env.kindOf n==some .cell)=true
   .have:k= .free:=by
     erw[A7,beq_iff_eq] at hc
     exact hc.1.1
    subst this
    exact .inl rfl
   .rw[qh hc] at h
    erw[B5,hx] at h
    exact h.symm
  |false=>
   erw[B5,hx]
   refine ih ?_
   by_cases hc:(k==NameKind.free&&env.scope.kind== .function&&env.kindOf n==some .cell)=true
   .rw[qy hc] at h;erw[B5,hx] at h;exact h
   .rw[qh hc] at h;erw[B5,hx] at h;exact h
def compCx(X:Cx)(scope:Scope)(own qj:List Str)(cl:List (Str×Addr))(C:Addr)(s₀:be)(H₀:Hp)(fp:List Addr)(pn:List (Addr×bE)):Cx:=
 {X with N:=own++qj,s₀:=s₀,H₀:=H₀,env:=compEnvC scope cl C X.env,outer:=X.stack,stack:=X.stack,ex:=fp,fn:=λ_=>false,pn:=pn,xe:=λ_ _=>False}
def z2g(k:Nat)(ix:List Nat)(σ:St):St:=B8 k none++ix.map λi=>(σ[i]?).getD none
section
variable{X:Cx}{tg iter elt:bi}{pos:bO}{scope:Scope}{own qj:List Str}{ix:List Nat}{wi:TI}{g:TG}{te:TE}
def z8S k ix σ:(z2g k ix σ).length=k+ix.length:=by
 delta z2g
 simp
def zc6{qx pins':List (Addr×bE)}{σ σ':St}{H H':Hp}{s s':be}{h':Heap}{cl:List (Str×Addr)}(I:Inv X qx σ H s)(hf: ∀b∈fp,z9D X qx H b)(hC:s.heap.objs.size<=C)
 (J:Inv (compCx X scope own qj cl C s H fp (X.pn++qx)) pins' σ' H' s') (hs:Heap.SameBut C s'.heap h'):Inv X qx σ H' {s' with heap:=h'}:=by
 have nC: ∀b,b<s.heap.objs.size->b≠C:=λb q e=>by subst e;exact absurd q (R0.mpr hC)
 refine I.call' (ch:=fp) J.os ⟨λb o e n hb hx=> ?_,λb o e n hb hx=> ?_,J.base.free,λb o e hx=> ?_,J.base.tups,J.base.frzs,J.base.tbls⟩ ?_ J.bare λb z=>⟨(hf b z).2.2.2.1,(hf b z).2.1,(hf b z).2.2.2.2.1,(hf b z).2.2.2.2.2⟩
 .exact(hs.2 b (nC b (Heap.lt_size e))).trans (J.base.keep b o e n hb hx)
 .obtain⟨sl,q⟩:=J.base.slot b o e n hb hx
  exact⟨sl,(hs.2 b (nC b (Heap.lt_size e))).trans q⟩
 .obtain⟨o',q⟩:=J.base.there b o e hx
  exact⟨o',(hs.2 b (nC b (Heap.lt_size e))).trans q⟩
 .intro a o e
  refine(J.hok a o e).stay (λb u hbu q=> ?_) (λ_ q=>q) λ_ _ q=>q
  refine(hs.2 b ?_).trans q
  intro eb
  subst eb
  have hfree:H' b=none:=J.free
  rcases hbu with rfl|z
  .rw[e] at hfree;cases hfree
  .rw[z] at hfree;cases hfree
end
end L2
namespace PySem
section
variable{prog:bm}{w:bo}{A:bu}{E:bc->be->Prop}{s:be}
def z1s{o:bE}{ep:Nat}{Q:bc->be->Prop}(hd:(d==bz)=false)(ho:s.heap.get? d=some o)(hc:o.ExactDict)(hdat:o.data= .dict es ep)
 (hQ:Q (.ref s.heap.objs.size) {s with heap:=s.heap.push {cls:= .type "dict_keyiterator",data:= .fields #[.ref d, .int 0 0, .int es.size 0, .int ep 0]}}):
 bg (bj prog w) A (dW (.ref d)) Q E s:=by
 have hT:s.TypeIs (.ref d) "dict" :=⟨o,ho,hc.1⟩
 refine wpAny_pyIter_slot hT F.slot_dict_iter (bG F.slot_dict_iter hT F.entry_dict_iter ?_ (F.args_dict_iter_1 _))
 delta Builtin.«dict.__iter__»
 refine bb ?_
 delta Builtin.Dict.dictSlotNone
 refine bb (cG hT ?_)
 show bg _ _ (pure (Value.ref d)) _ _ s
 refine bf ?_
 show bg _ _ (Builtin.Dict.showsAll d>>=_) _ _ s
 delta Builtin.Dict.showsAll
 rw[qh (by rw[hd];exact C6)]
 refine bb (bf ?_)
 refine bb (cu ho hdat ?_)
 refine bb (cF ho hdat ?_)
 refine bb (bt (bf ⟨_,rfl, "dict_keyiterator",_,⟨_,Heap.get?_push_size _ rfl,rfl⟩,F.slot_dict_keyiterator_next.lookup, ?_⟩))
 simpa[du] using hQ
def z3v{i ep:Nat}{od:bE}{es:Array cn}{en:cn}{Q:Option bc->be->Prop}(hit:s.heap.IsKeyIter it d i es.size ep)
 (hod:s.heap.get? d=some od) (hdd:od.data= .dict es ep) (hx:es[i]? =some en)
 (hQ: ∀h',h'.IsKeyIter it d (i+1) es.size ep->Heap.SameBut it s.heap h'->Q (some en.key) {s with heap:=h'}):
 bg (bj prog w) A (cp (.ref it)) Q E s:=by
 obtain⟨o,ho,hc,hd⟩:=id hit
 delta cp
 refine bb (wpAny_attempt (wpAny_callSpecial?_slot (name:=Str.ofString "__next__") hit.typeIs F.slot_dict_keyiterator_next
  (bG F.slot_dict_keyiterator_next hit.typeIs F.entry_dict_keyiterator_next ?_ (F.args_dict_keyiterator_next_1 _))))
 refine bb (bf ?_)
 refine bb ?_
 refine bb ?_
 first|refine bb (bD hit.typeIs (bf ?_))|refine bb (bM hit.typeIs (bf ?_))
 refine bb (wpAny_fieldsOf ho hd ?_)
 have hown:Builtin.Dict_items.ownsTuple "dict_keyiterator" =false:=by decide
 erw[hown,t8,if_false]
 show bg _ _ (if(Value.ref d==Value.none)=true then _ else _) _ _ s
 rw[qh (show ¬((Value.ref d==Value.none)=true) from C6)]
 refine bb (bf ?_)
 refine bb (cu hod hdd ?_)
 rw[qh (by simp)]
 refine bb (bf ?_)
 refine bb (cF hod hdd ?_)
 rw[qh (by simp)]
 refine bf ?_
 have hlt':i<es.size:=by
  rcases P7 i es.size with h|h
  .exact h
  .simp[Array.getElem?_eq_none h] at hx
 have hkey:es[i]=en:=by
  rw[Array.getElem?_eq_getElem hlt'] at hx
  exact Option.some.inj hx
 erw[show ¬((i:Int)<0) from by lia,if_false,L4,Array.getElem?_eq_getElem hlt']
 refine bb ?_
 first|refine bb (bD hit.typeIs (bf ?_))|refine bb (bM hit.typeIs (bf ?_))
 refine bb (cH hit.typeIs ?_)
 show bg _ _ (setField (.ref it) 1 (du ((i:Int)+1))>>=_) _ _ s
 refine bb (wpAny_setField ho hd (by simp) ?_)
 have hit':(s.heap.update it (Obj.mapFields (·.setIfInBounds 1 (du ((i:Int)+1))))).IsKeyIter it d (i+1) es.size ep:=
  ⟨_,Heap.get?_update_self _ ho (Obj.isFreed_of_fields (Obj.data_mapFields hd _)),(Obj.cls_mapFields ..).trans hc,by rw[Obj.data_mapFields hd];simp[du]⟩
 refine bb (bp ?_)
 refine bb (cH (s:={s with heap:=s.heap.update it (Obj.mapFields (·.setIfInBounds 1 (du ((i:Int)+1))))}) hit'.typeIs ?_)
 show bg _ _ (pure es[i].key) _ _ _
 rw[hkey]
 exact bf (bf ⟨_,rfl,bf (hQ _ hit' (Heap.SameBut.update ..))⟩)
def z4j{i ep:Nat}{od:bE}{es:Array cn}{Q:Option bc->be->Prop}(hh:A.handled=none)(hit:s.heap.IsKeyIter it d i es.size ep)
 (hod:s.heap.get? d=some od) (hdd:od.data= .dict es ep) (hge:es.size<=i)
 (hQ: ∀h',Heap.ExtBut it s.heap h'->Q none {s with heap:=h'}):bg (bj prog w) A (cp (.ref it)) Q E s:=by
 obtain⟨o,ho,hc,hd⟩:=id hit
 delta cp
 refine bb (wpAny_attempt (wpAny_callSpecial?_slot (name:=Str.ofString "__next__") hit.typeIs F.slot_dict_keyiterator_next
  (bG F.slot_dict_keyiterator_next hit.typeIs F.entry_dict_keyiterator_next ?_ (F.args_dict_keyiterator_next_1 _))))
 refine bb (bf ?_)
 refine bb ?_
 refine bb ?_
 first|refine bb (bD hit.typeIs (bf ?_))|refine bb (bM hit.typeIs (bf ?_))
 refine bb (wpAny_fieldsOf ho hd ?_)
 have hown:Builtin.Dict_items.ownsTuple "dict_keyiterator" =false:=by decide
 erw[hown,t8,if_false]
 show bg _ _ (if(Value.ref d==Value.none)=true then _ else _) _ _ s
 rw[qh (show ¬((Value.ref d==Value.none)=true) from C6)]
 refine bb (bf ?_)
 refine bb (cu hod hdd ?_)
 rw[qh (by simp)]
 refine bb (bf ?_)
 refine bb (cF hod hdd ?_)
 rw[qh (by simp)]
 refine bf ?_
 erw[show ¬((i:Int)<0) from by lia,if_false,L4,Array.getElem?_eq_none hge]
 refine bb ?_
 first|refine bb (bD hit.typeIs (bf ?_))|refine bb (bM hit.typeIs (bf ?_))
 show bg _ _ (setField (.ref it) 0 .none>>=_) _ _ s
 refine bb (wpAny_setField ho hd (by simp) ?_)
 show bg _ _ (newExc (.type "StopIteration") []>>=_) _ _ _
 refine bb ?_
 erw[newExc,newTuple]
 refine bb (bt ?_ (by size_fits))
 refine bb (m:=firstArgMember _ _) (wpAny_of_eq (a:=Value.none) (by first|rfl|(erw[firstArgMember];rfl)) ?_)
 refine bt ?_ (by size_fits)
 erw[raiseNew]
 refine bb (wpAny_handled ?_)
 rw[show A.in1.handled=none from hh]
 refine bb (bf (wpAny_throw ?_))
 refine bb (dn (T:= "StopIteration") (b:=true) ⟨_,Heap.get?_push_size _ rfl,rfl⟩ isSubtype_stop ?_)
 exact bf (hQ _ (((Heap.SameBut.update ..).extBut.push _).push _))
end
end PySem
namespace L2
open PySem PySem.Spec PyProof.Rows
def ItD(a:Addr)(o:bE)(kvs:List (NK×V)):It:=
 ⟨λi H=>i<kvs.length/\H a=some (.frz o (.dT kvs)),λi H x H'=>H'=H/\∃b k v,x= .ref b/\kvs[i]? =some (k,v)/\TK H k b,λi H=>kvs.length<=i/\H a=some (.frz o (.dT kvs))⟩
def za4{P:bm}{w:bo}{H:Hp}{h:Heap}{a:Addr}{o:bE}{kvs:List (NK×V)}(ok:HOk P w H h)(e:H a=some (.frz o (.dT kvs))):
 h.get? a=some o/\(a==bz)=false/\o.ExactDict/\∃es ep,o.data= .dict es ep/\es.size=kvs.length/\
  ∀(i:Nat) (k:NK) (v:V),kvs[i]? =some (k,v)->∃en b,es[i]? =some en/\en.key= .ref b/\TK H k b:=by
 obtain⟨ho,z,y,xs,r,o',es,ep,e',c,d,l,nd⟩:=ok a _ e
 rw[ho] at e'
 cases e'
 have hl:kvs.length=xs.length:=Paired.length r
 have hs:es.size=xs.length:=size_of_entries l
 refine⟨ho,y,c,es,ep,d,⋯,λi k v q=> ?_⟩
 have key: ∀{kvs:List (NK×V)} {xs:List (NK×Addr×bc)},bx (λ(p:NK×V) (q:NK×Addr×bc)=>p.1=q.1/\TK H p.1 q.2.1/\RelV p.2 q.2.2) kvs xs->
  ∀(i:Nat),kvs[i]? =some (k,v)->∃b u,xs[i]? =some (k,b,u)/\TK H k b:=by
  intro kvs xs r
  induction r with
  |nil=>intro i q;simp at q
  | @cons p x l1 l2 h1 h2 ih=>
   intro i q
   cases i with
   |zero=>
    erw[List.getElem?_cons_zero,Option.some.injEq] at q
    subst q
    obtain⟨e1,e2,_⟩:=h1
    obtain⟨x1,x2,x3⟩:=x
    have e1:k=x1:=e1
    subst e1
    exact⟨x2,x3,rfl,e2⟩
   |succ j=>
    erw[List.getElem?_cons_succ] at q
    obtain⟨b,u,q1,q2⟩:=ih j q
    exact⟨b,u,by simpa using q1,q2⟩
 obtain⟨b,u,q1,q2⟩:=key r i q
 have hi:=entry_at l i
 rw[q1] at hi
 exact⟨_,b,hi,rfl,q2⟩
def z61{P:bm}{w:bo}{K:W.Frag}{tg:bi}(a it:Addr)(o:bE)(es:Array cn)(ep:Nat)(hd:o.data= .dict es ep)(kvs:List (NK×V)):
 zg8 P w K tg (ItD a o kvs) [it] it (λi h=>h.IsKeyIter it a i es.size ep) where
 mem:=by simp
 obj:=λi h st b hb=>by
  have e:b=it:=by simpa using hb
  subst e
  obtain⟨o,e,c,d⟩:=st
  exact⟨o,e,λv z=>by rw[d] at z;cases z⟩
 keep:=λi h h' st k=>st.at λo e=>k it (by simp) o e
 item:=by
  intro X hP hw hK hc i qx s σ H E I hf st hg
  subst hP hw hK
  obtain⟨hi,hq⟩:=hg
  obtain⟨ho,_,_,es',ep',hd',hsz,hat⟩:=za4 I.hok hq
  rw[hd] at hd'
  cases hd'
  obtain⟨f0,f1,f2,f3,f4,f5⟩:=hf it (by simp)
  obtain⟨⟨k,v⟩,hk⟩: ∃p,kvs[i]? =some p:=⟨kvs[i],by simp[hi]⟩
  obtain⟨en,b,he,hb,hB⟩:=hat i k v hk
  refine z3v st ho hd he λh' st' sb=> ?_
  have I1:Inv X qx σ H {s with heap:=h'}:=I.turned (t':=s.toks) (λb o hb e=>(sb.2 b hb).trans e) f0 f1 f3 f4 f5
  obtain⟨o2,e2,c2,d2⟩:=id st'
  exact⟨_,rfl,zbS (s:={s with heap:=h'}) e2 c2 d2 (by decide) ⟨.ref b,H,I1,hb,⟨rfl,b,k,v,rfl,hk,hB⟩,st',λb hb=>(hf b hb).1⟩⟩
 done:=by
  intro X hP hw hK hc i qx s σ H E I hf st hg
  subst hP hw hK
  obtain⟨hi,hq⟩:=hg
  obtain⟨ho,_,_,es',ep',hd',hsz,hat⟩:=za4 I.hok hq
  rw[hd] at hd'
  cases hd'
  obtain⟨f0,f1,f2,f3,f4,f5⟩:=hf it (by simp)
  exact z4j (I.ok.hd hc) st ho hd ⋯ λh' eb=>⟨rfl,I.turned (t':=s.toks) (λb o hb e=>eb b o hb e) f0 f1 f3 f4 f5⟩
 self:=λ_ _ _ _ _ st h=>wpAny_pyIter_keyiter st h
section
variable{X:Cx}{tg:bi}
def Inv.freeze{qx:List (Addr×bE)}{σ:St}{H:Hp}{s:be}{a:Addr}{kvs:List (NK×V)}(I:Inv X qx σ H s)(h:H a=some (.dT kvs)):
 ∃o es ep,s.heap.get? a=some o/\o.ExactDict/\o.data= .dict es ep/\(a==bz)=false/\es.size=kvs.length/\Inv X qx σ (upd H a (.frz o (.dT kvs))) s:=by
 obtain⟨z,y,xs,r,o,es,ep,e,c,d,l,nd⟩:=I.hok a _ h
 have hs:es.size=xs.length:=size_of_entries l
 have hl:kvs.length=xs.length:=Paired.length r
 refine⟨o,es,ep,e,c,d,y,⋯, ?_⟩
 have tn: ∀b xs,H b=some (.tup xs)->(upd H a (.frz o (.dT kvs))) b=some (.tup xs):=λb xs q=>by
  rw[Z5 (z0Z q h (by intro z;cases z))];exact q
 have hw:=I.write (x:=a) (e:=a) (o:= .frz o (.dT kvs)) (h':=s.heap) (t':=s.toks) (by rw[h];trivial) (.inl rfl) (λb u _ q=>q) ⟨o,e⟩
  ⟨e,z,y,xs,Paired.mapP r λp q z=>⟨z.1,z.2.1.stay tn,z.2.2⟩,o,es,ep,e,c,d,l,nd⟩
 exact hw
def zh3(td:TE):TI:=λ σ H R=>td σ H λx H1=> ∃a kvs,x= .ref a/\H1 a=some (.dT kvs)/\∀o,R (ItD a o kvs) (upd H1 a (.frz o (.dT kvs)))
def za5(hl:PE X l tl):PI X tg l (zh3 tl):=by
 intro qx s σ H R I h
 refine thn (hl qx s σ H _ I h) ?_
 rintro v s1 ⟨x,H1,I1,r1,a,kvs,e,ha,q⟩
 subst e
 cases r1
 obtain⟨o,es,ep,ho,hc,hd,hy,hsz,I2⟩:=I1.freeze ha
 refine z1s hy ho hc hd ?_
 have I3:Inv X qx σ (upd H1 a (.frz o (.dT kvs))) {s1 with heap:=s1.heap.push {cls:= .type "dict_keyiterator",data:= .fields #[.ref a, .int 0 0, .int es.size 0, .int ep 0]}}:=
  I2.kept (t':=s1.toks) λb u q=>Heap.get?_push_of_some _ q
 refine⟨s1.heap.objs.size,[s1.heap.objs.size],_,ItD a o kvs,_,rfl,I3,z61 a _ o es ep hd kvs,⟨_,Heap.get?_push_size _ rfl,rfl,rfl⟩,λb hb=> ?_,q o⟩
 have e:b=s1.heap.objs.size:=by simpa using hb
 subst e
 exact I2.fpOk (i6 _) I2.fresh
end
def z4i.new(o:HO)(h:H p=none):z4i H (upd H p o):=λx u e=>by rw[Z5 (U4 e h)];exact e
theorem z1Q: ∀ns:List Int,PyData.canLayAll0 (ns.map PyData.int)=true
 |[]=>by erw[t7,PyData.canLayAll0]
 |n::ns=>by erw[i7,PyData.canLayAll0,PyData.canLay0,z1Q ns,T8]
theorem z2h: ∀ns:List Int,PyData.depthAll (ns.map PyData.int)<=1
 |[]=>by simp[PyData.depthAll]
 |n::ns=>by
  have:=z2h ns
  erw[i7,PyData.depthAll,PyData.depth]
  lia
theorem z1Z: ∀ns ms:List Int,PyData.eqvAll (ns.map PyData.int) (ms.map PyData.int)=decide (ns=ms)
 |[],[]=>by erw[t7,PyData.eqvAll,decide_true]
 |[],m::ms=>by simp[PyData.eqvAll]
 |n::ns,[]=>by simp[PyData.eqvAll]
 |n::ns,m::ms=>by
  erw[i7,PyData.eqvAll,PyData.eqv,z1Z ns ms]
  by_cases h:n=m
  .subst h;by_cases h2:ns=ms<;>simp[h2]
  .simp[h]
def dT(ns:List Int):PyData:= .tuple (ns.map PyData.int)
def dL(ns:List Int):PyData:= .list (ns.map PyData.int)
def zh4 ns:(dT ns).canLay0=true:=by erw[dT,PyData.canLay0,z1Q]
def zh5 ns:(dT ns).depth<=2:=by
 have:=z2h ns
 erw[dT,PyData.depth];lia
def za6 ns ms:PyData.eqv (dT ns) (dT ms)=decide (ns=ms):=by erw[dT,PyData.eqv,z1Z]
def zdo ns ms:PyData.eqv (dL ns) (dL ms)=decide (ns=ms):=by erw[dL,PyData.eqv,z1Z]
def z7a(a b:PyData) xs ys:PyData.eqvAll (a::xs) (b::ys)=(PyData.eqv a b&&PyData.eqvAll xs ys):=by erw[PyData.eqvAll]
def z8T:PyData.eqvAll [] []=true:=by erw[PyData.eqvAll]
def zeA xs ys:PyData.eqv (.tuple xs) (.tuple ys)=PyData.eqvAll xs ys:=by erw[PyData.eqv]
theorem Paired.get{α β:Type}{F:α->β->Prop}: ∀{l₁:List α} {l₂:List β},bx F l₁ l₂->∀(i:Nat) (a:α),l₁[i]? =some a->∃b,l₂[i]? =some b/\F a b
 |_,_, .nil,i,a,e=>by simp at e
 |_,_, .cons r t,0,a,e=>by simp at e;subst e;exact⟨_,rfl,r⟩
 |_,_, .cons r t,i+1,a,e=>by
  obtain⟨b,h1,h2⟩:=Paired.get t i a (by simpa using e)
  exact⟨b,by simpa using h1,h2⟩
def zc7(K:W.Frag)(H:Hp)(xs:List V)(Q:VK):Prop:= ∀p H',(H'=H/\H p=some (.tup xs))\/(H p=none/\H'=upd H p (.tup xs))->Q (.ref p) H'
def zc7.intro{K:W.Frag}{H:Hp}{xs:List V}{Q:VK}(h: ∀p H',H' p=some (.tup xs)->z4i H H'->Q (.ref p) H'):zc7 K H xs Q:=by
 intro p H' e
 rcases e with⟨rfl,s⟩|⟨n,rfl⟩
 .exact h p H' s (z4i.refl _)
 .exact h p _ Z3 (z4i.new _ n)
section
variable{X:Cx}
def zk6(K:W.Frag):V->Option Int->Option Int->Hp->VK->Prop:=λx lo hi H Q=> ∃a xs,x= .ref a/\H a=some (.tup xs)/\zc7 K H (z9P xs lo hi) Q
def zeB:SlR X (zk6 X.K):=by
 intro qx s σ H x v vl vu lo hi sl Q I rx hs pl pu h
 obtain⟨a,xs,rfl,hx0,q⟩:=h
 have hx:SqT X.K H a xs:=SqT.of hx0
 by_cases hw:HT.sIx xs.length 0 lo=0/\HT.sIx xs.length xs.length hi=xs.length
 .cases rx
  obtain⟨its,r,ht,hz⟩:=I.tuple hx
  have hlen:its.toArray.size=xs.length:=by rw[m9];exact r.length.symm
  refine⟨"tuple",_,PyProof.Rows.slot_tuple_getitem.lookup,ht.typeIs, ?_⟩
  refine HT.getItem_tuple_whole ht hs pl pu (by rw[hlen];exact hw) ⟨.ref a,H,I,rfl,q a H (.inl ⟨rfl, ?_⟩)⟩
  rw[z8R hw]
  exact hx0
 .exact zgO qx s σ H _ v vl vu lo hi sl Q I rx hs pl pu ⟨a,xs,rfl,hx,hw,λp hp=>q p _ (.inr ⟨hp,rfl⟩)⟩
def zeC(K:W.Frag):R2:=λx y H Q=> ∃a b xs ys,x= .ref a/\y= .ref b/\H a=some (.tup xs)/\H b=some (.tup ys)/\xs.length+ys.length<=qg/\zc7 K H (xs++ys) Q
def zeD:OpR X (bP .Add) (zeC X.K):=by
 intro qx s σ H x y v u Q I rx ry h
 obtain⟨a,b,xs,ys,rfl,rfl,ha0,hb0,hz,q⟩:=h
 have ha:SqT X.K H a xs:=SqT.of ha0
 have hb:SqT X.K H b ys:=SqT.of hb0
 by_cases hx:xs=[]
 .subst hx
  cases rx
  cases ry
  obtain⟨its,r1,p1,_⟩:=I.tuple ha
  obtain⟨its2,r2,p2,_⟩:=I.tuple hb
  have e0:its=[]:=(U5.nil_iff r1).mpr rfl
  subst e0
  obtain⟨⟨cls,dd,data,sl⟩,ho,hc,n,hd⟩:=id p1
  obtain⟨⟨cls2,dd2,data2,sl2⟩,ho2,hc2,n2,hd2⟩:=id p2
  simp only at hc hd hc2 hd2
  subst hc hd hc2 hd2
  exact dh ⟨_,ho,rfl⟩ ⟨_,ho2,rfl⟩ cx cT PySem.F.slot_tuple_add PySem.F.entry_tuple_add (PySem.F.args_tuple_add_2 _ _)
   (tuple_addW0 a b _ _ n n2 dd dd2 sl sl2 (by simp)) ⟨ho,ho2, .ref b,H,I,rfl,q b H (.inl ⟨rfl,hb0⟩)⟩
 .refine zel qx s σ H _ _ v u Q I rx ry ⟨a,b,xs,ys,rfl,rfl,ha,hb,hx,hz,λe=> ?_,λ_ p hp=>q p _ (.inr ⟨hp,rfl⟩)⟩
  refine q a H (.inl ⟨rfl, ?_⟩)
  rw[e,l7]
  exact ha0
def za7:CallR X (.type "tuple") (λxs H Q=> ∃(p:Addr) (ys:List V),xs=[.ref p]/\(SqL X.K H p ys\/H p=some (.tup ys))/\zc7 X.K H ys Q):=by
 intro qx s σ H xs us Q I r h
 obtain⟨p,ys,rfl,hs,q⟩:=h
 refine z4R qx s σ H _ us Q I r ⟨p,ys,rfl, ?_⟩
 rcases hs with hs|hs
 .exact .inl ⟨hs,λl hl=>q l _ (.inr ⟨hl,rfl⟩)⟩
 .exact .inr ⟨SqT.of hs,q p H (.inl ⟨rfl,hs⟩)⟩
end
end L2
namespace PyProof.Rows
open PySem
section
variable{prog:bm}{w:bo}{A:bu}{E:bc->be->Prop}{s:be}
def z3w{h h':Heap}(hl:h.IsList t qv)(k: ∀o,h.get? t=some o->h'.get? t=some o):h'.IsList t qv:=by
 obtain⟨o,ho,hc,n,hd⟩:=hl
 exact⟨o,k o ho,hc,n,hd⟩
theorem z62{qv:Array bc}(hne:t≠it): ∀(n i:Nat) (s:be) (Q:List bc->be->Prop),s.heap.IsListIter it t i->s.heap.IsList t qv->i+n<=qv.size->
 (∀h',h'.IsListIter it t (i+n)->Heap.SameBut it s.heap h'->Q ((qv.toList.drop i).take n) {s with heap:=h'})->bg (bj prog w) A (draw (.ref it) n) Q E s
 |0,i,s,Q,hit,_,_,hQ=>by
  show bg _ _ (pure []) Q E s
  exact bf (by simpa using hQ s.heap hit (Heap.SameBut.refl ..))
 |n+1,i,s,Q,hit,ht,hle,hQ=>by
  have hlt:i<qv.size:=by lia
  show bg _ _ (cp (.ref it)>>=_) Q E s
  refine bb (bX hit ht (x:=qv[i]) (by simp[hlt]) λh₁ hit₁ hs₁=> ?_)
  refine bb (bp (z62 hne n (i+1) _ _ hit₁ (z3w ht λo e=>(hs₁.2 t hne).trans e) ⋯ λh₂ hit₂ hs₂=>bf ?_))
  have hd:qv.toList.drop i=qv[i]::qv.toList.drop (i+1):=by simp[R5,hlt]
  have:=hQ h₂ (by rw[show i+(n+1)=i+1+n by lia];exact hit₂) (hs₁.trans hs₂)
  rw[hd,M9] at this
  exact this
def z37{Q:List bc->be->Prop}(hh:A.handled=none)(ht:s.heap.IsList t qv)
 (hQ: ∀h',Heap.ExtBut s.heap.objs.size s.heap h'->Q qv.toList {s with heap:=h'}):bg (bj prog w) A (unpackItems (.ref t) qv.size none) Q E s:=by
 have hlt:t≠s.heap.objs.size:=by obtain⟨o,ho,_⟩:=ht;exact B3 (Heap.lt_size ho)
 have hT:s.TypeIs (.ref t) "list" :=by obtain⟨o,ho,hc,_⟩:=ht;exact⟨o,ho,hc⟩
 delta unpackItems
 refine bb ?_
 .delta notIterableAtAll
  refine bb (bU hT PySem.F.slot_list_iter.lookup ?_)
  refine bf ?_
  erw[t8,if_false]
  refine bb (bp (bS ht ?_))
  refine bb (bp (z62 hlt qv.size 0 _ _ ⟨_,Heap.get?_push_size _ rfl,rfl,rfl⟩ (z3w ht λo e=>Heap.get?_push_of_some _ e) ⋯ λh₁ hit₁ hs₁=> ?_))
  have hall:List.take qv.size (List.drop 0 qv.toList)=qv.toList:=by
   rw[L7];exact t9 (by simp)
  rw[hall]
  rw[qh (by simp)]
  have ht₁:h₁.IsList t qv:=z3w ht λo e=>(hs₁.2 t hlt).trans (Heap.get?_push_of_some _ e)
  refine bb (bp (bY hh hit₁ ht₁ (by simp) λh₂ he₂=> ?_))
  erw[Option.isSome_none,t8,if_false]
  refine bf (hQ h₂ λb o hb e=>he₂ b o hb (hs₁.extBut b o hb (Heap.get?_push_of_some _ e)))
def z2z{env:cY}{elts:List bi}{x1}{pos:bO}{Q:Unit->be->Prop}(hh:A.handled=none)(ht:s.heap.IsList t qv)
 (hn:(bw elts env).length=qv.size) (hstar:(bw elts env).findIdx? (·.1)=none)
 (h: ∀h',Heap.ExtBut s.heap.objs.size s.heap h'->bg (bj prog w) A (assignInOrder ((bw elts env).map (·.2)) qv.toList) Q E {s with heap:=h'}):
 bg (bj prog w) A (cc (.Tuple elts x1 pos) env (.ref t)) Q E s:=by
 rw[assign_Tuple]
 refine bb (bZ ?_)
 delta unpack
 rw[hn,hstar]
 exact bb (bp (z37 hh ht h))
end
end PyProof.Rows
namespace L2
open PySem PySem.Spec PyProof.Rows
section
variable{X:Cx}{pos:bO}
def zlS(K:W.Frag)(n:Nat)(t:TGs):TG:=λv σ H Q=> ∃a xs,v= .ref a/\(SqT K H a xs\/SqL K H a xs)/\xs.length=n/\t xs σ H Q
def zh6{k:Nat}{n:Nat}(hc:X.calm=true)(h:PGs X es t)
 (hn:(bw es X.env).length=n:=by rfl) (hst:(bw es X.env).findIdx? (·.1)=none:=by rfl):PG X (.Tuple es k pos) (zlS X.K n t):=by
 intro qx s σ H v u Q I r hw
 obtain⟨a,xs,e1,hq|hq,hl,hw⟩:=hw
 .exact zgy hc h hn hst qx s σ H v u Q I r ⟨a,xs,e1,hq,hl,hw⟩
 .subst e1
  cases r
  obtain⟨its,rv,ht,hz⟩:=I.list hq
  refine z2z (I.ok.hd hc) ht.isList (by simp[hn,<-hl,rv.length]) hst λh' hx=> ?_
  have I1:Inv X qx σ H {s with heap:=h'}:=I.kept (t':=s.toks) λb o e=>hx b o (B3 (Heap.lt_size e)) e
  exact h qx _ σ H xs _ Q I1 (by simpa using rv) hw
end
abbrev za8(ifs:List bi)(env:cY):fb Bool:=forIn ifs true λc r=>if r=true then do let ok<-dU c env (bC c env);pure (ForInStep.yield ok) else pure (ForInStep.yield r)
def z1L{prog:bm}{w:bo}{A:bu}{R:dX->be->Prop}{s:be}{elt qw iter:bi}{ifs:List bi}{scope:Scope}{pos:bO}{it acc:bc}{env:cY}(I:Nat->be->Prop)
 (turn: ∀n s,I n s->bg (bj prog w) A (cp it) (λr s₁=>match r with
  |none=>R (.ok .next) s₁
  |some v=>bg (bj prog w) A (bV qw it v) (λ_ s₁=>bg (bj prog w) A (cc qw env v) (λ_ s₂=>bg (bj prog w) A (za8 ifs env) (λok s₃=>
   if ok=true then bg (bj prog w) A (bC elt env) (λx s₃=>
   bg (bj prog w) A (call (.builtin "list.append") [acc,x]) (λ_ s₄=> ∃m,m<n/\I m s₄) (λ_ _=>False) s₃)
   (λ_ _=>False) s₃ else ∃m,m<n/\I m s₃) (λ_ _=>False) s₂) (λ_ _=>False) s₁) (λ_ _=>False) s₁) (λ_ _=>False) s)
 (n:Nat) (h:I n s):
 ca (bj prog w) A (.compLoop (.ListComp elt [⟨qw,iter,ifs,0⟩] scope pos) 0 it acc env) R s:=by
 refine codeAny_loop rfl I (λn s hI=> ?_) n h
 show bg _ _ ((compTurn (.ListComp elt [⟨qw,iter,ifs,0⟩] scope pos) 0 it acc env).onRaise (λx=>do noteFrame x env;theTreesLotGoes x)) _ _ s
 refine wpAny_noted ?_
 rw[compTurn_list]
 refine bb (bZ (bb (bA (turn n s hI) (λr s₁ h₁=> ?_) λ_ _ h'=>h'.elim)))
 cases r with
 |none=>exact bf h₁
 |some v=>
  refine bb (bA h₁ (λ_ s₁ h₁=> ?_) λ_ _ h'=>h'.elim)
  refine bb (bA h₁ (λ_ s₂ h₂=>bb (bA h₂ (λok s₃ h₃=> ?_) λ_ _ h'=>h'.elim)) λ_ _ h'=>h'.elim)
  cases ok with
  |false=>exact bf ⟨rfl,h₃⟩
  |true=>
   exact bb (bb (bA h₃ (λx s₄ h₄=>bb (bA h₄ (λ_ s₅ h₅=>bf (bf ⟨rfl,h₅⟩)) λ_ _ h'=>h'.elim)) λ_ _ h'=>h'.elim))
def PTs(X:Cx)(ifs:List bi)(t:TT):Prop:=
 ∀(qx:List (Addr×bE)) (s:be) (σ:St) (H:Hp) (Q:Bool->Hp->Prop),Inv X qx σ H s->t σ H Q->bg (bj X.prog X.w) X.A (za8 ifs X.env) (TP X qx σ Q) X.xe s
def zeE:PTs X [] (λ_ H Q=>Q true H):=λqx s σ H Q I h=>wpAny_tests_nil ⟨H,I,h⟩
def zeF(h:PT X c t):PTs X [c] t:=λqx s σ H Q I q=>wpAny_tests_one (h qx s σ H Q I q)
section
variable{X:Cx}{tg iter elt:bi}{ifs:List bi}{pos:bO}{scope:Scope}{own qj:List Str}{ix:List Nat}{wi:TI}{g:TG}{tt:TT}{te:TE}
def z81(K:W.Frag)(wi:TI)(g:TG)(tt:TT)(te:TE)(k:Nat)(ix:List Nat):TE:=λ σ H Q=>wi σ H λJ H1=> ∀D,H1 D=none->(∀a o,K.lookup a=some o->upd H1 D (.lst []) a=none)->
 ∃W:Nat->Nat->List V->St->Hp->Prop,(∃m,W 0 m [] (z2g k ix σ) (upd H1 D (.lst [])))/\
  ∀i m ys σ' H',W i m ys σ' H'->H' D=some (.lst ys)/\((J.stop i H'/\Q (.ref D) H')\/
   (J.go i H'/\∀x H2,J.yld i H' x H2->g x σ' H2 λ σ2 H3=>tt σ2 H3 λok H3=>if ok=true then te σ2 H3 λy H4=>H4 D=some (.lst ys)/\ys.length<qg/\∃m',m'<m/\W (i+1) m' (ys++[y]) σ2 (upd H4 D (.lst (ys++[y])))
    else ∃m',m'<m/\W (i+1) m' ys σ2 H3))
end
structure z0P(osc sc:Scope)(own qj N:List Str)(ix:List Nat):Prop where
 kind:sc.kind= .function
 names: ∀y∈sc.names,y.2= .local->sc.names.lookup y.1=some .local
 fr: ∀y∈sc.names,y.2= .free->osc.names.lookup y.1=some .cell\/osc.names.lookup y.1=some .free
 nd:(own++qj).Nodup
 frl: ∀x∈qj,sc.names.lookup x=some .free
 ixs:ix.map (λi=>N[i]?)=qj.map some
 frc: ∀y∈sc.names,y.2= .cell->y.1∉qj
 owf: ∀y∈sc.names,y.2= .free->y.1∉own
def z15(osc sc:Scope)(own qj N:List Str)(ix:List Nat):Bool:=
 decide (sc.kind= .function)&&sc.names.all (λy=>decide (y.2= .local->sc.names.lookup y.1=some .local))&&
  sc.names.all (λy=>decide (y.2= .free->osc.names.lookup y.1=some .cell\/osc.names.lookup y.1=some .free))&&decide (own++qj).Nodup&&qj.all (λx=>decide (sc.names.lookup x=some .free))&&
  decide (ix.map (λi=>N[i]?)=qj.map some)&&sc.names.all (λy=>decide (y.2= .cell->y.1∉qj))&&sc.names.all (λy=>decide (y.2= .free->y.1∉own))
def z15.sc{osc sc:Scope}{own qj N:List Str}{ix:List Nat}(h:z15 osc sc own qj N ix=true):z0P osc sc own qj N ix:=by
 delta z15 at h
 erw[A7,u0b,decide_eq_true_eq] at h
 obtain⟨⟨⟨⟨⟨⟨⟨h1,h3⟩,h4⟩,h5⟩,h6⟩,h7⟩,h8⟩,h9⟩:=h
 exact⟨h1,h3,h4,h5,h6,h7,h8,h9⟩
def U6(X:Cx)(scope:Scope)(own qj:List Str)(cl:List (Str×Addr))(C:Addr)(s₀:be)(H₀:Hp)(fp:List Addr)(pn:List (Addr×bE)):Cx:=
 {compCx X scope own qj cl C s₀ H₀ fp pn with fn:=λx=>own.contains x}
theorem z16: ∀(names:List (Str×bN)) (n:Nat) (a b:List (Str×Addr)),bq n names (a++b)=bq n names a++b
 |[],_,_,_=>rfl
 |(name,kind)::r,n,a,b=>by
  unfold bq
  split
  .exact z16 r (n+1) ((name,n)::a) b
  .exact z16 r n a b
theorem z17: ∀(names:List (Str×bN)) (n:Nat) (a:List (Str×Addr)) (x:Str) (c:Addr),(x,c)∈bq n names a->(x,c)∈a\/(x,NameKind.cell)∈names
 |[],_,_,_,_,h=> .inl h
 |(name,kind)::r,n,a,x,c,h=>by
  unfold bq at h
  split at h
  .rename_i hk
   rcases z17 r (n+1) _ x c h with q|q
   .rcases m3.mp q with q|q
    .cases q;rw[eq_of_beq hk];exact .inr l6
    .exact .inl q
   .exact .inr (i5 _ q)
  .rcases z17 r n a x c h with q|q
   .exact .inl q
   .exact .inr (i5 _ q)
theorem z18: ∀(names:List (Str×bN)) (n:Nat) (a:List (Str×Addr)) (x:Str),((∃c,a.lookup x=some c)\/(x,NameKind.cell)∈names)->∃c,(bq n names a).lookup x=some c
 |[],_,_,_,h=>by rcases h with h|h;exact h;cases h
 |(name,kind)::r,n,a,x,h=>by
  unfold bq
  split
  .rename_i hk
   refine z18 r (n+1) _ x ?_
   by_cases hx:(x==name)=true
   .exact .inl ⟨n,by rw[B5,hx]⟩
   .have hx':(x==name)=false:=by simpa using hx
    rcases h with⟨c,h⟩|h
    .exact .inl ⟨c,by rw[B5,hx'];exact h⟩
    .rcases m3.mp h with q|q
     .cases q;simp at hx
     .exact .inr q
  .rename_i hk
   refine z18 r n a x ?_
   rcases h with h|h
   .exact .inl h
   .rcases m3.mp h with q|q
    .cases q;simp at hk
    .exact .inr q
def z0H{M:dY}{A:bu}{E:bc->be->Prop}{s:be}{scope:Scope}{globals:Addr}{cl:List (Str×Addr)}{qual:Str}{func:Option Addr}{code:bc}{env:cY}{builtins:Addr}{Q:cY->be->Prop}
 (hQ: ∀h',h'.Ns s.heap.objs.size (λ_=>none)->(∀b o,s.heap.get? b=some o->h'.get? b=some o)->CellsOk h' (s.heap.objs.size+1) (bq (s.heap.objs.size+1) scope.names [])->
  Q (newEnv scope s.heap.objs.size globals (bq (s.heap.objs.size+1) scope.names []++cl) qual func code (some env) builtins) {s with heap:=h'}):
 bg M A (newFunctionEnv scope globals cl [] qual func code (some env) builtins) Q E s:=by
 erw[newFunctionEnv,u04,if_true]
 refine bb (wpAny_alloc ?_)
 refine bb (wpAny_layCells _ (λname kind cells=>by cases hkc:kind==NameKind.cell<;>simp[hkc]) _ _ _ _ ?_)
 have ok:=cellsFrom_ok scope.names (s.heap.push {cls:= .type "dict",data:= .dict #[]}) (s.heap.objs.size+1) [] ⟨λ_ _ hm=>(nomatch hm),List.Pairwise.nil⟩ (by rw[Heap.size_push];exact i6 _)
 rw[Heap.size_push] at ok
 rw[show({s with heap:=s.heap.push {cls:= .type "dict",data:= .dict #[]}}:be).heap.objs.size=s.heap.objs.size+1 from Heap.size_push ..]
 rw[show bq (s.heap.objs.size+1) scope.names cl=bq (s.heap.objs.size+1) scope.names []++cl from z16 scope.names _ [] cl]
 refine bb ?_
 rw[List.forIn_nil]
 refine bf (bf ?_)
 exact hQ _ ((Heap.Ns.new s.heap (.type "dict")).keeps (pushCells_keeps _ _)) (λb o e=>pushCells_keeps _ _ b o (Heap.get?_push_of_some _ e)) ok
section
variable{X:Cx}{tg iter elt:bi}{ifs:List bi}{pos:bO}{scope:Scope}{own qj:List Str}{ix:List Nat}{wi:TI}{g:TG}{tt:TT}{te:TE}
def z0z(X:Cx)(scope:Scope)(n:Nat):List (Str×Addr):=bq n scope.names []++z3t X.env scope.names []
def z0b{n:Nat}(h:(z0z X scope n).lookup x=some c):(bq n scope.names []).lookup x=some c\/((bq n scope.names []).lookup x=none/\(z3t X.env scope.names []).lookup x=some c):=by
 delta z0z at h
 rw[R1] at h
 cases e:(bq n scope.names []).lookup x with
 |some d=>rw[e] at h;exact .inl h
 |none=>rw[e] at h;exact .inr ⟨rfl,h⟩
def z4s{n:Nat}(h:(bq n scope.names []).lookup x=some c):(z0z X scope n).lookup x=some c:=by
 delta z0z
 rw[R1,h];rfl
def z4t{n:Nat}(h:(bq n scope.names []).lookup x=none)(h2:(z3t X.env scope.names []).lookup x=some c):(z0z X scope n).lookup x=some c:=by
 delta z0z
 rw[R1,h,h2];rfl
def Inv.ofC(I:Inv (U6 X scope own qj cl C s₀ H₀ fp pn) qx σ H s):Inv (compCx X scope own qj cl C s₀ H₀ fp pn) qx σ H s:=
 ⟨⟨I.ok.mod,I.ok.kind,I.ok.glob,I.ok.blt,I.ok.above,I.ok.inj,I.ok.has,λ_ _ z=>u0c z,I.ok.hd,I.ok.frames,I.ok.stk,I.ok.exf,I.ok.bs,I.ok.bsz,I.ok.noex,I.ok.exfs,I.ok.funs,I.ok.frf⟩,I.os,I.bare,I.base,I.loc,I.cell,I.free,I.freeC,I.pin,I.hok,I.len⟩
def z7b{s s1:be}(S:z0P X.env.scope scope own qj X.N ix)(I:Inv X qx σ H s)(hf: ∀b∈fp,z9D X qx H b)(hb: ∀b∈fp,b<s.heap.objs.size)
 (ho:s1.os=s.os) (hg:s1.gens=s.gens) (hk: ∀b o,s.heap.get? b=some o->s1.heap.get? b=some o) (hn:s1.heap.Ns s.heap.objs.size (λ_=>none)) (hcl:CellsOk s1.heap (s.heap.objs.size+1) (bq (s.heap.objs.size+1) scope.names [])):
 Inv (U6 X scope own qj (z0z X scope (s.heap.objs.size+1)) s.heap.objs.size s H fp (X.pn++qx)) [] (z2g own.length ix σ) H s1:=by
 have clos: ∀x c,(z3t X.env scope.names []).lookup x=some c->X.env.cells.lookup x=some c/\(x,NameKind.free)∈scope.names:=λx c h=>by
  rcases z4T _ _ h with q|q
  .exact nomatch q
  .exact q
 have hlen:ix.length=qj.length:=by
  have:=congrArg E7 S.ixs
  simpa using this
 have cne: ∀x c,X.env.cells.lookup x=some c->c<s.heap.objs.size:=λx c e=>by
  obtain⟨v,o,q,_⟩:=I.cell x c e
  exact Heap.lt_size q
 have nw: ∀x c,(bq (s.heap.objs.size+1) scope.names []).lookup x=some c->s1.heap.IsCell c none/\s.heap.objs.size+1<=c:=λx c e=>hcl.empty x c (PySem.mem_of_lookup e)
 have dis: ∀x y c,(z0z X scope (s.heap.objs.size+1)).lookup x=some c->(z0z X scope (s.heap.objs.size+1)).lookup y=some c->x=y:=λx y c h1 h2=>by
  rcases z0b h1 with q1|⟨_,q1⟩<;>rcases z0b h2 with q2|⟨_,q2⟩
  .exact PySem.name_of_addr hcl.apart (PySem.mem_of_lookup q1) (PySem.mem_of_lookup q2)
  .exact absurd (A2 (cne _ _ (clos _ _ q2).1) (F7 (nw _ _ q1).2)) (D8 _)
  .exact absurd (A2 (cne _ _ (clos _ _ q1).1) (F7 (nw _ _ q2).2)) (D8 _)
  .exact I.ok.inj x y c (clos _ _ q1).1 (clos _ _ q2).1
 refine⟨⟨I.ok.mod,S.kind,I.ok.glob,I.ok.blt,i6 _,dis,λx hx=> ?_,λx c z e=> ?_,I.ok.hd,I.ok.frames, .inl rfl,λb z=>⟨B3 (hb b z),λx c e=> ?_⟩,I.bs,
  C7 I.ok.bsz I.sz,λb o e z=> ?_,λb z=> ?_,I.stack,I.stkFree⟩,ho, ?_,Un.kept hk,⟨_,hn,λi x v h1 h2 h3=> ?_⟩,λx c e=> ?_,I.fresh,λx c e=> ?_,λp hp=> ?_,I.hok.kept hk, ?_⟩
 .have hx:(relabel scope X.env).names.lookup x=some .cell\/(relabel scope X.env).names.lookup x=some .free:=hx
  rcases z0O hx with q|q
  .have m:(x,NameKind.free)∈scope.names:=PySem.mem_of_lookup q
   obtain⟨c,hc⟩:=I.ok.has x (S.fr _ m rfl)
   obtain⟨c',hc'⟩:=z3u (env:=X.env) scope.names [] (.inr ⟨m,c,hc⟩)
   cases e:(bq (s.heap.objs.size+1) scope.names []).lookup x with
   |some d=>exact⟨d,z4s e⟩
   |none=>exact⟨c',z4t e hc'⟩
  .obtain⟨c,hc⟩:=z18 scope.names (s.heap.objs.size+1) [] x (.inr (PySem.mem_of_lookup q))
   exact⟨c,z4s hc⟩
 .have e:(z0z X scope (s.heap.objs.size+1)).lookup x=some c:=e
  have z:x∈own:=by
   have z:own.contains x=true:=z
   simpa using z
  rcases z0b e with q|⟨_,q⟩
  .exact F7 (nw _ _ q).2
  .exact absurd z (S.owf _ (clos _ _ q).2 rfl)
 .have e:(z0z X scope (s.heap.objs.size+1)).lookup x=some c:=e
  rcases z0b e with q|⟨_,q⟩
  .exact P6 (A2 (hb b z) (F7 (nw _ _ q).2))
  .exact(hf b z).2.2.2.2.1 x c (clos x c q).1
 .rcases(hf b z).2.2.2.1 with q|q
  .exact I.ok.noex b o e q
  .exact absurd (Heap.lt_size (I.ok.bs b o e).1) (R0.mpr q)
 .intro q
  rcases m3.mp (I.stkSub b q) with r|r
  .exact(hf b z).2.1 r
  .exact(hf b z).2.2.1 r
 .rw[hg];exact I.bare
 .have h2:(z2g own.length ix σ)[i]? =some (some v):=h2
  have h1:(own++qj)[i]? =some x:=h1
  delta z2g at h2
  by_cases hi:i<own.length
  .rw[List.getElem?_append_left (by simpa using hi),List.getElem?_replicate] at h2
   rw[qy hi] at h2
   cases h2
  .have hi:own.length<=i:=R0.mp hi
   rw[List.getElem?_append_right (by simpa using hi),T3,List.getElem?_map] at h2
   rw[List.getElem?_append_right hi] at h1
   cases e:ix[i -own.length]? with
   |none=>rw[e] at h2;cases h2
   |some j=>
    rw[e] at h2
    have h2:some ((σ[j]?).getD none)=some (some v):=h2
    have hσ:σ[j]? =some (some v):=by
     cases q:σ[j]? with
     |none=>rw[q] at h2;cases h2
     |some z=>rw[q] at h2;exact h2
    have hN:X.N[j]? =some x:=by
     have:=congrArg (λl:List (Option Str)=>l[i -own.length]?) S.ixs
     erw[List.getElem?_map,e,h1,i9] at this
     exact Option.some.inj this
    have mf:x∈qj:=List.mem_of_getElem? h1
    have lf:=S.frl x mf
    have m:(x,NameKind.free)∈scope.names:=PySem.mem_of_lookup lf
    have hos:=S.fr _ m rfl
    obtain⟨mm,hns,hl⟩:=I.loc
    obtain⟨u,ru,look⟩:=hl j x v hN hσ (hos.elim (λq=> .inr (.inl q)) λq=> .inr (.inr q))
    refine⟨u,ru, ?_⟩
    rcases look with⟨kk,_⟩|⟨kk,c,hc,ic⟩
    .have kk:X.env.scope.names.lookup x=some .local:=kk
     have hos:X.env.scope.names.lookup x=some .cell\/X.env.scope.names.lookup x=some .free:=hos
     rw[kk] at hos
     rcases hos with q|q<;>cases q
    .obtain⟨c',hc'⟩:=z3u (env:=X.env) scope.names [] (.inr ⟨m,c,hc⟩)
     have e2:=(clos x c' hc').1
     rw[hc] at e2
     cases e2
     have e3:(bq (s.heap.objs.size+1) scope.names []).lookup x=none:=by
      cases e4:(bq (s.heap.objs.size+1) scope.names []).lookup x with
      |none=>rfl
      |some d=>
       rcases z17 _ _ _ _ _ (PySem.mem_of_lookup e4) with q|q
       .cases q
       .exact absurd mf (S.frc _ q rfl)
     refine .inr ⟨z0a lf,c,z4t e3 hc', ?_⟩
     obtain⟨o,q1,q2⟩:=ic
     exact⟨o,hk _ _ q1,q2⟩
 .have e:(z0z X scope (s.heap.objs.size+1)).lookup x=some c:=e
  rcases z0b e with q|⟨_,q⟩
  .exact⟨none,(nw _ _ q).1⟩
  .obtain⟨v,o,q1,q2⟩:=I.cell x c (clos x c q).1
   exact⟨v,o,hk _ _ q1,q2⟩
 .have e:(z0z X scope (s.heap.objs.size+1)).lookup x=some c:=e
  rcases z0b e with q|⟨_,q⟩
  .exact I.hok.fresh (F7 (nw _ _ q).2)
  .exact I.freeC x c (clos x c q).1
 .have hp:p∈(X.pn++qx)++[]:=hp
  rw[l7] at hp
  obtain⟨e,n,ne,nf,d⟩:=I.pin p hp
  refine⟨hk _ _ e,n,B3 (Heap.lt_size e),λq=> ?_,d⟩
  rcases m3.mp (I.stkSub p.1 q) with r|r
  .exact ne r
  .exact nf r
 .show(z2g own.length ix σ).length=(own++qj).length
  rw[z8S,hlen,m5]
def za9(K:W.Frag)(tk tv:TE):TE:=λ σ H Q=> ∀p,H p=none->(∀a o,K.lookup a=some o->upd H p (.dT []) a=none)->z9V [(tk,tv)] σ (upd H p (.dT [])) λps H2=> ∃b y ks,ps=[(.ref b,y)]/\H2 p=some (.dT [])/\TK H2 ks b/\Q (.ref p) (upd H2 p (.dT [(ks,y)]))
def zaa(hu:X.A.units+2<cLine)(hk:PE X k tk)(hv:PE X v tv):PE X (.Dict [some k] [v] pos) (za9 X.K tk tv):=by
 intro qx s σ H Q I q
 have hn:=I.hok.fresh (i6 s.heap.objs.size)
 have I1:=I.laid (a:=s.heap.objs.size) (o:= .dT []) (h':=s.heap.push {cls:= .type "dict",data:= .dict #[]}) (t':=s.toks) (λ_ _ q=>Heap.get?_push_of_some _ q) (i6 _) (z7Y s.heap I.big)
 have hall:([some k]:List (Option bi)).all (·.isSome)=true:=rfl
 have hshape:=zip_pairTrees [some k] [v] X.env pos hall rfl
 rw[arm_eval_Dict,hshape,dictDisplay_pairs (pairTrees [some k] [v] X.env pos) (by intro z;exact nomatch z) (by show 1<17;decide)]
 refine bb (bZ (bb ?_))
 unfold subDict
 refine bb (wpAny_alloc ?_)
 refine bb (bp ?_)
 rw[qy (by show 1<=15;decide)]
 refine bb (thn (zc1 hk hv zev qx _ σ _ _ I1 (q _ hn λa o e=>(I1.bs a o (I1.ok.mod.kin a o e)).2)) ?_)
 rintro ws s2 ⟨ps,H2,I2,rel,hD⟩
 obtain⟨b,y,ks,rfl,hp,hb,q2⟩:=hD
 cases rel with
 | @cons _ w1 _ _ r1 r2=>
  cases r2
  obtain⟨kv,vv⟩:=w1
  obtain⟨rk,rv⟩:=r1
  cases(show kv=Value.ref b from rk)
  refine bp ?_
  obtain⟨z,hd,xs,rel,dd⟩:=zgS I2.hok hp
  cases rel
  show bg _ _ (forIn [(Value.ref b,vv)] PUnit.unit _>>=_) _ _ _
  rw[u0g]
  refine bb (bb (bb (da (hsz:=B9 _) (show X.A.units+1<cLine by lia) (z3r I2.hok hb) dd λh' dd' hs=>bf ?_)))
  refine bf (a:=PUnit.unit) (bf (bf (bf ?_)))
  obtain⟨o,es,ep,hq,h2,h3,h4,_,h5⟩:=dd'
  refine⟨.ref s.heap.objs.size,_,z74 (ob:= .dT [(ks,y)]) I2 (by rw[hp];exact True.intro) hs ⟨o,hq⟩ ⟨?_,hd,_,((KT.put (k:=ks) (H:=H2) (kvs:=[]) .nil hb rv)).keeps λc ys ec=> ?_,o,es,ep,hq,h2,h3,h4,h5⟩,rfl,q2⟩
  .rw[dy,D3];decide
  .rw[Z5 (z0Z ec hp (λz=>nomatch z))]
   exact ec
def z6T(ds:List PyData)(i j:Nat):Bool:=(So.ltD (ds.getD i .none) (ds.getD j .none)).getD false
theorem z63{ys:List V}{its:List bc}(h:U5 ys its): ∀(q:List Nat),(∀i∈q,i<its.length)->U5 (q.map λi=>ys.getD i .non) (q.map λi=>its.getD i Value.none)
 |[],_=> .nil
 |i::q,hq=>by
  refine .cons ?_ (z63 h q λj hj=>hq j (i5 _ hj))
  have hi:=hq i l6
  clear hq
  induction h generalizing i with
  |nil=>simp at hi
  |cons r t ih=>
   cases i with
   |zero=>simpa using r
   |succ i=>simpa using ih i (by simpa using hi)
end
end L2
namespace Se
open PySem PySem.SetTable
variable{α:Type}
end Se
namespace L2
open PySem PySem.W PySem.Calls PySem.Spec PyProof.Rows
section
variable{P:bm}{w:bo}{A:bu}{E:bc->be->Prop}{s:be}
def z7c{n:Nat}{P0:Nat->bc->Prop}{OK:Heap->Prop}{R:List bc->be->Prop}(K:KdlSrc P w T r d n P0 OK)(hh:A.handled=none)(hok:OK s.heap)(hn:n<=qg)
 (h: ∀(h':Heap) tk acc,(∀b o,s.heap.get? b=some o->h'.get? b=some o)->s.heap.objs.size<h'.objs.size->dl P0 acc n->R acc.toList {s with heap:=h',toks:=tk}):
 bg (bj P w) A (collect (.ref r)) R E s:=by
 obtain⟨hr,hd⟩:=K.there s.heap hok
 delta collect
 refine bb (wpAny_runValue (cf entry_proto_collect' ?_))
 rw[Around.under_plainId PySem.F.plain_proto_collect _]
 show bg _ A.in1 (newList []>>=λl=>again (.builtin "list.__iadd__" ⟨[l, .ref r],[]⟩)) _ _ s
 refine bb (bt ?_)
 refine bf ⟨cW PySem.F.plain_list_iadd _,cf entry_list_iadd' ?_⟩
 rw[Around.under_plainId PySem.F.plain_list_iadd _]
 have hS₁:(s.heap.push {cls:= .type "list",data:= .seq ([]:List bc).toArray}).get? s.heap.objs.size=some {cls:= .type "list",data:= .seq #[]}:=Heap.get?_push_size _ rfl
 show bg _ A.in1 (Builtin.List.listExtendWith (.ref s.heap.objs.size) (.ref r) (.ref s.heap.objs.size)) _ _ _
 have key:=kdl_extend (prog:=P) (w:=w) (A:=A) (s:={s with heap:=s.heap.push {cls:= .type "list",data:= .seq ([]:List bc).toArray}})
  (R:=λ(q:dX) (s':be)=> ∃(h':Heap) (tk:Nat) (acc':Array bc) (c':Nat),q= .ok (.ret (.ref s.heap.objs.size))/\s'={s with heap:=h',toks:=tk}/\
   (∀b o,s.heap.get? b=some o->h'.get? b=some o)/\h'.get? s.heap.objs.size=some {cls:= .type "list",dict:=none,data:= .seq acc' c',slots:= #[]}/\dl P0 acc' n)
  K hh (K.keep _ _ hok λb _ o e=>Heap.get?_push_of_some _ e) s.heap.objs.size (P6 hr) (P6 hd) (.ref s.heap.objs.size) 0 hS₁
  (λh' tk acc' c' hk hS' hacc=>⟨h',tk,acc',c',rfl,rfl,λb o e=>hk b o (B3 (Heap.lt_size e)) (Heap.get?_push_of_some _ e),hS',hacc⟩) hn
 refine bA key (λfin s' x=> ?_) λe s' x=> ?_
 .cases fin with
  |done f=>
   obtain⟨h',tk,acc',c',e,rfl,hk,hS',hacc⟩:=x
   cases e
   show bg _ A (load s.heap.objs.size>>=_) _ _ _
   refine bb (dJ hS' ?_)
   refine bf ?_
   show R acc'.toList _
   exact h h' tk acc' hk (Heap.lt_size hS') hacc
  |again c₁=>
   refine⟨x.1,cy x.2 λq s₂ y=> ?_⟩
   obtain⟨h',tk,acc',c',rfl,rfl,hk,hS',hacc⟩:=y
   show bg _ A (load s.heap.objs.size>>=_) _ _ _
   refine bb (dJ hS' ?_)
   refine bf ?_
   show R acc'.toList _
   exact h h' tk acc' hk (Heap.lt_size hS') hacc
 .obtain⟨_,_,_,_,e',_⟩:=x
  cases e'
end
end L2
namespace So
open PySem PySem.W PyProof.Rows PySem.SeqAt
section
variable{prog:bm}{w:bo}{A:bu}{E:bc->be->Prop}{s:be}
def call_sortedQ{T:String}{r d:Addr}{n:Nat}{P0:Nat->bc->Prop}{OK:Heap->Prop}{cmp:Nat->Nat->Bool}{Q:bc->be->Prop}(hh:A.handled=none)(K:KdlSrc prog w T r d n P0 OK)(hok:OK s.heap)(h64:n<64)
 (hk: ∀h' tk (vs:List bc),(∀b o,s.heap.get? b=some o->h'.get? b=some o)->dl P0 vs.toArray n->2<=vs.length->∃κ,(∀(Q:SortKind->be->Prop) E,Q κ {s with heap:=h',toks:=tk}->bg (bj prog w) A.in1.in1 (keyKind' vs.toArray) Q E {s with heap:=h',toks:=tk})/\
  ∀i j (hi:i<vs.length) (hj:j<vs.length) (C:Bool->be->Prop),C (cmp i j) {s with heap:=h',toks:=tk}->bg (bj prog w) A.in1.in1 (keyLt' κ vs[i] vs[j]) C (λ_ _=>False) {s with heap:=h',toks:=tk})
 (h: ∀h' tk (vs:List bc) D' e1,(∀b o,s.heap.get? b=some o->h'.get? b=some o)->dl P0 vs.toArray n->s.heap.objs.size<=D'->h'.get? D'=some (bT "list" ((permS n cmp).map λi=>vs.getD i Value.none).toArray e1)->Q (.ref D') {s with heap:=h',toks:=tk}):
 bg (bj prog w) A (call (.builtin "sorted") [.ref r]) Q E s:=by
 have hz:n<=qg:=by have:qg=16777216:=rfl;lia
 refine Calls.call_function_entry kind_sorted plain_sorted entry_sorted (args_sorted1 _) ?_
 delta Builtin.«sorted»
 refine bb (m:=checkCount "sorted" 1 1 _) (bf ?_)
 refine bb (L2.z7c (A:=A.in1) K hh hok hz λh0 tk acc k0 lt0 hacc=> ?_)
 have hln:acc.toList.length=n:=by rw[Array.length_toList];exact hacc.1
 have hacc':dl P0 acc.toList.toArray n:=by simpa using hacc
 generalize acc.toList=vs at hln hacc'⊢
 refine bb (wpAny_newList ?_ ⋯)
 have hoL:(h0.push (bT "list" vs.toArray 0)).get? h0.objs.size=some (bT "list" vs.toArray 0):=Heap.get?_push_size _ rfl
 have keep: ∀b o,h0.get? b=some o->(h0.push (bT "list" vs.toArray 0)).get? b=some o:=λb o q=>Heap.get?_push_of_some _ q
 have ne: ∀{b o},h0.get? b=some o->b≠h0.objs.size:=λq=>B3 (Heap.lt_size q)
 have le:s.heap.objs.size<=h0.objs.size:=L9 lt0
 refine bb (bp (bG slot_list_sort ⟨_,hoL,rfl⟩ entry_list_sort ?body (args_list_sort _)))
 case body=>
  refine z79 (s:={s with heap:=h0.push (bT "list" vs.toArray 0),toks:=tk}) (cmp:=cmp) hoL ⋯ (λh' kp h2=> ?_) λh' e1 kp hD=> ?_
  .exact hk h' tk vs (λb o q=>kp b o (ne (k0 b o q)) (keep b o (k0 b o q))) hacc' h2
  .rw[hln] at hD
   exact⟨_,rfl,bf ⟨_,rfl,h h' tk vs _ e1 (λb o q=>kp b o (ne (k0 b o q)) (keep b o (k0 b o q))) hacc' le hD⟩⟩
end
end So
namespace L2
open PySem PySem.W PySem.Spec PyProof.Rows
section
variable{X:Cx}
theorem zab: ∀{ks:List Int} {vs:List bc},vs.length=ks.length->(∀(j:Nat) (v:bc),vs[j]? =some v->∃t,v=Value.int ((ks[j]?).getD 0) t)->U5 (ks.map V.int) vs
 |[],[],_,_=> .nil
 |[],_::_,hl,_=>by simp at hl
 |_::_,[],hl,_=>by simp at hl
 |k::ks,v::vs,hl,h=>by
  obtain⟨t,e⟩:=h 0 v rfl
  exact .cons ⟨t,e⟩ (zab (by simpa using hl) λj u hu=>h (j+1) u (by simpa using hu))
def zh7(xs:List V)(H:Hp)(Q:VK):Prop:= ∃(a:Addr) (kvs:List (Key×V)) (ks:List Int),xs=[.ref a]/\Rd H a (.dK kvs)/\kvs.map (·.1)=ks.map Sum.inl/\ks.length<64/\
 ∀l,H l=none->Q (.ref l) (upd H l (.lst ((So.permS ks.length (z6T (ks.map PyData.int))).map λi=>(ks.map V.int).getD i .non)))
def zac(hh:X.A.handled=none):CallR X (.builtin "sorted") zh7:=by
 intro qx s σ H xs us Q I r h
 obtain⟨a,kvs,ks,rfl,ha,he,h64,q⟩:=h
 obtain⟨u,rfl,ru⟩:=z4g r
 cases ru
 obtain⟨z,hd,vs,rel,dd⟩:=z72 I.hok ha
 obtain⟨ep,dt⟩:=dd.dictAt
 have hv:kvs.length=vs.length:=Paired.length rel
 have hkl:kvs.length=ks.length:=by have:=congrArg E7 he;simpa using this
 have allInt: ∀{its:List bc},dl (λi v=> ∃k x,vs[i]? =some (k,x)/\(Q0 X.prog X.w).is k v=true) its.toArray vs.length->its.length=ks.length/\∀(j:Nat) (v:bc),its[j]? =some v->∃t,v=Value.int ((ks[j]?).getD 0) t:=λ{its} hi=>by
  have hl:its.length=ks.length:=by have:=hi.1;rw[m9] at this;lia
  refine⟨hl,λj v hj=> ?_⟩
  obtain⟨k,x,e1,e2⟩:=hi.2 j v (by simpa using hj)
  have hj':j<ks.length:=by have:=(List.getElem?_eq_some_iff.mp hj).1;lia
  have hp:kvs[j]? =some kvs[j]:=List.getElem?_eq_getElem ⋯
  obtain⟨b,f1,f2,f3⟩:=Paired.get rel j _ hp
  rw[e1] at f1
  cases f1
  have f2:kvs[j].1=k:=f2
  have f4:kvs[j].1=Sum.inl ks[j]:=by
   have:=congrArg (λl=>l[j]?) he
   simpa[hj',show j<kvs.length by lia] using this
  rw[z8G,<-f2,f4] at e2
  rcases Q9 e2 with⟨i,t,h3,h4⟩|⟨i,t,h3,_⟩
  .cases h3
   exact⟨t,by rw[h4];simp[hj']⟩
  .cases h3
 refine So.call_sortedQ (cmp:=z6T (ks.map PyData.int)) hh (kdl_dict (knd:=Q0 X.prog X.w) hd) dt ⋯ (λh' tk its kp hi h2=> ?_) λh' tk its D' e1 kp hi hD hget=> ?_
 .obtain⟨hl,hAll⟩:=allInt hi
  refine⟨_,λQ E hq=>W.kas_kind (T:= .type "int") h2 (λv hv=> ?_) (by decide) (by decide) hq,λi j hi' hj' C hC=> ?_⟩
  .obtain⟨i,hi',rfl⟩:=N0 hv
   obtain⟨t,e⟩:=hAll i _ (List.getElem?_eq_getElem hi')
   rw[e]
   exact W.Looks.of_pure rfl
  .obtain⟨t,e⟩:=hAll i _ (List.getElem?_eq_getElem hi')
   obtain⟨t',e'⟩:=hAll j _ (List.getElem?_eq_getElem hj')
   rw[e,e']
   refine W.kat_lt_int ?_
   have:z6T (ks.map PyData.int) i j=decide ((ks[i]?).getD 0<(ks[j]?).getD 0):=by
    delta z6T
    simp[List.getD,show i<ks.length by lia,show j<ks.length by lia,So.ltD]
   rw[<-this];exact hC
 .obtain⟨hl,hAll⟩:=allInt hi
  have rv:U5 (ks.map V.int) its:=zab hl hAll
  refine⟨.ref D',_,I.laid (t':=tk) (h':=h') (a:=D') (o:= .lst ((So.permS ks.length (z6T (ks.map PyData.int))).map λi=>(ks.map V.int).getD i .non)) kp hD ⟨by rw[l0,So.permS_len];have:qg=16777216:=rfl;lia,_,e1,z63 rv _ λi hi=> ?_, ?_⟩,rfl,q _ (I.hok.fresh hD)⟩
  .rw[hl];exact So.permS_lt i hi
  .rw[<-hv,hkl] at hget;exact hget
variable{prog:bm}{w:bo}{A:bu}{E:bc->be->Prop}{s:be}
def zad:dP (.type "list") "keys" =pure none:=am_miss_of_fast (by decide+kernel)
def zc8{xs:Array bc}{k:Nat}{sl:Array (Option bc)}{Q:Option bc->be->Prop}(hx:s.heap.get? a=some {cls:= .type "list",dict:=none,data:= .seq xs k,slots:=sl})(hA:A.handled=none)
 (h: ∀h' tk,(∀b o,s.heap.get? b=some o->h'.get? b=some o)->Q none {s with heap:=h',toks:=tk}):bg (bj prog w) A (getAttr? (.ref a) "keys") Q E s:=by
 obtain⟨hp,g,d,tk,os⟩:=s
 have hT: ∀tk',(⟨hp,g,d,tk',os⟩:be).TypeIs (.ref a) "list" :=λ_=>⟨_,hx,rfl⟩
 have f1:=sub_AttributeError
 have f3:=F.slot_list_getattribute.lookup
 have f4:=F.slot_list_getattribute.bind (.ref a)
 have f5:=am_list_getattr_none
 unfold getAttr? getAttrBy? getAttrBy
 repeat (any_goals (first|assumption|exact hT _|((with_reducible show bg _ _ (call (Value.builtin "list.__getattribute__") _ _) _ _ _);refine cD F.slot_list_getattribute (hT _) am_entry_list_getattribute (F.args_list_getattribute_2 _ _) (meets_getattribute_miss_list a xs k sl "keys" _ zad (by decide+kernel) (by decide+kernel)) ⟨hx,hA,λh' tk' e hx'=> ?_⟩)|wp_step))
 obtain⟨t',u',he⟩:=hx'.there
 show bg _ _ (db _ _ _ _ _ _ _) _ _ _
 unfold db
 repeat (any_goals (first|assumption|wp_step))
 exact h _ _ hx'.keeps
def z1R:entryFor table "dict.update.loop" =some Builtin.«dict.update.loop» :=entryFor_of_tree (by kernel_rfl)
def k9:plainId "dict.update.loop" =true:=by decide+kernel
def zc9{h h':Heap}(k: ∀b o,h.get? b=some o->h'.get? b=some o): ∀{x:Key⊕List Key} {v:bc},ItN P w h x v->ItN P w h' x v
 | .inl _,_,q=>q
 | .inr _,_,⟨c,e,o,qv,n,h1,h2⟩=>⟨c,e,o,qv,n,k _ _ h1,h2⟩
def z4U{h h':Heap}(k: ∀b o,h.get? b=some o->h'.get? b=some o)(q:IsN P w h x a):IsN P w h' x a:=by
 obtain⟨o,qv,n,h1,h2,h3,h4⟩:=q
 exact⟨o,qv,n,k _ _ h1,h2,h3,Paired.mapP h4 λ_ _ z=>zc9 k z⟩
def z4u(P:bm)(w:bo)(h:Heap)(x:NK×Addr×bc)(v:bc):Prop:= ∃t o n,v= .ref t/\h.get? t=some o/\o.cls= .type "tuple" /\o.data= .seq #[.ref x.2.1,x.2.2] n/\IsN P w h x.1 x.2.1
def z7d{h h':Heap}(k: ∀b o,h.get? b=some o->h'.get? b=some o)(q:z4u P w h x v):z4u P w h' x v:=by
 obtain⟨t,o,n,e,h1,h2,h3,h4⟩:=q
 exact⟨t,o,n,e,k _ _ h1,h2,h3,z4U k h4⟩
def z4v{h h':Heap}{h₀:Heap}(dd:h.DictOfH (U7 P w) D xs)(e:h'.get? D=h.get? D)(all: ∀x∈xs,IsN P w h' x.1 x.2.1):h'.DictOfH (U7 P w) D xs:=by
 obtain⟨o,es,ep,ho,hc,hd,he,_,hn⟩:=dd
 exact⟨o,es,ep,e.trans ho,hc,hd,he,all,hn⟩
def z4w(p:bx (z4u P w h) xs vs): ∀x∈xs,IsN P w h x.1 x.2.1:=by
 induction p with
 |nil=>intro x hx;cases hx
 |cons a b ih=>
  intro x hx
  rcases m3.mp hx with e|hx
  .obtain⟨t,o,n,_,_,_,_,q⟩:=a
   rw[e];exact q
  .exact ih x hx
theorem z4x{α β:Type}{R:α->β->Prop}: ∀{xs:List α} {ys:List β},bx R xs ys->∀(i:Nat) (y:β),ys[i]? =some y->∃x,xs[i]? =some x/\R x y
 |_,_, .nil,i,y,h=>by simp at h
 |_,_, .cons a _,0,y,h=>by simp at h;subst h;exact⟨_,rfl,a⟩
 |_,_, .cons _ b,i+1,y,h=>by simpa using z4x b i y (by simpa using h)
def zca{xs:List (NK×Addr×bc)}{qv:Array bc}(hu:A.units+2<cLine)(hh:A.handled=none){h₀:Heap}(hDI:D≠I)(hL:L≠I)(hD:L≠D)(hD0:h₀.get? D=none)(hI0:h₀.get? I=none)(hz:xs.length<=qg)(hn:(xs.map (·.1)).Nodup)
 (hp:bx (z4u prog w h₀) xs qv.toList) {R:dX->be->Prop}: ∀k i s z,qv.size -i=k->i<=qv.size->s.heap.IsListIter I L i->s.heap.IsList L qv->s.heap.DictOfH (U7 prog w) D (xs.take i)->
  (∀b o,h₀.get? b=some o->s.heap.get? b=some o)->
  (∀h' tk,h'.DictOfH (U7 prog w) D xs->(∀b o,h₀.get? b=some o->h'.get? b=some o)->R (.ok (.ret .none)) {s with heap:=h',toks:=tk})->
  ca (bj prog w) A (.builtin "dict.update.loop" ⟨[.ref D, .ref I,du z, .none],[]⟩) R s:=by
 have hl:xs.length=qv.size:=by rw[Paired.length hp,Array.length_toList]
 intro k
 induction k with
 |zero=>
  intro i s z hk hi hit hls hdd hkp hR
  have hin:i=qv.size:=by lia
  subst hin
  refine cf z1R ?_
  rw[Around.under_plainId k9 _]
  show bg _ A.in1 (cp (.ref I)>>=_) _ _ s
  refine bb (bY hh hit hls (by simp) λh' he'=> ?_)
  have hk2: ∀b o,h₀.get? b=some o->h'.get? b=some o:=λb o e=>he' b o (λz=>by rw[z,hI0] at e;cases e) (hkp b o e)
  refine bb (bf (bf (hR h' s.toks ?_ hk2)))
  have e1:xs.take qv.size=xs:=t9 ⋯
  rw[e1] at hdd
  obtain⟨o,_,_,ho,_⟩:=id hdd
  exact z4v (h₀:=h₀) hdd ((he' D o hDI ho).trans ho.symm) λx hx=>z4U hk2 (z4w hp x hx)
 |succ k ih=>
  intro i s z hk hi hit hls hdd hkp hR
  have hlt:i<qv.size:=by lia
  refine cf z1R ?_
  rw[Around.under_plainId k9 _]
  show bg _ A.in1 (cp (.ref I)>>=_) _ _ s
  refine bb (bX hit hls (x:=qv[i]) (by simp[hlt]) λh' hit' hs'=> ?_)
  have hk2: ∀b o,h₀.get? b=some o->h'.get? b=some o:=λb o e=>(hs'.2 b (λz=>by rw[z,hI0] at e;cases e)).trans (hkp b o e)
  obtain⟨x,hx,hpa⟩:=z4x hp i qv[i] (by simp[hlt])
  obtain⟨y,b,v⟩:=x
  obtain⟨t,o,n,et,ho,hc,hd,hy⟩:=z7d hk2 hpa
  have hT:({s with heap:=h'}:be).TypeIs (.ref t) "tuple" :=⟨o,ho,hc⟩
  have dd1:h'.DictOfH (U7 prog w) D (xs.take i):=z4v (h₀:=h₀) hdd (hs'.2 D hDI) λx hx=>z4U hk2 (z4w hp x (F8 hx))
  rw[et]
  show bg _ A.in1 (cM [Value.ref t] ((Builtin.Dict.pairItems (.ref t)).tryCatch _>>=_)>>=_) _ _ _
  refine bb (bp (bb (wpAny_tryCatch ?_)))
  unfold Builtin.Dict.pairItems
  refine bb (cj hT ?_)
  rw[qy (by decide)]
  refine bb (wpAny_seqItems ho hd ?_)
  refine bf ?_
  show bg _ A.in1 (cM [Value.ref b,v] (dictSet D (.ref b) v)) _ _ _
  refine bp ?_
  refine da (knd:=U7 prog w) (hsz:=by rw[A5];lia) (show A.in1.units+1<cLine by rw[PySem.Around.in1_units];lia) hy dd1 λh2 dd2 hs2=> ?_
  refine bf ⟨cW k9 _, ?_⟩
  have hk3: ∀b o,h₀.get? b=some o->h2.get? b=some o:=λb o e=>(hs2.2 b (λz=>by rw[z,hD0] at e;cases e)).trans (hk2 b o e)
  refine ih (i+1) _ (z+1) ⋯ hlt ?_ ?_ ?_ hk3 λh3 tk d3 k3=>hR h3 tk d3 k3
  .obtain⟨o1,h1,r1⟩:=hit'
   exact⟨o1,(hs2.2 I hDI.symm).trans h1,r1⟩
  .obtain⟨o1,h1,r1⟩:=hls
   exact⟨o1,(hs2.2 L hD).trans ((hs'.2 L hL).trans h1),r1⟩
  .have e1:xs.take (i+1)=xs.take i++[(y,b,v)]:=by rw[A6,hx];rfl
   have e2:dk (xs.take i) y=none:=by
    refine atKey_none_of_get λj p e=> ?_
    have hj:j<i:=by
     rcases P7 j i with q|q
     .exact q
     .rw[List.getElem?_eq_none_iff.mpr (by rw[A5];lia)] at e;cases e
    rw[List.getElem?_take_of_lt hj] at e
    exact absurd (idxH_unique hn e hx) ⋯
   rw[e1,<-storedH_new e2]
   exact dd2
def z4k{L:Addr}{c:Nat}{sl:Array (Option bc)}{xs:List (NK×Addr×bc)}{qv:Array bc}{Q:bc->be->Prop}(hu:A.units+32<cLine)(hh:A.handled=none)(hz:xs.length<=qg)(hn:(xs.map (·.1)).Nodup)
 (hL:s.heap.get? L=some {cls:= .type "list",dict:=none,data:= .seq qv c,slots:=sl}) (hp:bx (z4u prog w s.heap) xs qv.toList)
 (h: ∀h' tk,h'.DictOfH (U7 prog w) s.heap.objs.size xs->(∀b o,s.heap.get? b=some o->h'.get? b=some o)->Q (.ref s.heap.objs.size) {s with heap:=h',toks:=tk}):
 bg (bj prog w) A (call (.type "dict") [.ref L]) Q E s:=by
 refine callType_codes (Q₁:=λobj s₁=>obj= .ref s.heap.objs.size/\s₁={s with heap:=s.heap.push {cls:= .type "dict",data:= .dict #[]}}) F.kt_called_dict (F.kt_typeCall_dict_1 _) F.entry_dict_init (kt_code_dict_new _ ⟨rfl,rfl⟩) ?_
 rintro obj s₁ ⟨rfl,rfl⟩
 have hk1: ∀b o,s.heap.get? b=some o->(s.heap.push {cls:= .type "dict",data:= .dict #[]}).get? b=some o:=λb o e=>Heap.get?_push_of_some _ e
 have hD:(s.heap.push {cls:= .type "dict",data:= .dict #[]}).get? s.heap.objs.size=some {cls:= .type "dict",data:= .dict #[]}:=Heap.get?_push_size _ rfl
 have hT:({s with heap:=s.heap.push {cls:= .type "dict",data:= .dict #[]}}:be).TypeIs (.ref s.heap.objs.size) "dict" :=⟨_,hD,rfl⟩
 refine⟨hT,PySem.F.args_dict_init_2 _ _, ?_⟩
 delta Builtin.«dict.__init__»
 refine bb ?_
 delta Builtin.Dict.selfAndRest
 refine bb (cG hT ?_)
 show bg _ _ (pure (s.heap.objs.size,[Value.ref L])) _ _ _
 refine bf ?_
 show bg _ _ (Builtin.Dict.updateFrom "dict.__init__" s.heap.objs.size (.ref L) [] .none) _ _ _
 delta Builtin.Dict.updateFrom
 refine bb (cj (T:= "list") ⟨_,hk1 _ _ hL,rfl⟩ ?_)
 rw[qy (by decide)]
 refine bb (zc8 (hk1 _ _ hL) hh λh2 tk2 hk2=> ?_)
 rw[qy (show(none:Option bc).isNone=true from rfl)]
 refine bb (dF ?_)
 have hL2:h2.IsList L qv:=⟨_,hk2 _ _ (hk1 _ _ hL),rfl,_,rfl⟩
 refine bb (bS hL2 ?_)
 refine bf ⟨cW k9 _, ?_⟩
 have hD2:h2.get? s.heap.objs.size=some {cls:= .type "dict",data:= .dict #[]}:=hk2 _ _ hD
 have lt2:s.heap.objs.size<h2.objs.size:=Heap.lt_size hD2
 have ltL:L<s.heap.objs.size:=Heap.lt_size hL
 have i0:s.heap.get? h2.objs.size=none:=Heap.get?_none_of_le (L9 lt2)
 refine zca (h₀:=s.heap) (xs:=xs) (qv:=qv) (D:=s.heap.objs.size) (L:=L) (I:=h2.objs.size) (A:=A.in1) (by rw[PySem.Around.in1_units];lia) hh (B3 lt2) (B3 (u06 ltL lt2)) (B3 ltL) (Heap.get?_none_of_le (i6 _)) i0 hz hn hp qv.size 0 _ 0 rfl (B9 _) ?_ ?_ ?_ ?_ ?_
 .exact⟨_,Heap.get?_push_size _ rfl,rfl,rfl⟩
 .exact⟨_,Heap.get?_push_of_some _ (hk2 _ _ (hk1 _ _ hL)),rfl,_,rfl⟩
 .exact⟨_,_,_,Heap.get?_push_of_some _ hD2,⟨rfl,rfl,rfl⟩,rfl,rfl,(λx hx=>nomatch hx),N6⟩
 .exact λb o e=>Heap.get?_push_of_some _ (hk2 _ _ (hk1 _ _ e))
 .exact λh' tk d k=>⟨rfl,h h' tk d k⟩
theorem mkP(ok:HOk P w H h): ∀{kvs:List (NK×V)} {vs:List V} {its:List bc},bx (λ(p:NK×V) (v:V)=> ∃t b,v= .ref t/\H t=some (.tup [.ref b,p.2])/\TK H p.1 b) kvs vs->U5 vs its->
 ∃xs,KT H kvs xs/\bx (z4u P w h) xs its/\xs.map (·.1)=kvs.map (·.1)
 |_,_,_, .nil, .nil=>⟨[], .nil, .nil,rfl⟩
 |p::_,_,_, .cons a b, .cons c d=>by
  obtain⟨xs,h1,h2,h3⟩:=mkP ok b d
  obtain⟨t,b,rfl,ht,hk⟩:=a
  cases c
  obtain⟨_,its2,r2,o,o1,o2,n,o3⟩:=(show K3 P w H h t (.tup _) from ok t _ ht)
  cases r2 with
  |cons ra rb=>
   cases ra
   cases rb with
   |cons rc rd=>
    cases rd
    exact⟨(p.1,b,_)::xs, .cons ⟨rfl,hk,rc⟩ h1, .cons ⟨t,o,n,rfl,o1,o2,o3,z3r ok hk⟩ h2,by rw[i7,i7,h3]⟩
def zdp(xs:List V)(H:Hp)(Q:VK):Prop:= ∃(a:Addr) (kvs:List (NK×V)) (vs:List V),xs=[.ref a]/\Rd H a (.lst vs)/\bx (λ(p:NK×V) (v:V)=> ∃t b,v= .ref t/\H t=some (.tup [.ref b,p.2])/\TK H p.1 b) kvs vs/\(kvs.map (·.1)).Nodup/\
 ∀l,H l=none->Q (.ref l) (upd H l (.dT kvs))
def z8U(hu:X.A.units+32<cLine)(hh:X.A.handled=none):CallR X (.type "dict") zdp:=by
 intro qx s σ H xs us Q I r h
 obtain⟨a,kvs,vs,rfl,hd,p,nd,q⟩:=h
 obtain⟨u,rfl,rx⟩:=z4g r
 cases rx
 obtain⟨z,its,c,rv,ho⟩:=(show K3 X.prog X.w H s.heap a (.lst vs) from zeq I.hok hd)
 obtain⟨ps,rk,pa,ek⟩:=mkP I.hok p rv
 have hl:kvs.length=vs.length:=Paired.length p
 have hl2:kvs.length=ps.length:=Paired.length rk
 refine z4k hu hh ⋯ (by rw[ek];exact nd) ho pa λh' tk dd hk=> ?_
 obtain⟨o,es,ep,h1,h2,h3,h4,_,h5⟩:=dd
 have hn:=I.hok.fresh (i6 s.heap.objs.size)
 exact⟨.ref s.heap.objs.size,_,I.laid (t':=tk) hk (i6 _) (show K3 X.prog X.w _ h' _ (.dT kvs) from⟨⋯,beq_eq_false_iff_ne.mpr (Ne.symm (B3 I.big)),ps,rk.keeps (λb ys e=>by rw[Z5 (U4 e hn)];exact e),o,es,ep,h1,h2,h3,h4,h5⟩),rfl,q _ hn⟩
variable{tg iter:bi}{ifs:List bi}{pos:bO}{scope:Scope}{own qj:List Str}{ix:List Nat}{wi:TI}{g:TG}
structure Blk(X Y:Cx)(qx:List (Addr×bE))(σ:St)(tg:bi)(J:It)(fp:List Addr)(it C:Addr)(tn:Nat->Heap->Prop)(σ0:St)(H0:Hp)(s0:be):Prop where
 calm:Y.calm=true
 xe:Y.xe=λ_ _=>False
 turn:zg8 Y.prog Y.w Y.K tg J fp it tn
 fps: ∀H',(∀b∈fp,H' b=none)->∀b∈fp,z9D Y [] H' b
 inv:Inv Y [] σ0 H0 s0
 st:tn 0 s0.heap
 fr: ∀b∈fp,H0 b=none
 fin: ∀σ' H' s' h',Inv Y [] σ' H' s'->Heap.SameBut C s'.heap h'->Inv X qx σ H' {s' with heap:=h'}
 loc: ∀σ' H' s',Inv Y [] σ' H' s'->(∃m,s'.heap.Ns C m)/\z9D X qx H' C
def z64{ce:bi}{use:Option (bc->fb Unit)}{QV:bc->be->Prop}{newAcc:fb bc}{u:HO}{no:bE}{Z:Addr->It->Hp->Prop}{qx:List (Addr×bE)}{s:be}{σ:St}{H:Hp}
 (hc:X.calm=true) (S:z0P X.env.scope scope own qj X.N ix) (hi:PI X tg iter wi) (hs: ∀x,br iter X.env x=pure x) (hcl:clausesOf ce=[⟨tg,iter,ifs,0⟩])
 (hnew: ∀Q s,Q (.ref s.heap.objs.size) {s with heap:=s.heap.push no}->bg (bj X.prog X.w) X.A newAcc Q X.xe s)
 (hnI: ∀H s,Inv X qx σ H s->Inv X qx σ (upd H s.heap.objs.size u) {s with heap:=s.heap.push no})
 (hst: ∀{R s it acc env},ca (bj X.prog X.w) X.A (.compLoop ce 0 it acc env) R s->bg (bj X.prog X.w) X.A (dW it) (λit' s'=>ca (bj X.prog X.w) X.A (.compLoop ce 0 it' acc env) R s') (notedBy (bj X.prog X.w) X.A env λx s'=>R (.error x) s') s->ca (bj X.prog X.w) X.A (.compStart ce 0 it acc env) R s)
 (I:Inv X qx σ H s) (h:wi σ H λJ H1=> ∀D,H1 D=none->(∀a o,X.K.lookup a=some o->upd H1 D u a=none)->Z D J H1)
 (hloop: ∀cl C s₀ H₀ fp pn it tn J H2 D s4,Z D J H2->Blk X (U6 X scope own qj cl C s₀ H₀ fp pn) qx σ tg J fp it C tn (z2g own.length ix σ) (upd H2 D u) s4->
  ca (bj X.prog X.w) X.A (.compLoop ce 0 (.ref it) (.ref D) (compEnvC scope cl C X.env)) (compPost (bj X.prog X.w) X.A X.xe use QV (.ref D) C) s4):
 bg (bj X.prog X.w) X.A (comprehension ce scope X.env pos newAcc false (bC iter X.env) use) QV X.xe s:=by
 have hclos:closureFor scope X.env=pure (z3t X.env scope.names []):=z4S λy hy e=>I.ok.has y.1 (S.fr y hy e)
 refine wpAny_comprehension_free hcl hs hclos S.kind S.names (thn (hi qx s σ H _ I h) λv s1 h1=>thn h1 λitv s2 h2=> ?_)
 obtain⟨it,fp,tn,J,H2,e,I2,T,st2,f2,hD⟩:=h2
 subst e
 refine hnew _ _ ?_
 have I3:=hnI _ _ I2
 have z:=hD _ I2.fresh λa o e=>(I3.bs a o (I3.ok.mod.kin a o e)).2
 have fpl: ∀b∈fp,b<s2.heap.objs.size:=λb z=>by
  obtain⟨o,q,_⟩:=T.obj _ _ st2 b z
  exact Heap.lt_size q
 generalize hs3:({s2 with heap:=s2.heap.push no}:be)=s3 at I3
 have hpush: ∀b o,s2.heap.get? b=some o->s3.heap.get? b=some o:=λb o q=>by rw[<-hs3];exact Heap.get?_push_of_some _ q
 have hsz3:s2.heap.objs.size<s3.heap.objs.size:=by rw[<-hs3];show _<(s2.heap.push _).objs.size;rw[Heap.size_push];exact B2 _
 have f3: ∀b∈fp,z9D X qx (upd H2 s2.heap.objs.size u) b:=λb z=>⟨by rw[Z5 (B3 (fpl b z))];exact(f2 b z).1,(f2 b z).2⟩
 have st3:tn 0 s3.heap:=T.keep _ _ _ st2 λb _ o q=>hpush b o q
 generalize s2.heap.objs.size=D at*
 refine z0H (λh1 hns keep4 hcl=> ?_)
 have fpl3: ∀b∈fp,b<s3.heap.objs.size:=λb z=>u06 (fpl b z) hsz3
 have I4:=z7b (s1:={s3 with heap:=h1}) S I3 f3 fpl3 rfl rfl keep4 hns hcl
 have st4:tn 0 h1:=T.keep _ _ _ st3 λb _ o q=>keep4 b o q
 have loop:=hloop _ _ _ _ _ _ it tn J H2 D _ z ⟨hc,rfl,T,λH' hn b hb=>by
  obtain⟨g1,g2,g3,g4,g5,g6⟩:=f3 b hb
  refine⟨hn b hb,B3 (fpl3 b hb),λq=> ?_, .inl hb,λx c e=> ?_,λp hp=> ?_⟩
  .rcases m3.mp (I3.stkSub b q) with r|r
   .exact g2 r
   .exact g3 r
  .have e:(z0z X scope (s3.heap.objs.size+1)).lookup x=some c:=e
   rcases z0b e with q|⟨_,q⟩
   .exact P6 (A2 (fpl3 b hb) (F7 (hcl.empty x c (PySem.mem_of_lookup q)).2))
   .rcases z4T _ _ q with q|q
    .exact nomatch q
    .exact g5 x c q.1
  .have hp:p∈(X.pn++qx)++[]:=hp
   rw[l7] at hp
   exact g6 p hp,I4,st4,λb hb=>(f3 b hb).1,λ σ' H' s' h' J' q=>zc6 I3 f3 (i6 _) J'.ofC q,λ σ' H' s' J'=>⟨J'.loc.imp λ_ q=>q.1,I3.fpOk (i6 _) J'.free⟩⟩
 exact hst loop (T.self _ 0 _ _ _ st4 loop)
def Blk.out{tn:Nat->Heap->Prop}(B:Blk X Y qx σ tg J fp it C tn σ0 H0 s0)(I:Inv Y [] σ' H' s')(q:Q (.ref D) H'):
 compPost (bj X.prog X.w) X.A X.xe none (EP X qx σ Q) (.ref D) C (.ok .next) s':=by
 obtain⟨⟨m,n⟩,_⟩:=B.loc _ _ _ I
 exact⟨m,n,λh'' hs''=>⟨.ref D,H',B.fin _ _ _ _ I hs'',rfl,q⟩⟩
def Blk.put{y:Str}{py:bO}{i:Nat}{it C D:Addr}{tn:Nat->Heap->Prop}{Dd:Ends}(B:Blk X Y qx σ tg J fp it C tn σ0 H0 s0)(I:Inv Y [] σ' H' s')
 (hN:X.N.Nodup) (hy:X.N[i]? =some y) (hx:Loc X.env.scope y) (hfn:X.fn y=true\/X.env.scope.names.lookup y=some .local) (q:Dd.nx (σ.set i (some (.ref D))) H'):
 compPost (bj X.prog X.w) X.A X.xe (some (cc (.Name y py) X.env)) (λ_ s'=>SP X qx Dd .next s') (.ref D) C (.ok .next) s':=by
 obtain⟨⟨m6,n6⟩,fC⟩:=B.loc _ _ _ I
 obtain⟨oC,eC,dC⟩: ∃o,s'.heap.get? C=some o/\∀v,o.data≠ .cell v:=by
  obtain⟨o,es,ep,e1,e2,e3⟩:=n6
  exact⟨o,e1,λv z=>by simp_all⟩
 have I8:=(B.fin _ _ _ s'.heap I (Heap.SameBut.refl _ _)).pinned (fp:=[C]) (λb hb=>by rw[m4.mp hb];exact fC) (λb hb=>by rw[m4.mp hb];exact⟨oC,eC,dC⟩)
 show bg _ _ (cc (.Name y py) X.env (.ref D)) _ _ s'
 refine df (z3e (v:= .ref D) I8 hN hy hx rfl (λs7 I9=> ?_) hfn)
 have e7:s7.heap.get? C=some oC:=(I9.pin (C,oC) (i4 _ (i4 _ (z0N (by simp) eC)))).1
 refine⟨m6,n6.at' λo e=>by rw[eC] at e;cases e;exact e7,λh3 hs3=>⟨_,H', ?_,q⟩⟩
 exact I9.unpinned.turned (t':=s7.toks) (λb o hb e=>(hs3.2 b hb).trans e) fC.1 fC.2.1 fC.2.2.2.1 fC.2.2.2.2.1 fC.2.2.2.2.2
def Blk.item{J:It}{tn:Nat->Heap->Prop}{s0 s':be}{i:Nat}{gz:V->Hp->St->Hp->Prop}(B:Blk X Y qx σ tg J fp it C tn σ0 H0 s0)(gY:PG Y tg g)(I:Inv Y [] σ' H' s')(st:tn i s'.heap)(fr: ∀b∈fp,H' b=none)(go:J.go i H')
 {R:Option bc->be->Prop} {F:be->Prop} (step: ∀x H2,J.yld i H' x H2->g x σ' H2 λ σ2 H3=>gz x H2 σ2 H3) (hR: ∀v s1,bg (bj Y.prog Y.w) Y.A (bV tg (.ref it) v) (λ_ s2=>bg (bj Y.prog Y.w) Y.A (cc tg Y.env v) (λ_ s3=>F s3) (λ_ _=>False) s2) (λ_ _=>False) s1->R (some v) s1)
 (hF: ∀x H2 σ2 H3 s3 ps,Inv Y ps σ2 H3 s3->gz x H2 σ2 H3->(∀σ4 H4 s4,Inv Y ps σ4 H4 s4->Inv Y [] σ4 H4 s4/\tn (i+1) s4.heap/\∀b∈fp,H4 b=none)->F s3):bg (bj Y.prog Y.w) Y.A (cp (.ref it)) R (λ_ _=>False) s':=by
 have T:=B.turn
 refine thn (T.item Y rfl rfl rfl B.calm i [] s' σ' H' (λ_ _=>False) I (B.fps _ fr) st go) ?_
 rintro r s6 ⟨u,hr,h6⟩
 subst hr
 refine hR _ _ (thn h6 ?_)
 rintro _ s7 ⟨x,H7,I7,r7,y7,st7,fr7⟩
 have e1:=gY _ s7 σ' H7 x u _ (I7.pinned (B.fps _ fr7) (T.obj _ _ st7)) r7 (step x H7 y7)
 rw[B.xe] at e1
 refine thn e1 λ_ s8 ⟨σ8,H8,I8,q8⟩=>hF x H7 σ8 H8 s8 _ I8 q8 λ σ4 H4 s4 I4=>⟨I4.unpinned,T.keep _ _ _ st7 λb hb o e=> ?_,λb hb=> ?_⟩
 .exact(I4.pin (b,o) (i4 _ (i4 _ (z0N hb e)))).1
 .obtain⟨o,e,d⟩:=T.obj _ _ st7 b hb
  exact(I4.pin (b,o) (i4 _ (i4 _ (z0N hb e)))).2.1
def Blk.done{J:It}{tn:Nat->Heap->Prop}{s0 s':be}{i:Nat}{R:Option bc->be->Prop}(B:Blk X Y qx σ tg J fp it C tn σ0 H0 s0)(I:Inv Y [] σ' H' s')(st:tn i s'.heap)(fr: ∀b∈fp,H' b=none)(stop:J.stop i H')(h: ∀s6,Inv Y [] σ' H' s6->R none s6):
 bg (bj Y.prog Y.w) Y.A (cp (.ref it)) R (λ_ _=>False) s':=by
 refine thn (B.turn.done Y rfl rfl rfl B.calm i [] s' σ' H' (λ_ _=>False) I (B.fps _ fr) st stop) ?_
 rintro r s6 ⟨hr,I6⟩
 subst hr
 exact h _ I6
section
variable{elt:bi}{tt:TT}{te:TE}
def z65{it C D:Addr}{tn:Nat->Heap->Prop}{R:dX->be->Prop}{Qn:Hp->Prop}(B:Blk X Y qx σ tg J fp it C tn σ0 H0 s0)(gY:PG Y tg g)(sY:PTs Y ifs tt)(tY:PE Y elt te)
 (h: ∃W:Nat->Nat->List V->St->Hp->Prop,(∃m,W 0 m [] σ0 H0)/\
  ∀i m ys σ' H',W i m ys σ' H'->H' D=some (.lst ys)/\((J.stop i H'/\Qn H')\/
  (J.go i H'/\∀x H2,J.yld i H' x H2->g x σ' H2 λ σ2 H3=>tt σ2 H3 λok H3=>if ok=true then te σ2 H3 λy H4=>H4 D=some (.lst ys)/\ys.length<qg/\∃m',m'<m/\W (i+1) m' (ys++[y]) σ2 (upd H4 D (.lst (ys++[y])))
   else ∃m',m'<m/\W (i+1) m' ys σ2 H3)))
 (hR: ∀σ' H' s',Inv Y [] σ' H' s'->Qn H'->R (.ok .next) s'):ca (bj Y.prog Y.w) Y.A (.compLoop (.ListComp elt [⟨tg,iter,ifs,0⟩] scope pos) 0 (.ref it) (.ref D) Y.env) R s0:=by
 obtain⟨W,⟨m0,w0⟩,turn⟩:=h
 refine z1L (λn s'=> ∃i ys σ' H',Inv Y [] σ' H' s'/\tn i s'.heap/\(∀b∈fp,H' b=none)/\W i n ys σ' H') ?_ m0 ⟨0,[],_,_,B.inv,B.st,B.fr,w0⟩
 rintro n s5 ⟨i,ys,σ5,H5,I5,st5,fr5,w5⟩
 obtain⟨hD5,alt⟩:=turn i n ys σ5 H5 w5
 rcases alt with⟨stop,qn⟩|⟨go,step⟩
 .exact B.done I5 st5 fr5 stop λs6 I6=>hR _ _ _ I6 qn
 .refine B.item gY I5 st5 fr5 go step (λv s1 h=>h) λx H2 σ8 H8 s8 ps I8 q8 back=> ?_
  have e1':=sY _ s8 σ8 H8 _ I8 q8
  rw[B.xe] at e1'
  refine thn e1' ?_
  rintro ok s8 ⟨H8,I8,q8⟩
  cases ok with
  |false=>
   rw[qh C6] at q8⊢
   obtain⟨m',hm',w9⟩:=q8
   obtain⟨b1,b2,b3⟩:=back _ _ _ I8
   exact⟨m',hm',i+1,_,σ8,_,b1,b2,b3,w9⟩
  |true=>
   rw[qy rfl] at q8⊢
   have e2:=tY _ s8 σ8 H8 _ I8 q8
   rw[B.xe] at e2
   refine thn e2 ?_
   rintro yv s9 ⟨y,H9,I9,r9,hD9,hz9,m',hm',w9⟩
   have e3:=z5X (X:=Y) _ s9 σ8 H9 (.ref D) [y] (.ref D) [yv] (λv H'=>v= .non/\H'=upd H9 D (.lst (ys++[y]))) I9 rfl (.cons r9 .nil) ⟨D,ys,y,rfl,rfl,hD9,hz9,rfl,rfl⟩
   rw[B.xe] at e3
   refine thn e3 ?_
   rintro _ s10 ⟨v10,H10,I10,r10,_,e10⟩
   subst e10
   obtain⟨b1,b2,b3⟩:=back _ _ _ I10
   exact⟨m',hm',i+1,_,σ8,_,b1,b2,b3,w9⟩
def zdq(hc:X.calm=true)(S:z0P X.env.scope scope own qj X.N ix)(hi:PI X tg iter wi)
 (hg: ∀cl C s₀ H₀ fp pn,PG (U6 X scope own qj cl C s₀ H₀ fp pn) tg g) (ht: ∀cl C s₀ H₀ fp pn,PTs (U6 X scope own qj cl C s₀ H₀ fp pn) ifs tt) (he: ∀cl C s₀ H₀ fp pn,PE (U6 X scope own qj cl C s₀ H₀ fp pn) elt te)
 (hs: ∀x,br iter X.env x=pure x:=by intro _;rfl):
 PE X (.ListComp elt [⟨tg,iter,ifs,0⟩] scope pos) (z81 X.K wi g tt te own.length ix):=by
 intro qx s σ H Q I h
 rw[eval_ListComp]
 exact z64 (u:= .lst []) (no:={cls:= .type "list",data:= .seq ([]:List bc).toArray}) hc S hi hs rfl (λQ s h=>bt h) (λH s I=>I.lnew (t':=s.toks) .nil (B9 _)) (λh0 h=>cE h0 h) I h
  λcl C s₀ H₀ fp pn it tn J H2 D s4 z B=>z65 B (hg _ _ _ _ _ _) (ht _ _ _ _ _ _) (he _ _ _ _ _ _) z λ σ' H' s' I' q=>B.out I' q
def zh8{py spos:bO}{i:Nat}(hN:X.N.Nodup)(hy:X.N[i]? =some y)(hx:Loc X.env.scope y)(hfn:X.fn y=true\/X.env.scope.names.lookup y=some .local)(hsw:bQ (.ListComp elt [⟨tg,iter,ifs,0⟩] scope pos) (some (.Name y py)) spos.line X.env=pure true)(hc:X.calm=true)(S:z0P X.env.scope scope own qj X.N ix)(hi:PI X tg iter wi)
 (hg: ∀cl C s₀ H₀ fp pn,PG (U6 X scope own qj cl C s₀ H₀ fp pn) tg g) (ht: ∀cl C s₀ H₀ fp pn,PTs (U6 X scope own qj cl C s₀ H₀ fp pn) ifs tt) (he: ∀cl C s₀ H₀ fp pn,PE (U6 X scope own qj cl C s₀ H₀ fp pn) elt te)
 (hs: ∀x,br iter X.env x=pure x:=by intro _;rfl):
 PS X (.Assign [.Name y py] (.ListComp elt [⟨tg,iter,ifs,0⟩] scope pos) spos) (λDd σ H=>z81 X.K wi g tt te own.length ix σ H λv H'=>Dd.nx (σ.set i (some v)) H'):=by
 intro qx s σ H Dd I h
 rw[exec_Assign_Name_used _ _ _ _ hsw]
 refine bb (bZ (bb ?_))
 show bg _ X.A (do let _<-comprehension (.ListComp elt [⟨tg,iter,ifs,0⟩] scope pos) scope X.env _ (newList []) false (bC iter X.env) (some (cc (.Name y py) X.env))) _ _ s
 refine bb (bA (z64 (QV:=λ_ s'=>SP X qx Dd .next s') (u:= .lst []) (no:={cls:= .type "list",data:= .seq ([]:List bc).toArray}) hc S hi hs rfl (λQ s h=>bt h) (λH s I=>I.lnew (t':=s.toks) .nil (B9 _)) (λh0 h=>cE h0 h) I h
  λcl C s₀ H₀ fp pn it tn J H2 D s4 z B=>z65 B (hg _ _ _ _ _ _) (ht _ _ _ _ _ _) (he _ _ _ _ _ _) z λ σ' H' s' I' q=>B.put I' hN hy hx hfn q) (λ_ s' hq=>bf (bf hq)) λ_ _ e=>e)
end
end
end L2
namespace Mi
open PySem L2
inductive D where
 |non|bool (b:Bool)|int (i:Int)|str (x:Str)
 |tup (ds:List D)|ro (ds:List D)|lst (l:Nat) (ds:List D)
 |dct (l:Nat) (ks vs:List D)|obj (l:Nat) (c:Str) (ns:List Str) (vs:List D)
 |exc (c:Str)|fn (c:Str)|fdc (ks vs:List D)
deriving Inhabited
mutual
def labs:D->List Nat
 | .tup ds=>qq ds
 | .ro ds=>qq ds
 | .fdc _ vs=>qq vs
 | .lst l ds=>l::qq ds
 | .dct l ks vs=>l::(qq ks++qq vs)
 | .obj l _ _ vs=>l::qq vs
 | .non=>[]| .bool _=>[]| .int _=>[]| .str _=>[]| .exc _=>[]| .fn _=>[]
def qq:List D->List Nat
 |[]=>[]
 |d::ds=>labs d++qq ds
end
abbrev Qq:=List (Option D)
def Y0:Qq->List Nat
 |[]=>[]
 |none::r=>Y0 r
 |some d::r=>labs d++Y0 r
structure Gx where
 K:W.Frag
 cl:Str->Option Addr
 ci: ∀c c' a,cl c=some a->cl c'=some a->c=c'
 ck: ∀c a,cl c=some a->∃o,K.lookup a=some o/\∀its n,o.data≠ .seq its n
def z1M:Key->D
 | .inl i=> .int i
 | .inr x=> .str x
def nkD:Key⊕List Key->D
 | .inl k=>z1M k
 | .inr ks=> .tup (ks.map z1M)
def dkD(k:NK):D:= .tup (k.map nkD)
def FzD(u:HO)(ks:List D)(xs:List V):Prop:=(∃kvs:List (Key×V),u= .dK kvs/\ks= .non::kvs.map (λp=>z1M p.1)/\xs=kvs.map (·.2))\/∃kvs:List (NK×V),u= .dT kvs/\ks=kvs.map (λp=>dkD p.1)/\xs=kvs.map (·.2)
def FzD.one(h:FzD u ks xs)(h':FzD u ks' xs'):ks=ks'/\xs=xs':=by
 obtain⟨a,e,k,x⟩|⟨a,e,k,x⟩:=h<;>obtain⟨b,e',k',x'⟩|⟨b,e',k',x'⟩:=h'
 .rw[e] at e';cases e';exact⟨k.trans k'.symm,x.trans x'.symm⟩
 .rw[e] at e';cases e'
 .rw[e] at e';cases e'
 .rw[e] at e';cases e';exact⟨k.trans k'.symm,x.trans x'.symm⟩
def RoL(K:W.Frag)(H:Hp)(a:Addr)(xs:List V):Prop:=
 (∃o,H a=some (.frz o (.lst xs)))\/∃(o:bE) (its:Array bc) (n:Nat),K.lookup a=some o/\o.cls= .type "list" /\o.dict=none/\o.data= .seq its n/\its.size<=qg/\U5 xs its.toList
def RoL.sq(h:RoL K H a xs):SqL K H a xs:=by
 rcases h with⟨o,h⟩|h
 .exact .inl (.inr ⟨o,h⟩)
 .exact .inr h
mutual
def RD(G:Gx)(ρ:Nat->Addr)(H:Hp):D->V->Prop
 | .non,v=>v= .non
 | .bool b,v=>v= .bl b
 | .int i,v=>v= .int i
 | .str x,v=>v= .str x
 | .exc c,v=> ∃a o C,v= .ref a/\G.cl c=some C/\o.cls= .ref C/\(∃vs,o.data= .fields vs)/\H a=some (.frz o (.ext λ_=>True))
 | .fn c,v=> ∃a,v= .ref a/\G.cl c=some a
 | .tup ds,v=> ∃a xs,v= .ref a/\H a=some (.tup xs)/\RDs G ρ H ds xs
 | .ro ds,v=> ∃a xs,v= .ref a/\RoL G.K H a xs/\RDs G ρ H ds xs
 | .fdc ks vs,v=> ∃(a:Addr) (o:bE) (u:HO) (xs:List V),v= .ref a/\H a=some (.frz o u)/\FzD u ks xs/\RDs G ρ H vs xs
 | .lst l ds,v=>v= .ref (ρ l)/\∃xs,H (ρ l)=some (.lst xs)/\RDs G ρ H ds xs
 | .dct l ks vs,v=>v= .ref (ρ l)/\((∃kvs:List (Key×V),H (ρ l)=some (.dK kvs)/\ks=D.non::kvs.map (λp=>z1M p.1)/\RDs G ρ H vs (kvs.map (·.2)))\/
  (∃kvs:List (NK×V),H (ρ l)=some (.dT kvs)/\ks=kvs.map (λp=>dkD p.1)/\RDs G ρ H vs (kvs.map (·.2))))
 | .obj l c ns vs,v=>v= .ref (ρ l)/\∃C dx fs,G.cl c=some C/\H (ρ l)=some (.ins C dx fs)/\ns=fs.map (·.1)/\RDs G ρ H vs (fs.map (·.2))
def RDs(G:Gx)(ρ:Nat->Addr)(H:Hp):List D->List V->Prop
 |[],xs=>xs=[]
 |d::ds,xs=> ∃x r,xs=x::r/\RD G ρ H d x/\RDs G ρ H ds r
end
structure V9(H H':Hp):Prop where
 t: ∀b xs,H b=some (.tup xs)->H' b=some (.tup xs)
 f: ∀b o u,H b=some (.frz o u)->H' b=some (.frz o u)
def V9.refl H:V9 H H:=⟨λ_ _ h=>h,λ_ _ _ h=>h⟩
def V9.of(h:z4i H H'):V9 H H':=⟨λ_ _ e=>h _ _ e,λ_ _ _ e=>h _ _ e⟩
def V9.ro(t:V9 H H')(h:RoL K H a xs):RoL K H' a xs:=by
 rcases h with⟨o,h⟩|h
 .exact .inl ⟨o,t.f _ _ _ h⟩
 .exact .inr h
section
variable{G:Gx}{ρ ρ':Nat->Addr}{H H':Hp}
mutual
theorem RD.stay(ts:V9 H H'): ∀(t:D) (v:V),RD G ρ H t v->(∀l∈labs t,ρ' l=ρ l/\∀o,H (ρ l)=some o->H' (ρ l)=some o)->RD G ρ' H' t v
 | .non,v,h,_=>by erw[RD] at h⊢;exact h
 | .bool b,v,h,_=>by erw[RD] at h⊢;exact h
 | .int b,v,h,_=>by erw[RD] at h⊢;exact h
 | .str b,v,h,_=>by erw[RD] at h⊢;exact h
 | .exc b,v,h,_=>by
  erw[RD] at h⊢
  obtain⟨a,o,C,e,h1,h2,h3,h5⟩:=h
  exact⟨a,o,C,e,h1,h2,h3,ts.f _ _ _ h5⟩
 | .fn b,v,h,_=>by erw[RD] at h⊢;exact h
 | .tup ds,v,h,hl=>by
  erw[RD,labs] at h hl⊢
  obtain⟨a,xs,e,s,r⟩:=h
  exact⟨a,xs,e,ts.t _ _ s,RDs.stay ts ds xs r hl⟩
 | .ro ds,v,h,hl=>by
  erw[RD,labs] at h hl⊢
  obtain⟨a,xs,e,s,r⟩:=h
  exact⟨a,xs,e,ts.ro s,RDs.stay ts ds xs r hl⟩
 | .fdc ks vs,v,h,hl=>by
  erw[RD,labs] at h hl⊢
  obtain⟨a,o,u,xs,e,s,s2,r⟩:=h
  exact⟨a,o,u,xs,e,ts.f _ _ _ s,s2,RDs.stay ts vs _ r hl⟩
 | .lst l ds,v,h,hl=>by
  erw[RD,labs] at h hl⊢
  obtain⟨e,xs,s,r⟩:=h
  obtain⟨e1,e2⟩:=hl l (l6 ..)
  rw[e1]
  exact⟨e,xs,e2 _ s,RDs.stay ts ds xs r λk hk=>hl k (i5 _ hk)⟩
 | .dct l ks vs,v,h,hl=>by
  erw[RD,labs] at h hl⊢
  obtain⟨e,s⟩:=h
  obtain⟨e1,e2⟩:=hl l (l6 ..)
  rw[e1]
  refine⟨e, ?_⟩
  rcases s with⟨kvs,s,s2,r⟩|⟨kvs,s,s2,r⟩
  .exact .inl ⟨kvs,e2 _ s,s2,RDs.stay ts vs _ r λk hk=>hl k (i5 _ (i4 _ hk))⟩
  .exact .inr ⟨kvs,e2 _ s,s2,RDs.stay ts vs _ r λk hk=>hl k (i5 _ (i4 _ hk))⟩
 | .obj l c ns vs,v,h,hl=>by
  erw[RD,labs] at h hl⊢
  obtain⟨e,C,dx,fs,hC,s,s2,r⟩:=h
  obtain⟨e1,e2⟩:=hl l (l6 ..)
  rw[e1]
  exact⟨e,C,dx,fs,hC,e2 _ s,s2,RDs.stay ts vs _ r λk hk=>hl k (i5 _ hk)⟩
theorem RDs.stay(ts:V9 H H'): ∀(t:List D) (v:List V),RDs G ρ H t v->(∀l∈qq t,ρ' l=ρ l/\∀o,H (ρ l)=some o->H' (ρ l)=some o)->RDs G ρ' H' t v
 |[],v,h,_=>by erw[RDs] at h⊢;exact h
 |d::ds,v,h,hl=>by
  erw[RDs,qq] at h hl⊢
  obtain⟨x,r,e,h1,h2⟩:=h
  exact⟨x,r,e,RD.stay ts d x h1 λl hk=>hl l (i8 _ hk),RDs.stay ts ds r h2 λl hk=>hl l (i4 _ hk)⟩
end
end
mutual
def rp(f:Nat->Option D):D->D
 | .tup ds=> .tup (rpL f ds)
 | .ro ds=> .ro (rpL f ds)
 | .fdc ks vs=> .fdc ks (rpL f vs)
 | .lst l ds=>match f l with|some d=>d|none=> .lst l (rpL f ds)
 | .dct l ks vs=>match f l with|some d=>d|none=> .dct l ks (rpL f vs)
 | .obj l c ns vs=>match f l with|some d=>d|none=> .obj l c ns (rpL f vs)
 | .non=> .non| .bool b=> .bool b| .int i=> .int i| .str x=> .str x| .exc x=> .exc x| .fn x=> .fn x
def rpL(f:Nat->Option D):List D->List D
 |[]=>[]
 |d::ds=>rp f d::rpL f ds
end
def rpO(f:Nat->Option D):Qq->Qq
 |[]=>[]
 |none::r=>none::rpO f r
 |some d::r=>some (rp f d)::rpO f r
section
variable{f:Nat->Option D}
mutual
theorem zae: ∀t:D,(∀l∈labs t,f l=none)->rp f t=t
 | .non,_=>rfl
 | .bool b,_=>rfl
 | .int b,_=>rfl
 | .str b,_=>rfl
 | .exc b,_=>rfl
 | .fn b,_=>rfl
 | .tup ds,h=>by erw[rp,labs] at h⊢;rw[rpL_id ds h]
 | .ro ds,h=>by erw[rp,labs] at h⊢;rw[rpL_id ds h]
 | .fdc ks vs,h=>by erw[rp,labs] at h⊢;rw[rpL_id vs h]
 | .lst l ds,h=>by
  erw[rp,labs] at h⊢
  rw[h l (l6 ..),rpL_id ds λk hk=>h k (i5 _ hk)]
 | .dct l ks vs,h=>by
  erw[rp,labs] at h⊢
  rw[h l (l6 ..),rpL_id vs λk hk=>h k (i5 _ (i4 _ hk))]
 | .obj l c ns vs,h=>by
  erw[rp,labs] at h⊢
  rw[h l (l6 ..),rpL_id vs λk hk=>h k (i5 _ hk)]
theorem rpL_id: ∀t:List D,(∀l∈qq t,f l=none)->rpL f t=t
 |[],_=>rfl
 |d::ds,h=>by
  erw[rpL,qq] at h⊢
  rw[zae d λl hk=>h l (i8 _ hk),rpL_id ds λl hk=>h l (i4 _ hk)]
end
theorem zaf: ∀t:Qq,(∀l∈Y0 t,f l=none)->rpO f t=t
 |[],_=>rfl
 |none::r,h=>by erw[rpO,Y0] at h⊢;rw[zaf r h]
 |some d::r,h=>by
  erw[rpO,Y0] at h⊢
  rw[zae d λl hk=>h l (i8 _ hk),zaf r λl hk=>h l (i4 _ hk)]
variable{G:Gx}{ρ ρ':Nat->Addr}{H H':Hp}
mutual
theorem RD.rp(ts:V9 H H'): ∀(t:D) (v:V),RD G ρ H t v->(∀l∈labs t,ρ' l=ρ l/\(match f l with|some d=>RD G ρ' H' d (.ref (ρ l))|none=> ∀o,H (ρ l)=some o->H' (ρ l)=some o))->RD G ρ' H' (rp f t) v
 | .non,v,h,_=>by erw[Mi.rp,RD] at h⊢;exact h
 | .bool b,v,h,_=>by erw[Mi.rp,RD] at h⊢;exact h
 | .int b,v,h,_=>by erw[Mi.rp,RD] at h⊢;exact h
 | .str b,v,h,_=>by erw[Mi.rp,RD] at h⊢;exact h
 | .exc b,v,h,_=>by
  erw[Mi.rp,RD] at h⊢
  obtain⟨a,o,C,e,h1,h2,h3,h5⟩:=h
  exact⟨a,o,C,e,h1,h2,h3,ts.f _ _ _ h5⟩
 | .fn b,v,h,_=>by erw[Mi.rp,RD] at h⊢;exact h
 | .tup ds,v,h,hl=>by
  erw[Mi.rp,RD,labs] at h hl⊢
  obtain⟨a,xs,e,s,r⟩:=h
  exact⟨a,xs,e,ts.t _ _ s,RDs.rp ts ds xs r hl⟩
 | .ro ds,v,h,hl=>by
  erw[Mi.rp,RD,labs] at h hl⊢
  obtain⟨a,xs,e,s,r⟩:=h
  exact⟨a,xs,e,ts.ro s,RDs.rp ts ds xs r hl⟩
 | .fdc ks vs,v,h,hl=>by
  erw[Mi.rp,RD,labs] at h hl⊢
  obtain⟨a,o,u,xs,e,s,s2,r⟩:=h
  exact⟨a,o,u,xs,e,ts.f _ _ _ s,s2,RDs.rp ts vs _ r hl⟩
 | .lst l ds,v,h,hl=>by
  erw[Mi.rp,RD,labs] at h hl⊢
  obtain⟨e,xs,s,r⟩:=h
  obtain⟨e1,e2⟩:=hl l (l6 ..)
  cases ef:f l with
  |some d=>rw[ef] at e2;subst e;exact e2
  |none=>
   rw[ef] at e2
   erw[RD]
   rw[e1]
   exact⟨e,xs,e2 _ s,RDs.rp ts ds xs r λk hk=>hl k (i5 _ hk)⟩
 | .dct l ks vs,v,h,hl=>by
  erw[Mi.rp,RD,labs] at h hl⊢
  obtain⟨e,s⟩:=h
  obtain⟨e1,e2⟩:=hl l (l6 ..)
  cases ef:f l with
  |some d=>rw[ef] at e2;subst e;exact e2
  |none=>
   rw[ef] at e2
   erw[RD]
   rw[e1]
   refine⟨e, ?_⟩
   rcases s with⟨kvs,s,s2,r⟩|⟨kvs,s,s2,r⟩
   .exact .inl ⟨kvs,e2 _ s,s2,RDs.rp ts vs _ r λk hk=>hl k (i5 _ (i4 _ hk))⟩
   .exact .inr ⟨kvs,e2 _ s,s2,RDs.rp ts vs _ r λk hk=>hl k (i5 _ (i4 _ hk))⟩
 | .obj l c ns vs,v,h,hl=>by
  erw[Mi.rp,RD,labs] at h hl⊢
  obtain⟨e,C,dx,fs,hC,s,s2,r⟩:=h
  obtain⟨e1,e2⟩:=hl l (l6 ..)
  cases ef:f l with
  |some d=>rw[ef] at e2;subst e;exact e2
  |none=>
   rw[ef] at e2
   erw[RD]
   rw[e1]
   exact⟨e,C,dx,fs,hC,e2 _ s,s2,RDs.rp ts vs _ r λk hk=>hl k (i5 _ hk)⟩
theorem RDs.rp(ts:V9 H H'): ∀(t:List D) (v:List V),RDs G ρ H t v->(∀l∈qq t,ρ' l=ρ l/\(match f l with|some d=>RD G ρ' H' d (.ref (ρ l))|none=> ∀o,H (ρ l)=some o->H' (ρ l)=some o))->RDs G ρ' H' (rpL f t) v
 |[],v,h,_=>by erw[rpL,RDs] at h⊢;exact h
 |d::ds,v,h,hl=>by
  erw[rpL,RDs,qq] at h hl⊢
  obtain⟨x,r,e,h1,h2⟩:=h
  exact⟨x,r,e,RD.rp ts d x h1 λl hk=>hl l (i8 _ hk),RDs.rp ts ds r h2 λl hk=>hl l (i4 _ hk)⟩
end
mutual
theorem zag(l:Nat): ∀t:D,l∈labs (rp f t)->l∈labs t\/∃k d,k∈labs t/\f k=some d/\l∈labs d
 | .non,h=>by erw[rp,labs] at h;cases h
 | .bool b,h=>by erw[rp,labs] at h;cases h
 | .int b,h=>by erw[rp,labs] at h;cases h
 | .str b,h=>by erw[rp,labs] at h;cases h
 | .exc b,h=>by erw[rp,labs] at h;cases h
 | .fn b,h=>by erw[rp,labs] at h;cases h
 | .tup ds,h=>by
  erw[rp,labs] at h⊢
  exact labsL_rp l ds h
 | .ro ds,h=>by
  erw[rp,labs] at h⊢
  exact labsL_rp l ds h
 | .fdc ks vs,h=>by
  erw[rp,labs] at h⊢
  exact labsL_rp l vs h
 | .lst k ds,h=>by
  erw[rp] at h
  cases e:f k with
  |some d=>rw[e] at h;exact .inr ⟨k,d,by erw[labs];exact l6 ..,e,h⟩
  |none=>
   rw[e] at h
   erw[labs] at h⊢
   rcases m3.mp h with h|h
   .exact .inl (m3.mpr (.inl h))
   .rcases labsL_rp l ds h with q|⟨k',d,q1,q2,q3⟩
    .exact .inl (i5 _ q)
    .exact .inr ⟨k',d,i5 _ q1,q2,q3⟩
 | .dct k ks vs,h=>by
  erw[rp] at h
  cases e:f k with
  |some d=>rw[e] at h;exact .inr ⟨k,d,by erw[labs];exact l6 ..,e,h⟩
  |none=>
   rw[e] at h
   erw[labs] at h⊢
   rcases m3.mp h with h|h
   .exact .inl (m3.mpr (.inl h))
   .rcases l4.mp h with h|h
    .exact .inl (i5 _ (i8 _ h))
    .rcases labsL_rp l vs h with q|⟨k',d,q1,q2,q3⟩
     .exact .inl (i5 _ (i4 _ q))
     .exact .inr ⟨k',d,i5 _ (i4 _ q1),q2,q3⟩
 | .obj k c ns vs,h=>by
  erw[rp] at h
  cases e:f k with
  |some d=>rw[e] at h;exact .inr ⟨k,d,by erw[labs];exact l6 ..,e,h⟩
  |none=>
   rw[e] at h
   erw[labs] at h⊢
   rcases m3.mp h with h|h
   .exact .inl (m3.mpr (.inl h))
   .rcases labsL_rp l vs h with q|⟨k',d,q1,q2,q3⟩
    .exact .inl (i5 _ q)
    .exact .inr ⟨k',d,i5 _ q1,q2,q3⟩
theorem labsL_rp(l:Nat): ∀t:List D,l∈qq (rpL f t)->l∈qq t\/∃k d,k∈qq t/\f k=some d/\l∈labs d
 |[],h=>by erw[rpL,qq] at h;cases h
 |d::ds,h=>by
  erw[rpL,qq] at h⊢
  rcases l4.mp h with h|h
  .rcases zag l d h with q|⟨k',d,q1,q2,q3⟩
   .exact .inl (i8 _ q)
   .exact .inr ⟨k',d,i8 _ q1,q2,q3⟩
  .rcases labsL_rp l ds h with q|⟨k',d,q1,q2,q3⟩
   .exact .inl (i4 _ q)
   .exact .inr ⟨k',d,i4 _ q1,q2,q3⟩
end
theorem z3h(l:Nat): ∀t:Qq,l∈Y0 (rpO f t)->l∈Y0 t\/∃k d,k∈Y0 t/\f k=some d/\l∈labs d
 |[],h=>by erw[rpO,Y0] at h;cases h
 |none::r,h=>by erw[rpO,Y0] at h⊢;exact z3h l r h
 |some d::ds,h=>by
  erw[rpO,Y0] at h⊢
  rcases l4.mp h with h|h
  .rcases zag l d h with q|⟨k',d,q1,q2,q3⟩
   .exact .inl (i8 _ q)
   .exact .inr ⟨k',d,i8 _ q1,q2,q3⟩
  .rcases z3h l ds h with q|⟨k',d,q1,q2,q3⟩
   .exact .inl (i4 _ q)
   .exact .inr ⟨k',d,i4 _ q1,q2,q3⟩
end
structure Stt where
 σ:Qq
 tm:Qq
 n:Nat
structure Fx where
 A0:Addr->Prop
 H0:Hp
 Z:Addr->Prop
 zA: ∀a,Z a->(∃o,H0 a=some o)/\¬A0 a
 aH: ∀a,A0 a->∃o,H0 a=some o
 n0:Nat
 ρ0:Nat->Addr
def KD(K:W.Frag)(H:Hp):Prop:= ∀a o,K.lookup a=some o->H a=none
section
variable(G:Gx)(ρ:Nat->Addr)(H:Hp)
def Sl:Qq->List (Option V)->Prop
 |[],vs=>vs=[]
 |none::r,vs=> ∃o q,vs=o::q/\Sl r q
 |some d::r,vs=> ∃v q,vs=some v::q/\RD G ρ H d v/\Sl r q
end
def V7(s:Stt):List Nat:=Y0 s.σ++Y0 s.tm
structure MR(G:Gx)(F:Fx)(ρ:Nat->Addr)(H:Hp)(σv tv:List (Option V))(s:Stt):Prop where
 sl:Sl G ρ H s.σ σv
 tm:Sl G ρ H s.tm tv
 inj: ∀i j,i<s.n->j<s.n->ρ i=ρ j->i=j
 dom: ∀l,l<s.n->∃o,H (ρ l)=some o
 lab: ∀l∈V7 s,l<s.n
 own: ∀l∈V7 s,F.A0 (ρ l)\/F.H0 (ρ l)=none
 frm: ∀a o,F.H0 a=some o->(∃o',H a=some o')/\(¬F.A0 a->H a=some o)
 kd:KD G.K H
 frb: ∀l,l<s.n->¬F.Z (ρ l)
 bas:F.n0<=s.n/\∀l,l<F.n0->ρ l=F.ρ0 l
def Stt.psh(s:Stt)(t:D):Stt:={s with tm:=some t::s.tm}
def Stt.nxt(s:Stt):Stt:={s with n:=s.n+1}
section
variable{G:Gx}{F:Fx}{ρ ρ':Nat->Addr}{H H':Hp}{σv tv:List (Option V)}{s:Stt}{t:D}{v:V}
theorem Sl.stay(ts:V9 H H'): ∀{σ:Qq} {σv:List (Option V)},Sl G ρ H σ σv->(∀l∈Y0 σ,ρ' l=ρ l/\∀o,H (ρ l)=some o->H' (ρ l)=some o)->Sl G ρ' H' σ σv
 |[],_,h,_=>h
 |none::r,_,h,hl=>by
  erw[Sl,Y0] at h hl⊢
  obtain⟨o,q,e,h⟩:=h
  exact⟨o,q,e,Sl.stay ts h hl⟩
 |some d::r,_,h,hl=>by
  erw[Sl,Y0] at h hl⊢
  obtain⟨o,q,e,h1,h⟩:=h
  exact⟨o,q,e,RD.stay ts d o h1 λl hk=>hl l (i8 _ hk),Sl.stay ts h λl hk=>hl l (i4 _ hk)⟩
theorem Sl.rp{f:Nat->Option D}(ts:V9 H H'): ∀{σ:Qq} {σv:List (Option V)},Sl G ρ H σ σv->
 (∀l∈Y0 σ,ρ' l=ρ l/\(match f l with|some d=>RD G ρ' H' d (.ref (ρ l))|none=> ∀o,H (ρ l)=some o->H' (ρ l)=some o))->Sl G ρ' H' (rpO f σ) σv
 |[],_,h,_=>h
 |none::r,_,h,hl=>by
  erw[Sl,Y0,rpO] at h hl⊢
  obtain⟨o,q,e,h⟩:=h
  exact⟨o,q,e,Sl.rp ts h hl⟩
 |some d::r,_,h,hl=>by
  erw[Sl,Y0,rpO] at h hl⊢
  obtain⟨o,q,e,h1,h⟩:=h
  exact⟨o,q,e,RD.rp ts d o h1 λl hk=>hl l (i8 _ hk),Sl.rp ts h λl hk=>hl l (i4 _ hk)⟩
theorem Sl.get: ∀{σ:Qq} {σv:List (Option V)},Sl G ρ H σ σv->∀(i:Nat) (d:D),σ[i]? =some (some d)->∃v,σv[i]? =some (some v)/\RD G ρ H d v
 |[],_,_,i,d,e=>by simp at e
 |none::r,_,h,i,d,e=>by
  erw[Sl] at h
  obtain⟨o,q,rfl,h⟩:=h
  cases i with
  |zero=>simp at e
  |succ i=>simpa using Sl.get h i d (by simpa using e)
 |some d'::r,_,h,i,d,e=>by
  erw[Sl] at h
  obtain⟨v,q,rfl,h1,h⟩:=h
  cases i with
  |zero=>simp at e;subst e;exact⟨v,rfl,h1⟩
  |succ i=>simpa using Sl.get h i d (by simpa using e)
theorem Sl.length: ∀{σ:Qq} {σv:List (Option V)},Sl G ρ H σ σv->σ.length=σv.length
 |[],_,h=>by erw[Sl] at h;subst h;rfl
 |none::r,_,h=>by
  erw[Sl] at h
  obtain⟨o,q,rfl,h⟩:=h
  simp[Sl.length h]
 |some d'::r,_,h=>by
  erw[Sl] at h
  obtain⟨v,q,rfl,h1,h⟩:=h
  simp[Sl.length h]
theorem Sl.set: ∀{σ:Qq} {σv:List (Option V)} (i:Nat),Sl G ρ H σ σv->RD G ρ H t v->Sl G ρ H (σ.set i (some t)) (σv.set i (some v))
 |[],_,i,h,_=>by erw[Sl] at h;subst h;simp[Sl]
 |none::r,_,i,h,ht=>by
  erw[Sl] at h
  obtain⟨o,q,rfl,h⟩:=h
  cases i with
  |zero=>erw[F2,Sl];exact⟨_,_,rfl,ht,h⟩
  |succ i=>erw[F3,Sl];exact⟨_,_,rfl,Sl.set i h ht⟩
 |some d'::r,_,i,h,ht=>by
  erw[Sl] at h
  obtain⟨v',q,rfl,h1,h⟩:=h
  cases i with
  |zero=>erw[F2,Sl];exact⟨_,_,rfl,ht,h⟩
  |succ i=>erw[F3,Sl];exact⟨_,_,rfl,h1,Sl.set i h ht⟩
theorem Sl.append: ∀{σ σ':Qq} {σv σv':List (Option V)},Sl G ρ H σ σv->Sl G ρ H σ' σv'->Sl G ρ H (σ++σ') (σv++σv')
 |[],_,_,_,h,h'=>by erw[Sl] at h;subst h;exact h'
 |none::r,_,_,_,h,h'=>by
  erw[Sl] at h
  obtain⟨o,q,rfl,h⟩:=h
  erw[C4,Sl];exact⟨_,_,rfl,Sl.append h h'⟩
 |some d'::r,_,_,_,h,h'=>by
  erw[Sl] at h
  obtain⟨v,q,rfl,h1,h⟩:=h
  erw[C4,Sl];exact⟨_,_,rfl,h1,Sl.append h h'⟩
theorem Sl.split: ∀(σv:List (Option V)) {σ:Qq} {tv:List (Option V)},Sl G ρ H σ (σv++tv)->Sl G ρ H (σ.take σv.length) σv/\Sl G ρ H (σ.drop σv.length) tv
 |[],σ,tv,h=>⟨by simp[Sl],by simpa using h⟩
 |o::σv,[],tv,h=>by simp[Sl] at h
 |o::σv,none::r,tv,h=>by
  erw[C4,Sl] at h
  obtain⟨o',q,e,h⟩:=h
  cases e
  obtain⟨h1,h2⟩:=Sl.split σv h
  erw[A4,M9,P3,Sl]
  exact⟨⟨_,_,rfl,h1⟩,h2⟩
 |o::σv,some d::r,tv,h=>by
  erw[C4,Sl] at h
  obtain⟨o',q,e,h0,h⟩:=h
  cases e
  obtain⟨h1,h2⟩:=Sl.split σv h
  erw[A4,M9,P3,Sl]
  exact⟨⟨_,_,rfl,h0,h1⟩,h2⟩
theorem z2i: ∀{σ:Qq} {i:Nat} {d:D},σ[i]? =some (some d)->∀l∈labs d,l∈Y0 σ
 |[],i,d,e,l,h=>by simp at e
 |none::r,i,d,e,l,h=>by
  erw[Y0]
  cases i with
  |zero=>simp at e
  |succ i=>exact z2i (i:=i) (by simpa using e) l h
 |some d'::r,i,d,e,l,h=>by
  erw[Y0]
  cases i with
  |zero=>simp at e;subst e;exact i8 _ h
  |succ i=>exact i4 _ (z2i (i:=i) (by simpa using e) l h)
theorem z3x: ∀{σ:Qq} {i:Nat} {d:D} (l:Nat),l∈Y0 (σ.set i (some d))->l∈Y0 σ\/l∈labs d
 |[],i,d,l,h=>by simp[Y0] at h
 |none::r,i,d,l,h=>by
  cases i with
  |zero=>
   erw[F2,Y0] at h⊢
   rcases l4.mp h with h|h
   .exact .inr h
   .exact .inl h
  |succ i=>
   erw[F3,Y0] at h⊢
   exact z3x l h
 |some d'::r,i,d,l,h=>by
  cases i with
  |zero=>
   erw[F2,Y0] at h⊢
   rcases l4.mp h with h|h
   .exact .inr h
   .exact .inl (i4 _ h)
  |succ i=>
   erw[F3,Y0] at h⊢
   rcases l4.mp h with h|h
   .exact .inl (i8 _ h)
   .rcases z3x l h with q|q
    .exact .inl (i4 _ q)
    .exact .inr q
theorem Q4: ∀(σ σ':Qq),Y0 (σ++σ')=Y0 σ++Y0 σ'
 |[],_=>rfl
 |none::r,σ'=>by erw[C4,Y0,Q4 r σ']
 |some d::r,σ'=>by erw[C4,Y0,Q4 r σ',A3]
theorem v0: ∀(σ σ':List D),qq (σ++σ')=qq σ++qq σ'
 |[],_=>rfl
 |d::r,σ'=>by erw[C4,qq,v0 r σ',A3]
theorem qk: ∀{ds:List D} {d:D},d∈ds->∀l∈labs d,l∈qq ds
 |_::ds,d,h,l,hl=>by
  erw[qq]
  rcases m3.mp h with rfl|h
  .exact i8 _ hl
  .exact i4 _ (qk h l hl)
theorem K0: ∀{ds:List D} {l:Nat},l∈qq ds->∃d∈ds,l∈labs d
 |d::ds,l,h=>by
  erw[qq] at h
  rcases l4.mp h with h|h
  .exact⟨d,l6 ..,h⟩
  .obtain⟨x,h1,h2⟩:=K0 h
   exact⟨x,i5 _ h1,h2⟩
theorem RDs.get: ∀{ds:List D} {xs:List V},RDs G ρ H ds xs->∀(i:Nat) (d:D),ds[i]? =some d->∃x,xs[i]? =some x/\RD G ρ H d x
 |[],_,_,i,d,e=>by simp at e
 |d'::r,_,h,i,d,e=>by
  erw[RDs] at h
  obtain⟨x,q,rfl,h1,h2⟩:=h
  cases i with
  |zero=>simp at e;subst e;exact⟨x,rfl,h1⟩
  |succ i=>simpa using RDs.get h2 i d (by simpa using e)
theorem RDs.length: ∀{ds:List D} {xs:List V},RDs G ρ H ds xs->ds.length=xs.length
 |[],_,h=>by erw[RDs] at h;subst h;rfl
 |d'::r,_,h=>by
  erw[RDs] at h
  obtain⟨x,q,rfl,h1,h2⟩:=h
  simp[RDs.length h2]
theorem RDs.append: ∀{ds es:List D} {xs ys:List V},RDs G ρ H ds xs->RDs G ρ H es ys->RDs G ρ H (ds++es) (xs++ys)
 |[],_,_,_,h,h'=>by erw[RDs] at h;subst h;exact h'
 |d'::r,_,_,_,h,h'=>by
  erw[RDs] at h
  obtain⟨x,q,rfl,h1,h2⟩:=h
  erw[C4,RDs]
  exact⟨_,_,rfl,h1,RDs.append h2 h'⟩
def RDs.one(h:RD G ρ H d x):RDs G ρ H [d] [x]:=by erw[RDs];exact⟨_,_,rfl,h,rfl⟩
theorem RDs.take: ∀{ds:List D} {xs:List V} (k:Nat),RDs G ρ H ds xs->RDs G ρ H (ds.take k) (xs.take k)
 |_,_,0,_=>by simp[RDs]
 |[],_,k+1,h=>by erw[RDs] at h;subst h;simp[RDs]
 |d'::r,_,k+1,h=>by
  erw[RDs] at h
  obtain⟨x,q,rfl,h1,h2⟩:=h
  erw[M9,RDs]
  exact⟨_,_,rfl,h1,RDs.take k h2⟩
theorem RDs.drop: ∀{ds:List D} {xs:List V} (k:Nat),RDs G ρ H ds xs->RDs G ρ H (ds.drop k) (xs.drop k)
 |_,_,0,h=>h
 |[],_,k+1,h=>by erw[RDs] at h;subst h;simp[RDs]
 |d'::r,_,k+1,h=>by
  erw[RDs] at h
  obtain⟨x,q,rfl,h1,h2⟩:=h
  erw[P3]
  exact RDs.drop k h2
theorem RDs.reverse: ∀{ds:List D} {xs:List V},RDs G ρ H ds xs->RDs G ρ H ds.reverse xs.reverse
 |[],_,h=>by erw[RDs] at h;subst h;simp[RDs]
 |d'::r,_,h=>by
  erw[RDs] at h
  obtain⟨x,q,rfl,h1,h2⟩:=h
  rw[C3,C3]
  exact RDs.append (RDs.reverse h2) (RDs.one h1)
theorem RDs.set: ∀{ds:List D} {xs:List V} (k:Nat),RDs G ρ H ds xs->RD G ρ H t v->RDs G ρ H (ds.set k t) (xs.set k v)
 |[],_,k,h,_=>by erw[RDs] at h;subst h;simp[RDs]
 |d'::r,_,0,h,ht=>by
  erw[RDs] at h
  obtain⟨x,q,rfl,h1,h2⟩:=h
  erw[F2,RDs];exact⟨_,_,rfl,ht,h2⟩
 |d'::r,_,k+1,h,ht=>by
  erw[RDs] at h
  obtain⟨x,q,rfl,h1,h2⟩:=h
  erw[F3,RDs];exact⟨_,_,rfl,h1,RDs.set k h2 ht⟩
def MR.pop{r:Option D}(M:MR G F ρ H σv (o::tv) {s with tm:=r::s.tm}):MR G F ρ H σv tv s where
 sl:=M.sl
 tm:=by
  have h:=M.tm
  cases r with
  |none=>erw[Sl] at h;obtain⟨_,_,e,h⟩:=h;cases e;exact h
  |some t=>erw[Sl] at h;obtain⟨_,_,e,_,h⟩:=h;cases e;exact h
 inj:=M.inj
 dom:=M.dom
 lab:=λl h=>M.lab l (by
  rcases l4.mp h with h|h
  .exact i8 _ h
  .refine i4 _ ?_
   cases r with
   |none=>exact h
   |some t=>exact i4 _ h)
 own:=λl h=>M.own l (by
  rcases l4.mp h with h|h
  .exact i8 _ h
  .refine i4 _ ?_
   cases r with
   |none=>exact h
   |some t=>exact i4 _ h)
 frm:=M.frm
 kd:=M.kd
 frb:=M.frb
 bas:=M.bas
def MR.top(M:MR G F ρ H σv (some v::tv) (s.psh t)):RD G ρ H t v:=by
 have h:=M.tm
 have h:Sl G ρ H (some t::s.tm) (some v::tv):=h
 erw[Sl] at h
 obtain⟨_,_,e,h,_⟩:=h
 cases e
 exact h
def MR.topl(M:MR G F ρ H σv tv (s.psh t)): ∀l∈labs t,l<s.n/\(F.A0 (ρ l)\/F.H0 (ρ l)=none):=λl h=>
 have m:l∈V7 (s.psh t):=i4 _ (i8 _ h)
 ⟨M.lab l m,M.own l m⟩
def MR.same(M:MR G F ρ H σv tv s)(h:z4i H H')(k:KD G.K H'):MR G F ρ H' σv tv s where
 sl:=Sl.stay (V9.of h) M.sl λl _=>⟨rfl,λo e=>h _ _ e⟩
 tm:=Sl.stay (V9.of h) M.tm λl _=>⟨rfl,λo e=>h _ _ e⟩
 inj:=M.inj
 dom:=λl hl=>let⟨o,e⟩:=M.dom l hl;⟨o,h _ _ e⟩
 lab:=M.lab
 own:=M.own
 frm:=λa o e=>let⟨⟨o',e1⟩,e2⟩:=M.frm a o e;⟨⟨o',h _ _ e1⟩,λn=>h _ _ (e2 n)⟩
 kd:=k
 frb:=M.frb
 bas:=M.bas
def RDs.same(h:z4i H H')(r:RDs G ρ H ts vs):RDs G ρ H' ts vs:=RDs.stay (V9.of h) ts vs r λl _=>⟨rfl,λo e=>h _ _ e⟩
def ext(ρ:Nat->Addr)(n:Nat)(p:Addr):Nat->Addr:=λl=>if l=n then p else ρ l
def j9{n l:Nat}(h:l<n):ext ρ n p l=ρ l:=by delta ext;rw[qh ⋯]
def g9{n:Nat}:ext ρ n p n=p:=by delta ext;rw[qy rfl]
def MR.new(M:MR G F ρ H σv tv s)(hp:H p=none)(k:KD G.K (upd H p o)):MR G F (ext ρ s.n p) (upd H p o) σv tv s.nxt where
 sl:=Sl.stay (V9.of (z4i.new o hp)) M.sl λl hl=>⟨j9 (M.lab l (i8 _ hl)),λo e=>z4i.new _ hp _ _ e⟩
 tm:=Sl.stay (V9.of (z4i.new o hp)) M.tm λl hl=>⟨j9 (M.lab l (i4 _ hl)),λo e=>z4i.new _ hp _ _ e⟩
 inj:=λi j hi hj e=>by
  have hi:i<s.n+1:=hi
  have hj:j<s.n+1:=hj
  have nn: ∀i,i<s.n->ρ i≠p:=λi h e=>by
   obtain⟨o,q⟩:=M.dom i h
   rw[e,hp] at q;cases q
  by_cases h1:i=s.n
  .by_cases h2:j=s.n
   .lia
   .rw[h1,g9,j9 ⋯] at e
    exact absurd e.symm (nn j ⋯)
  .by_cases h2:j=s.n
   .rw[h2,g9,j9 ⋯] at e
    exact absurd e (nn i ⋯)
   .rw[j9 ⋯,j9 ⋯] at e
    exact M.inj i j ⋯ ⋯ e
 dom:=λl hl=>by
  have hl:l<s.n+1:=hl
  by_cases h1:l=s.n
  .subst h1;rw[g9];exact⟨o,Z3⟩
  .rw[j9 ⋯]
   obtain⟨o',e⟩:=M.dom l ⋯
   exact⟨o',z4i.new _ hp _ _ e⟩
 lab:=λl h=>L5 (M.lab l h)
 own:=λl h=>by rw[j9 (M.lab l h)];exact M.own l h
 frm:=λa o e=>let⟨⟨o',e1⟩,e2⟩:=M.frm a o e;⟨⟨o',z4i.new _ hp _ _ e1⟩,λn=>z4i.new _ hp _ _ (e2 n)⟩
 kd:=k
 frb:=λl hl=>by
  have hl:l<s.n+1:=hl
  by_cases h1:l=s.n
  .subst h1;rw[g9]
   intro z
   obtain⟨⟨o,e⟩,_⟩:=F.zA p z
   obtain⟨⟨o',e'⟩,_⟩:=M.frm p o e
   rw[hp] at e';cases e'
  .rw[j9 ⋯]
   exact M.frb l ⋯
 bas:=⟨u07 M.bas.1,λl hl=>by rw[j9 (A2 hl M.bas.1)];exact M.bas.2 l hl⟩
def MR.fresh0(M:MR G F ρ H σv tv s)(hp:H p=none):F.H0 p=none:=by
 cases q:F.H0 p with
 |none=>rfl
 |some o=>
  obtain⟨⟨o',e⟩,_⟩:=M.frm p o q
  rw[hp] at e;cases e
def Stt.put(s:Stt)(l:Nat)(d:D):Stt:={s with σ:=rpO (λk=>if k=l then some d else none) s.σ,tm:=rpO (λk=>if k=l then some d else none) s.tm}
end
inductive Res(α:Type) where
 |ok (a:α) (s:Stt)|ex (d:D) (s:Stt)|no
abbrev M(α:Type):=Stt->Res α
def bd{α β:Type}(m:M α)(f:α->M β):M β:=λs=>match m s with
 | .ok a s'=>f a s'
 | .ex d s'=> .ex d s'
 | .no=> .no
def rt{α:Type}(a:α):M α:=λs=> .ok a s
def fl{α:Type}:M α:=λ_=> .no
def psh(t:D):M Unit:=λs=> .ok () (s.psh t)
def pop:M D:=λs=>match s.tm with
 |some t::r=> .ok t {s with tm:=r}
 |_=> .no
structure Fy extends Fx where
 tv0:List (Option V)
 xw:D->Stt->Prop
structure MRL(G:Gx)(F:Fx)(ρ:Nat->Addr)(H:Hp)(σv tv:List (Option V))(s:Stt)(ts:List D)(vs:List V):Prop where
 m:MR G F ρ H σv tv s
 rd:RDs G ρ H ts vs
 lb: ∀l∈qq ts,l<s.n/\(F.A0 (ρ l)\/F.H0 (ρ l)=none)
section
variable{G:Gx}{F:Fy}{ρ ρ':Nat->Addr}{H H':Hp}{σv tv:List (Option V)}{s:Stt}{t t':D}{v u:V}{ts:List D}{vs:List V}{Q:VK}
def MRL.rd1(M:MRL G F.toFx ρ H σv tv s [t] [v]):RD G ρ H t v:=by
 have h:=M.rd
 erw[RDs] at h
 obtain⟨_,_,e,h,_⟩:=h
 cases e;exact h
def MRL.rd2(M:MRL G F.toFx ρ H σv tv s [t,t'] [v,u]):RD G ρ H t v/\RD G ρ H t' u:=by
 have h:=M.rd
 erw[RDs] at h
 obtain⟨_,_,e,h,_,_,e',h',_⟩:=h
 cases e;cases e';exact⟨h,h'⟩
def MRL.push(M:MRL G F.toFx ρ H σv tv s [t] [v]):MR G F.toFx ρ H σv (some v::tv) (s.psh t):=by
 have hl: ∀l∈labs t,l<s.n/\(F.A0 (ρ l)\/F.H0 (ρ l)=none):=λl h=>M.lb l (by erw[qq,l7];exact h)
 refine⟨M.m.sl, ?_,M.m.inj,M.m.dom,λl h=> ?_,λl h=> ?_,M.m.frm,M.m.kd,M.m.frb,M.m.bas⟩
 .show Sl G ρ H (some t::s.tm) _
  erw[Sl]
  exact⟨v,tv,rfl,M.rd1,M.m.tm⟩
 .have h:l∈Y0 s.σ++(labs t++Y0 s.tm):=h
  rcases l4.mp h with h|h
  .exact M.m.lab l (i8 _ h)
  .rcases l4.mp h with h|h
   .exact(hl l h).1
   .exact M.m.lab l (i4 _ h)
 .have h:l∈Y0 s.σ++(labs t++Y0 s.tm):=h
  rcases l4.mp h with h|h
  .exact M.m.own l (i8 _ h)
  .rcases l4.mp h with h|h
   .exact(hl l h).2
   .exact M.m.own l (i4 _ h)
def MRL.down{s':Stt}(M:MRL G F.toFx ρ H σv (some v::tv) s' ts vs)(e:s'.tm=some t::r):MRL G F.toFx ρ H σv tv {s' with tm:=r} (t::ts) (v::vs):=by
 obtain⟨σ,tm,n⟩:=s'
 have e:tm=some t::r:=e
 subst e
 refine⟨MR.pop (s:=⟨σ,r,n⟩) M.m, ?_,λl h=> ?_⟩
 .erw[RDs]
  exact⟨v,vs,rfl,MR.top (s:=⟨σ,r,n⟩) M.m,M.rd⟩
 .erw[qq] at h
  rcases l4.mp h with h|h
  .exact MR.topl (s:=⟨σ,r,n⟩) M.m l h
  .exact M.lb l h
def wM(G:Gx)(F:Fy)(σv tv:List (Option V))(r:Res D)(Q:VK):Prop:=match r with
 | .ok t s'=> ∀ρ' v H',MRL G F.toFx ρ' H' σv tv s' [t] [v]->Q v H'
 | .ex d s'=>F.xw d s'
 | .no=>False
def wL(G:Gx)(F:Fy)(σv tv:List (Option V))(r:Res (List D))(Q:List V->Hp->Prop):Prop:=match r with
 | .ok ts s'=> ∀ρ' vs H',MRL G F.toFx ρ' H' σv tv s' ts vs->Q vs H'
 | .ex d s'=>F.xw d s'
 | .no=>False
def wB(G:Gx)(F:Fy)(σv tv:List (Option V))(r:Res Bool)(Q:Bool->Hp->Prop):Prop:=match r with
 | .ok b s'=> ∀ρ' H',MR G F.toFx ρ' H' σv tv s'->Q b H'
 | .ex d s'=>F.xw d s'
 | .no=>False
def tMv(G:Gx)(F:Fy)(m:M D)(σv tv:List (Option V))(H:Hp)(Q:VK):Prop:=F.tv0<:+tv/\∃ρ s,MR G F.toFx ρ H σv tv s/\wM G F σv tv (m s) Q
def tLv(G:Gx)(F:Fy)(m:M (List D))(σv tv:List (Option V))(H:Hp)(Q:List V->Hp->Prop):Prop:=F.tv0<:+tv/\∃ρ s,MR G F.toFx ρ H σv tv s/\wL G F σv tv (m s) Q
def tBv(G:Gx)(F:Fy)(m:M Bool)(σv tv:List (Option V))(H:Hp)(Q:Bool->Hp->Prop):Prop:=F.tv0<:+tv/\∃ρ s,MR G F.toFx ρ H σv tv s/\wB G F σv tv (m s) Q
def tM(G:Gx)(F:Fy)(m:M D):TE:=λ σv H Q=> ∃tv,tMv G F m σv tv H Q
def tML(G:Gx)(F:Fy)(m:M (List D)):TA:=λ σv H Q=> ∃tv,tLv G F m σv tv H Q
def tMB(G:Gx)(F:Fy)(m:M Bool):TT:=λ σv H Q=> ∃tv,tBv G F m σv tv H Q
def SE(X:Cx)(G:Gx)(F:Fy)(e:bi)(m:M D):Prop:=PE X e (tM G F m)
def SA(X:Cx)(G:Gx)(F:Fy)(es:List bi)(m:M (List D)):Prop:=PA X es (tML G F m)
def SB(X:Cx)(G:Gx)(F:Fy)(e:bi)(m:M Bool):Prop:=PT X e (tMB G F m)
def z82(h:F.tv0<:+tv):F.tv0<:+o::tv:=h.trans (List.suffix_cons _ _)
def zah(h:tMv G F (bd m f) σv tv H Q):tMv G F m σv tv H (λv H1=> ∃ρ1 s1 t,MRL G F.toFx ρ1 H1 σv tv s1 [t] [v]/\wM G F σv tv (f t s1) Q):=by
 obtain⟨hs,ρ,s,M,W⟩:=h
 refine⟨hs,ρ,s,M, ?_⟩
 unfold bd at W
 cases e:m s with
 |ok t s1=>rw[e] at W;exact λ ρ1 v H1 M1=>⟨ρ1,s1,t,M1,W⟩
 |ex d s1=>rw[e] at W;exact W
 |no=>rw[e] at W;exact W
def y4(ma mb:M D)(g:D->D->M D):M D:=bd ma λx=>bd (psh x) λ_=>bd mb λy=>bd pop λx'=>g x' y
def zai(h:tMv G F (y4 ma mb g) σv tv H Q):
 tMv G F ma σv tv H (λv H1=>tMv G F mb σv (some v::tv) H1 (λu H2=> ∃ρ2 s2 t t',MRL G F.toFx ρ2 H2 σv tv s2 [t,t'] [v,u]/\wM G F σv tv (g t t' s2) Q)):=by
 have h':=zah h
 obtain⟨hs,ρ,s,M,W⟩:=h'
 refine⟨hs,ρ,s,M, ?_⟩
 cases e:ma s with
 |ok t s1=>
  rw[e] at W
  intro ρ1 v H1 M1
  obtain⟨ρ1,s1,t,M1,W⟩:=W ρ1 v H1 M1
  refine⟨z82 hs,ρ1,s1.psh t,M1.push, ?_⟩
  erw[bd,psh] at W
  cases e2:mb (s1.psh t) with
  |ok y s2=>
   rw[e2] at W
   intro ρ2 u H2 M2
   erw[pop] at W
   cases e3:s2.tm with
   |nil=>rw[e3] at W;exact W.elim
   |cons o r=>
    cases o with
    |none=>rw[e3] at W;exact W.elim
    |some t'=>
     rw[e3] at W
     exact⟨ρ2,{s2 with tm:=r},t',y,M2.down e3,W⟩
  |ex d s2=>rw[e2] at W;exact W
  |no=>rw[e2] at W;exact W
 |ex d s1=>rw[e] at W;exact W
 |no=>rw[e] at W;exact W
def W8:List (M D)->M (List D)
 |[]=>rt []
 |m::ms=>bd m λx=>bd (psh x) λ_=>bd (W8 ms) λys=>bd pop λx'=>rt (x'::ys)
variable{X:Cx}{e a b c:bi}{pos:bO}
def Inv.kd{qx:List (Addr×bE)}{σ:St}{H:Hp}{s:be}(I:Inv X qx σ H s):KD X.K H:=λa o e=>(I.bs a o (I.ok.mod.kin a o e)).2
def PE.imp{t t':TE}(hk:X.K=G.K)(h:PE X e t)(hi: ∀σ H Q,t' σ H Q->t σ H (λv H'=>KD G.K H'->Q v H')):PE X e t':=λqx s σ H Q I q=>
 thn (h qx s σ H _ I (hi σ H Q q)) λu s' ⟨v,H',I',r,k⟩=>⟨v,H',I',r,k (hk▸Inv.kd I')⟩
def PT.imp{t t':TT}(hk:X.K=G.K)(h:PT X e t)(hi: ∀σ H Q,t' σ H Q->t σ H (λv H'=>KD G.K H'->Q v H')):PT X e t':=λqx s σ H Q I q=>
 thn (h qx s σ H _ I (hi σ H Q q)) λu s' ⟨H',I',k⟩=>⟨H',I',k (hk▸Inv.kd I')⟩
def PA.imp{es:List bi}{t t':TA}(hk:X.K=G.K)(h:PA X es t)(hi: ∀σ H Q,t' σ H Q->t σ H (λv H'=>KD G.K H'->Q v H')):PA X es t':=λpos qx s σ H Q I q=>
 thn (h pos qx s σ H _ I (hi σ H Q q)) λu s' ⟨v,H',I',r,k⟩=>⟨v,H',I',r,k (hk▸Inv.kd I')⟩
def zaj(G:Gx)(F:Fy)(r:R2)(g:D->D->M D):Prop:= ∀ρ s t t' v u H σv tv Q,MRL G F.toFx ρ H σv tv s [t,t'] [v,u]->wM G F σv tv (g t t' s) Q->r v u H (λw H'=>KD G.K H'->Q w H')
def z3y(G:Gx)(F:Fy)(r:R2)(g:D->D->M D):Prop:= ∀ρ s t t' v u H σv tv Q,MRL G F.toFx ρ H σv tv s [t,t'] [v,u]->wM G F σv tv (g t t' s) Q->r v u H Q
def zk7(G:Gx)(F:Fy)(r:V->Hp->VK->Prop)(g:D->M D):Prop:= ∀ρ s t v H σv tv Q,MRL G F.toFx ρ H σv tv s [t] [v]->wM G F σv tv (g t s) Q->r v H (λw H'=>KD G.K H'->Q w H')
def K4(G:Gx)(F:Fy)(r:List V->Hp->VK->Prop)(g:List D->M D):Prop:= ∀ρ s ts vs H σv tv Q,MRL G F.toFx ρ H σv tv s ts vs->wM G F σv tv (g ts s) Q->r vs H (λw H'=>KD G.K H'->Q w H')
def z8V(hk:X.K=G.K)(ho:OpR X (bP op) r)(hg:zaj G F r g)(ha:SE X G F a ma)(hb:SE X G F b mb):SE X G F (.BinOp a op b pos) (y4 ma mb g):=by
 refine PE.imp hk (zjM ho ha hb) λ σ H Q ⟨tv,h⟩=>⟨tv, ?_⟩
 obtain⟨hs,ρ,s,M,W⟩:=zai h
 refine⟨hs,ρ,s,M, ?_⟩
 cases e:ma s with
 |ok t s1=>
  rw[e] at W
  intro ρ1 v H1 M1
  refine⟨some v::tv, ?_⟩
  obtain⟨hs2,ρ2,s2,M2,W2⟩:=W ρ1 v H1 M1
  refine⟨hs2,ρ2,s2,M2, ?_⟩
  cases e2:mb s2 with
  |ok t2 s3=>
   rw[e2] at W2
   intro ρ3 u H3 M3
   obtain⟨ρ4,s4,x,y,M4,W4⟩:=W2 ρ3 u H3 M3
   exact hg _ _ _ _ _ _ _ _ _ _ M4 W4
  |ex d s3=>rw[e2] at W2;exact W2
  |no=>rw[e2] at W2;exact W2
 |ex d s1=>rw[e] at W;exact W
 |no=>rw[e] at W;exact W
def wM.mono(h:wM G F σv tv r Q)(k: ∀v H,Q v H->Q' v H):wM G F σv tv r Q':=by
 cases r with
 |ok t s=>exact λ ρ v H M=>k _ _ (h ρ v H M)
 |ex d s=>exact h
 |no=>exact h
def tMv.mono(h:tMv G F m σv tv H Q)(k: ∀v H,Q v H->Q' v H):tMv G F m σv tv H Q':=by
 obtain⟨hs,ρ,s,M,W⟩:=h
 exact⟨hs,ρ,s,M,W.mono k⟩
def zak{R:V->V->Hp->VK->Prop}(hg:zaj G F R g)(h:tM G F (y4 ma mb g) σv H Q):
 tM G F ma σv H λx H1=>tM G F mb σv H1 λy H2=>R x y H2 λw H'=>KD G.K H'->Q w H':=by
 obtain⟨tv,h⟩:=h
 exact⟨tv,(zai h).mono λv H1 h1=>⟨_,h1.mono λu H2 ⟨ρ,s,t,t',M,W⟩=>hg _ _ _ _ _ _ _ _ _ _ M W⟩⟩
def zh9{R:V->Hp->VK->Prop}(hg:zk7 G F R g)(h:tM G F (bd ma g) σv H Q):
 tM G F ma σv H λx H1=>R x H1 λw H'=>KD G.K H'->Q w H':=by
 obtain⟨tv,h⟩:=h
 exact⟨tv,(zah h).mono λv H1 ⟨ρ,s,t,M,W⟩=>hg _ _ _ _ _ _ _ _ M W⟩
def zk8{r:V->Hp->VK->Prop}(hk:X.K=G.K)(ho:UnR X (unaryOp op) r)(hg:zk7 G F r g)(ha:SE X G F a ma):SE X G F (.UnaryOp op a pos) (bd ma g):=
 PE.imp hk (zjN ho ha) λ_ _ _ h=>zh9 hg h
def z83{R:V->V->Hp->VK->Prop}(hg:z3y G F R g)(h:tM G F (y4 ma mb g) σv H Q):
 tM G F ma σv H λx H1=>tM G F mb σv H1 λy H2=>R x y H2 Q:=by
 obtain⟨tv,h⟩:=h
 exact⟨tv,(zai h).mono λv H1 h1=>⟨_,h1.mono λu H2 ⟨ρ,s,t,t',M,W⟩=>hg _ _ _ _ _ _ _ _ _ _ M W⟩⟩
def PE.imp0{t t':TE}(h:PE X e t)(hi: ∀σ H Q,t' σ H Q->t σ H Q):PE X e t':=λqx s σ H Q I q=>h qx s σ H _ I (hi σ H Q q)
def PT.imp0{t t':TT}(h:PT X e t)(hi: ∀σ H Q,t' σ H Q->t σ H Q):PT X e t':=λqx s σ H Q I q=>h qx s σ H _ I (hi σ H Q q)
def zeG(ho:OpR X (bI op) r)(hg:z3y G F r g)(ha:SE X G F a ma)(hb:SE X G F b mb)(hm:bL op b=false):SE X G F (.Compare a [op] [b] pos) (y4 ma mb g):=
 PE.imp0 (zee ho ha hb hm) λ_ _ _ h=>z83 hg h
def zk9(hk:X.K=G.K)(ho:IxR X r)(hg:zaj G F r g)(ha:SE X G F a ma)(hb:SE X G F b mb)(hs:z2y b):SE X G F (.Subscript a b pos) (y4 ma mb g):=
 PE.imp hk (zjX ho ha hb hs) λ_ _ _ h=>zak hg h
def zha(hk:X.K=G.K):SA X G F [] (W8 []):=by
 refine PA.imp hk zdj λ σ H Q ⟨tv,hs,ρ,s,M,W⟩ _=>W ρ [] H ⟨M,rfl,λl h=>by simp[qq] at h⟩
def nst:bi->Bool
 | .Starred _ _=>false
 |_=>true
def zal(h:nst e=true):bh (e::es) env=(false,bC e env)::bh es env:=by
 cases e<;>first|rfl|exact u0c h
def zeH(hk:X.K=G.K)(ha:SE X G F e m)(hr:SA X G F es (W8 ms))(hs:nst e=true:=by rfl):SA X G F (e::es) (W8 (m::ms)):=by
 refine PA.imp hk (z70 ha hr (zal hs)) λ σ H Q ⟨tv,hs,ρ,s,M,W⟩=>⟨tv,hs,ρ,s,M, ?_⟩
 unfold W8 at W
 erw[bd,psh] at W
 cases e:m s with
 |ok t s1=>
  rw[e] at W
  intro ρ1 v H1 M1
  refine⟨some v::tv,z82 hs,ρ1,s1.psh t,M1.push, ?_⟩
  dsimp only at W
  cases e2:W8 ms (s1.psh t) with
  |ok ys s2=>
   rw[e2] at W
   intro ρ2 us H2 M2 _
   erw[pop,rt] at W
   cases e3:s2.tm with
   |nil=>rw[e3] at W;exact W.elim
   |cons o r=>
    cases o with
    |none=>rw[e3] at W;exact W.elim
    |some t'=>
     rw[e3] at W
     exact W ρ2 (v::us) H2 (M2.down e3)
  |ex d s2=>rw[e2] at W;exact W
  |no=>rw[e2] at W;exact W
 |ex d s1=>rw[e] at W;exact W
 |no=>rw[e] at W;exact W
def mCB(ms:List (M D))(g:List D->M D):M D:=bd (W8 ms) g
def z3i{R:List V->Hp->VK->Prop}(hg:K4 G F R g)(h:tM G F (bd ma g) σv H Q):
 tML G F ma σv H λxs H1=>R xs H1 λw H'=>KD G.K H'->Q w H':=by
 obtain⟨tv,hs,ρ,s,M,W⟩:=h
 refine⟨tv,hs,ρ,s,M, ?_⟩
 delta bd at W
 cases e:ma s with
 |ok ts s1=>rw[e] at W;exact λ ρ1 vs H1 M1=>hg _ _ _ _ _ _ _ _ M1 W
 |ex d s1=>rw[e] at W;exact W
 |no=>rw[e] at W;exact W
def zcb{x:Str}{p:bO}{es:List bi}{ms:List (M D)}{g:List D->M D}{id:String}{r:List V->Hp->VK->Prop}(hk:X.K=G.K)(hc:CallR X (.builtin id) r)(hg:K4 G F r g)(hgl:Gl X x)(hm:X.mg x=none)(hv:bF x=some (.builtin id))(ha:SA X G F (e::es) (W8 ms))(hn:x≠ "__name__" :=by decide)(hdb:(x==("__debug__" :Str))=false:=by decide)
 (he:bh (e::es) X.env=(false,bC e X.env)::bh es X.env:=by rfl) (hpl:(bK pos (bh es X.env)).any (·.1)=false:=by rfl):SE X G F (.Call (.Name x p) (e::es) [] pos) (mCB ms g):=
 PE.imp hk (z7U hc hgl hm hv ha hn hdb he hpl) λ_ _ _ h=>z3i hg h
def zam{p:bO}{r:List V->Hp->VK->Prop}(hk:X.K=G.K)(hc:CallR X (.type T) r)(hg:K4 G F r g)(hgl:Gl X x)(hm:X.mg x=none)(hv:bF x=some (.type T))(ha:SA X G F (e::es) (W8 ms))(hn:x≠ "__name__" :=by decide)(hdb:(x==("__debug__" :Str))=false:=by decide)
 (he:bh (e::es) X.env=(false,bC e X.env)::bh es X.env:=by rfl) (hpl:(bK pos (bh es X.env)).any (·.1)=false:=by rfl):SE X G F (.Call (.Name x p) (e::es) [] pos) (mCB ms g):=
 PE.imp hk (z9N hc hgl hm hv ha hn hdb he hpl) λ_ _ _ h=>z3i hg h
def y0(i:Nat):M D:=λs=>match s.σ[i]? with
 |some (some t)=> .ok t s
 |_=> .no
def cV:D->Option V
 | .non=>some .non| .bool b=>some (.bl b)| .int i=>some (.int i)| .str x=>some (.str x)|_=>none
def zcc(h:cV d=some v):RD G ρ H d v/\labs d=[]:=by
 cases d<;>erw[cV,Option.some.injEq] at h<;>first|(subst h;exact⟨by erw[RD],by erw[labs]⟩)|cases h
def mC(d:D):M D:=rt d
def wM.out{s:Stt}(W:wM G F σv tv (.ok t s) Q)(M:MR G F.toFx ρ H σv tv s)(h:RD G ρ H t v)(hl: ∀l∈labs t,l<s.n/\(F.A0 (ρ l)\/F.H0 (ρ l)=none)):Q v H:=
 W ρ v H ⟨M,RDs.one h,λl q=>hl l (by simpa only[qq,l7] using q)⟩
def wM.flat(W:wM G F σv tv (.ok t s) Q)(M:MR G F.toFx ρ H σv tv s)(h:cV t=some v):Q v H:=
 W.out M (zcc h).1 λl q=>by rw[(zcc (G:=G) (ρ:=ρ) (H:=H) h).2] at q;cases q
end
mutual
def er:D->PyData
 | .non=> .none| .bool b=> .bool b| .int i=> .int i| .str x=> .str x
 | .tup ds=> .tuple (erL ds)
 | .ro ds=> .list (erL ds)
 | .lst _ ds=> .list (erL ds)
 | .dct _ _ _=> .none
 | .obj _ _ _ _=> .none
 | .exc _=> .none| .fn _=> .none| .fdc _ _=> .none
def erL:List D->List PyData
 |[]=>[]
 |d::ds=>er d::erL ds
end
mutual
def z0I:D->Bool
 | .non=>true| .bool _=>true| .int _=>true| .str _=>true
 | .tup ds=>plainL ds
 | .ro ds=>plainL ds
 | .lst _ ds=>plainL ds
 | .dct _ _ _=>false
 | .obj _ _ _ _=>false
 | .exc _=>false| .fn _=>false| .fdc _ _=>false
def plainL:List D->Bool
 |[]=>true
 |d::ds=>z0I d&&plainL ds
end
def z9q:D->Option (List D)
 | .tup ds=>some ds| .ro ds=>some ds| .lst _ ds=>some ds|_=>none
def zgb:D->Option (List D)
 | .ro ds=>some ds| .lst _ ds=>some ds|_=>none
section
variable{G:Gx}{F:Fy}{ρ:Nat->Addr}{H H':Hp}{σv tv:List (Option V)}{s:Stt}{t t':D}{v u:V}{ts ds:List D}{vs xs:List V}{Q:VK}
mutual
theorem RD.dp: ∀(t:D) (v:V),RD G ρ H t v->z0I t=true->Dp G.K H (er t) v
 | .non,v,h,_=>by erw[RD,er,Dp] at h⊢;exact h
 | .bool b,v,h,_=>by erw[RD,er,Dp] at h⊢;exact h
 | .int b,v,h,_=>by erw[RD,er,Dp] at h⊢;exact h
 | .str b,v,h,_=>by erw[RD,er,Dp] at h⊢;exact h
 | .tup ds,v,h,p=>by
  erw[RD,er,Dp,z0I] at h p⊢
  obtain⟨a,xs,e,s,r⟩:=h
  exact⟨a,xs,e,SqT.of s,RDs.dp ds xs r p⟩
 | .ro ds,v,h,p=>by
  erw[RD,er,Dp,z0I] at h p⊢
  obtain⟨a,xs,e,s,r⟩:=h
  exact⟨a,xs,e,s.sq,RDs.dp ds xs r p⟩
 | .lst l ds,v,h,p=>by
  erw[RD,er,Dp,z0I] at h p⊢
  obtain⟨e,xs,s,r⟩:=h
  exact⟨_,xs,e,SqL.of s,RDs.dp ds xs r p⟩
 | .dct l ks vs,v,h,p=>by erw[z0I] at p;cases p
 | .fdc ks vs,v,h,p=>by erw[z0I] at p;cases p
 | .obj l c ns vs,v,h,p=>by erw[z0I] at p;cases p
 | .exc c,v,h,p=>by erw[z0I] at p;cases p
 | .fn c,v,h,p=>by erw[z0I] at p;cases p
theorem RDs.dp: ∀(t:List D) (v:List V),RDs G ρ H t v->plainL t=true->DpAll G.K H (erL t) v
 |[],v,h,_=>by erw[RDs,erL,DpAll] at h⊢;exact h
 |d::ds,v,h,p=>by
  erw[RDs,erL,DpAll,plainL,A7] at h p⊢
  obtain⟨x,r,e,h1,h2⟩:=h
  exact⟨x,r,e,RD.dp d x h1 p.1,RDs.dp ds r h2 p.2⟩
end
def RD.seq(h:RD G ρ H t v)(e:z9q t=some ds): ∃a xs,v= .ref a/\(SqL G.K H a xs\/SqT G.K H a xs)/\RDs G ρ H ds xs/\∀l∈qq ds,l∈labs t:=by
 cases t<;>erw[z9q,Option.some.injEq] at e<;>try cases e
 .erw[RD] at h
  obtain⟨a,xs,e,s,r⟩:=h
  exact⟨a,xs,e, .inr (SqT.of s),r,λl hl=>by erw[labs];exact hl⟩
 .erw[RD] at h
  obtain⟨a,xs,e,s,r⟩:=h
  exact⟨a,xs,e, .inl s.sq,r,λl hl=>by erw[labs];exact hl⟩
 .erw[RD] at h
  obtain⟨e,xs,s,r⟩:=h
  exact⟨_,xs,e, .inl (SqL.of s),r,λl hl=>by erw[labs];exact i5 _ hl⟩
def RD.lstq(h:RD G ρ H t v)(e:zgb t=some ds): ∃a xs,v= .ref a/\SqL G.K H a xs/\RDs G ρ H ds xs/\∀l∈qq ds,l∈labs t:=by
 cases t<;>erw[zgb,Option.some.injEq] at e<;>try cases e
 .erw[RD] at h
  obtain⟨a,xs,e,s,r⟩:=h
  exact⟨a,xs,e,s.sq,r,λl hl=>by erw[labs];exact hl⟩
 .erw[RD] at h
  obtain⟨e,xs,s,r⟩:=h
  exact⟨_,xs,e,SqL.of s,r,λl hl=>by erw[labs];exact i5 _ hl⟩
def RD.tupx(h:RD G ρ H (.tup ds) v): ∃a xs,v= .ref a/\H a=some (.tup xs)/\RDs G ρ H ds xs:=by
 erw[RD] at h;exact h
def RD.tupq(h:RD G ρ H (.tup ds) v): ∃a xs,v= .ref a/\SqT G.K H a xs/\RDs G ρ H ds xs:=by
 obtain⟨a,xs,e,s,r⟩:=h.tupx
 exact⟨a,xs,e,SqT.of s,r⟩
def RD.seqx(h:RD G ρ H t v)(e:z9q t=some ds): ∃a xs,v= .ref a/\(SqL G.K H a xs\/H a=some (.tup xs))/\RDs G ρ H ds xs/\∀l∈qq ds,l∈labs t:=by
 cases t<;>erw[z9q,Option.some.injEq] at e<;>try cases e
 .erw[RD] at h
  obtain⟨a,xs,e,s,r⟩:=h
  exact⟨a,xs,e, .inr s,r,λl hl=>by erw[labs];exact hl⟩
 .erw[RD] at h
  obtain⟨a,xs,e,s,r⟩:=h
  exact⟨a,xs,e, .inl s.sq,r,λl hl=>by erw[labs];exact hl⟩
 .erw[RD] at h
  obtain⟨e,xs,s,r⟩:=h
  exact⟨_,xs,e, .inl (SqL.of s),r,λl hl=>by erw[labs];exact i5 _ hl⟩
def MRL.lb1(M:MRL G F.toFx ρ H σv tv s [t] [v]): ∀l∈labs t,l<s.n/\(F.A0 (ρ l)\/F.H0 (ρ l)=none):=λl h=>M.lb l (by erw[qq,l7];exact h)
def MRL.lb2(M:MRL G F.toFx ρ H σv tv s [t,t'] [v,u]):(∀l∈labs t,l<s.n/\(F.A0 (ρ l)\/F.H0 (ρ l)=none))/\(∀l∈labs t',l<s.n/\(F.A0 (ρ l)\/F.H0 (ρ l)=none)):=
 ⟨λl h=>M.lb l (by erw[qq,l7];exact i8 _ h),λl h=>M.lb l (by erw[qq,l7];exact i4 _ h)⟩
abbrev LB(F:Fx)(ρ:Nat->Addr)(n:Nat)(ls:List Nat):Prop:= ∀l∈ls,l<n/\(F.A0 (ρ l)\/F.H0 (ρ l)=none)
def z4V(W:wM G F σv tv (.ok (.tup ds) s) Q)(M:MR G F.toFx ρ H σv tv s)(r:RDs G ρ H ds xs)(lb:LB F.toFx ρ s.n (qq ds)):zc7 G.K H xs (λw H'=>KD G.K H'->Q w H'):=by
 refine zc7.intro λp H' sq sm k=> ?_
 exact W.out (M.same sm k) (by erw[RD];exact⟨p,xs,rfl,sq,r.same sm⟩) (by erw[labs];exact lb)
def zeI(W:wM G F σv tv (.ok (.tup ds) s) Q)(M:MR G F.toFx ρ H σv tv s)(r:RDs G ρ H ds xs)(lb:LB F.toFx ρ s.n (qq ds))(hp:H p=none)(k:KD G.K (upd H p (.tup xs))):Q (.ref p) (upd H p (.tup xs)):=by
 have sm:=z4i.new (.tup xs) hp
 exact W.out (M.same sm k) (by erw[RD];exact⟨p,xs,rfl,Z3,r.same sm⟩) (by erw[labs];exact lb)
def RDs.ext(M:MR G F.toFx ρ H σv tv s)(r:RDs G ρ H ds xs)(lb:LB F.toFx ρ s.n (qq ds))(hp:H p=none):RDs G (ext ρ s.n p) (upd H p o) ds xs:=
 RDs.stay (V9.of (z4i.new o hp)) ds xs r λl hl=>⟨j9 (lb l hl).1,λo e=>z4i.new _ hp _ _ e⟩
def z2A(W:wM G F σv tv (.ok (.lst s.n ds) s.nxt) Q)(M:MR G F.toFx ρ H σv tv s)(r:RDs G ρ H ds xs)(lb:LB F.toFx ρ s.n (qq ds))(hp:H p=none)(k:KD G.K (upd H p (.lst xs))):Q (.ref p) (upd H p (.lst xs)):=by
 refine W.out (M.new hp k) ?_ λl hl=> ?_
 .erw[RD]
  rw[g9]
  exact⟨rfl,xs,Z3,RDs.ext M r lb hp⟩
 .erw[labs] at hl
  rcases m3.mp hl with q|q
  .rw[q]
   exact⟨B2 _,by rw[g9];exact .inr (M.fresh0 hp)⟩
  .obtain⟨h1,h2⟩:=lb l q
   exact⟨L5 h1,by rw[j9 h1];exact h2⟩
end
def zeJ(ds:List D):M D:=λs=> .ok (.lst s.n ds) s.nxt
def K1:D->D->M D
 | .int i, .int j=>rt (.int (i+j))
 | .tup a, .tup b=>if a.length+b.length<=qg then rt (.tup (a++b)) else fl
 | .lst _ a, .lst _ b=>if a.length+b.length<=qg then zeJ (a++b) else fl
 | .str a, .str b=>if a.length+b.length<=qg then rt (.str (a++b)) else fl
 |_,_=>fl
def zdr:D->D->M D
 | .int i, .int j=>rt (.int (i -j))
 |_,_=>fl
instance(i j:Int):Decidable (zdh i j):=by delta zdh;infer_instance
instance(i j:Int):Decidable (zg9 i j):=by delta zg9;infer_instance
instance(i j:Int):Decidable (zga i j):=by delta zga;infer_instance
def z4W:D->D->M D
 | .int i, .int j=>if zg9 i j then rt (.int (i/j)) else fl
 |_,_=>fl
def z3j:D->D->M D
 | .int i, .int j=>if 0<j then rt (.int (i %j)) else fl
 |_,_=>fl
def zds:D->D->M D
 | .int i, .int j=>if zga i j then rt (.int (i^j.toNat)) else fl
 |_,_=>fl
def ltD:D->D->M D
 | .int i, .int j=>rt (.bool (decide (i<j)))
 |_,_=>fl
def gtD:D->D->M D
 | .int i, .int j=>rt (.bool (decide (j<i)))
 |_,_=>fl
def eqC(t t':D):Bool:=z0I t&&z0I t'&&(er t).canLay0&&(er t').canLay0&&decide (min (er t).depth (er t').depth<=60)
def eqD(t t':D):M D:=if eqC t t'=true then rt (.bool (PyData.eqv (er t) (er t'))) else fl
def neD(t t':D):M D:=if eqC t t'=true then rt (.bool (!PyData.eqv (er t) (er t'))) else fl
def isN:D->D->M D
 | .non, .non=>rt (.bool true)
 |_, .non=>rt (.bool false)
 |_,_=>fl
def zgc:D->D->M D
 | .non, .non=>rt (.bool false)
 |_, .non=>rt (.bool true)
 |_,_=>fl
def zgd:Option D->M D
 |some d=>rt d
 |none=>fl
def ixG:Option (List D)->D->M D
 |some ds, .int i=>zgd (atI ds i)
 |_,_=>fl
def ixD(t t':D):M D:=ixG (z9q t) t'
def zcd:D->M D
 | .int i=>rt (.int (-i))
 |_=>fl
section
variable{G:Gx}{F:Fy}
def wfl{A:Prop}(h:wM G F σv tv ((fl:M D) s) Q):A:=False.elim h
def z66{i j:Int}(M:MRL G F.toFx ρ H σv tv s [.int i, .int j] [v,u]):v= .int i/\u= .int j:=by
 obtain⟨h1,h2⟩:=M.rd2
 erw[RD] at h1 h2
 exact⟨h1,h2⟩
def zhb:zaj G F (λx y H Q=>rI0 (λi j=> .int (i+j)) x y H Q\/zeC G.K x y H Q\/zk0 x y H Q\/∃i j,x= .str i/\y= .str j/\i.length+j.length<=qg/\Q (.str (i++j)) H) K1:=by
 intro ρ s t t' v u H σv tv Q M W
 delta K1 at W
 split at W
 .obtain⟨rfl,rfl⟩:=z66 M
  exact .inl ⟨_,_,rfl,rfl,λ_=>W.flat M.m rfl⟩
 .split at W
  .rename_i a b hz
   obtain⟨h1,h2⟩:=M.rd2
   obtain⟨l1,l2⟩:=M.lb2
   obtain⟨p,xs,rfl,s1,r1⟩:=h1.tupx
   obtain⟨q,ys,rfl,s2,r2⟩:=h2.tupx
   refine .inr (.inl ⟨p,q,xs,ys,rfl,rfl,s1,s2,by rw[<-r1.length,<-r2.length];exact hz,z4V W M.m (r1.append r2) ?_⟩)
   rw[v0]
   intro l hl
   rcases l4.mp hl with q|q
   .exact l1 l (by simpa only[labs] using q)
   .exact l2 l (by simpa only[labs] using q)
  .exact wfl W
 .split at W
  .rename_i la a lb b hz
   obtain⟨h1,h2⟩:=M.rd2
   obtain⟨l1,l2⟩:=M.lb2
   erw[RD] at h1 h2
   obtain⟨rfl,xs,s1,r1⟩:=h1
   obtain⟨rfl,ys,s2,r2⟩:=h2
   refine .inr (.inr (.inl ⟨_,_,xs,ys,rfl,rfl,s1,s2,by rw[<-r1.length,<-r2.length];exact hz,λp hp k=>z2A W M.m (r1.append r2) ?_ hp k⟩))
   rw[v0]
   intro l hl
   rcases l4.mp hl with q|q
   .exact l1 l (by erw[labs];exact i5 _ q)
   .exact l2 l (by erw[labs];exact i5 _ q)
  .exact wfl W
 .split at W
  .rename_i a b hz
   obtain⟨h1,h2⟩:=M.rd2
   erw[RD] at h1 h2
   subst h1 h2
   exact .inr (.inr (.inr ⟨_,_,rfl,rfl,hz,λ_=>W.flat M.m rfl⟩))
  .exact wfl W
 .exact wfl W
def zhc:zaj G F (rI0 λi j=> .int (i -j)) zdr:=by
 intro ρ s t t' v u H σv tv Q M W
 delta zdr at W
 split at W
 .obtain⟨rfl,rfl⟩:=z66 M
  exact⟨_,_,rfl,rfl,λ_=>W.flat M.m rfl⟩
 .exact wfl W
def zeK:zaj G F (rI zg9 λi j=> .int (i/j)) z4W:=by
 intro ρ s t t' v u H σv tv Q M W
 delta z4W at W
 split at W
 .split at W
  .rename_i hc
   obtain⟨rfl,rfl⟩:=z66 M
   exact⟨_,_,rfl,rfl,hc,λ_=>W.flat M.m rfl⟩
  .exact wfl W
 .exact wfl W
def zhd:zaj G F (rI (λ_ j=>0<j) λi j=> .int (i %j)) z3j:=by
 intro ρ s t t' v u H σv tv Q M W
 delta z3j at W
 split at W
 .split at W
  .rename_i hc
   obtain⟨rfl,rfl⟩:=z66 M
   exact⟨_,_,rfl,rfl,hc,λ_=>W.flat M.m rfl⟩
  .exact wfl W
 .exact wfl W
def zhe:zaj G F (rI zga λi j=> .int (i^j.toNat)) zds:=by
 intro ρ s t t' v u H σv tv Q M W
 delta zds at W
 split at W
 .split at W
  .rename_i hc
   obtain⟨rfl,rfl⟩:=z66 M
   exact⟨_,_,rfl,rfl,hc,λ_=>W.flat M.m rfl⟩
  .exact wfl W
 .exact wfl W
def zka:z3y G F (rI0 λi j=> .bl (decide (i<j))) ltD:=by
 intro ρ s t t' v u H σv tv Q M W
 delta ltD at W
 split at W
 .obtain⟨rfl,rfl⟩:=z66 M
  exact⟨_,_,rfl,rfl,W.flat M.m rfl⟩
 .exact wfl W
def zkb:z3y G F (rI0 λi j=> .bl (decide (j<i))) gtD:=by
 intro ρ s t t' v u H σv tv Q M W
 delta gtD at W
 split at W
 .obtain⟨rfl,rfl⟩:=z66 M
  exact⟨_,_,rfl,rfl,W.flat M.m rfl⟩
 .exact wfl W
def zkc:z3y G F (zju G.K false) eqD:=by
 intro ρ s t t' v u H σv tv Q M W
 delta eqD at W
 split at W
 .rename_i hc
  erw[eqC,A7,decide_eq_true_eq] at hc
  obtain⟨⟨⟨⟨c1,c2⟩,c3⟩,c4⟩,c5⟩:=hc
  obtain⟨h1,h2⟩:=M.rd2
  exact⟨er t,er t',RD.dp _ _ h1 c1,RD.dp _ _ h2 c2,c3,c4,c5,W.flat M.m rfl⟩
 .exact wfl W
def zkd:z3y G F (zju G.K true) neD:=by
 intro ρ s t t' v u H σv tv Q M W
 delta neD at W
 split at W
 .rename_i hc
  erw[eqC,A7,decide_eq_true_eq] at hc
  obtain⟨⟨⟨⟨c1,c2⟩,c3⟩,c4⟩,c5⟩:=hc
  obtain⟨h1,h2⟩:=M.rd2
  exact⟨er t,er t',RD.dp _ _ h1 c1,RD.dp _ _ h2 c2,c3,c4,c5,W.flat M.m rfl⟩
 .exact wfl W
def RD.non_iff(h:RD G ρ H t v):v= .non↔t= .non:=by
 cases t<;>erw[RD] at h<;>(try (subst h;simp))<;>(try (obtain⟨a,xs,rfl,_⟩:=h;simp))<;>(try (obtain⟨rfl,_⟩:=h;simp))<;>(try (obtain⟨a,o,C,rfl,_⟩:=h;simp))<;>(try (obtain⟨a,rfl,_⟩:=h;simp))<;>(try (obtain⟨a,o,u,xs,rfl,_⟩:=h;simp))
def zhf:z3y G F (λx y H Q=>y= .non/\Q (.bl (decide (x= .non))) H) isN:=by
 intro ρ s t t' v u H σv tv Q M W
 obtain⟨h1,h2⟩:=M.rd2
 have e1:=h1.non_iff
 delta isN at W
 split at W
 .erw[RD] at h2
  exact⟨h2,by rw[decide_eq_true (e1.mpr rfl)];exact W.flat M.m rfl⟩
 .rename_i ne
  erw[RD] at h2
  exact⟨h2,by rw[decide_eq_false (λz=>ne (e1.mp z))];exact W.flat M.m rfl⟩
 .exact wfl W
def zeL:z3y G F (λx y H Q=>y= .non/\Q (.bl (!decide (x= .non))) H) zgc:=by
 intro ρ s t t' v u H σv tv Q M W
 obtain⟨h1,h2⟩:=M.rd2
 have e1:=h1.non_iff
 delta zgc at W
 split at W
 .erw[RD] at h2
  exact⟨h2,by rw[decide_eq_true (e1.mpr rfl)];exact W.flat M.m rfl⟩
 .rename_i ne
  erw[RD] at h2
  exact⟨h2,by rw[decide_eq_false (λz=>ne (e1.mp z))];exact W.flat M.m rfl⟩
 .exact wfl W
def zhg{i:Int}(r:RDs G ρ H ds xs)(e:atI ds i=some d): ∃x,atI xs i=some x/\RD G ρ H d x:=by
 delta atI at e⊢
 rw[<-r.length]
 cases e1:ixN ds.length i with
 |none=>rw[e1] at e;cases e
 |some j=>
  rw[e1] at e
  exact r.get j d e
def zeM{α:Type}{ds:List α}{i:Int}{d:α}(e:atI ds i=some d):d∈ds:=by
 delta atI at e
 cases e1:ixN ds.length i with
 |none=>rw[e1] at e;cases e
 |some j=>
  rw[e1] at e
  exact List.mem_of_getElem? e
def zke:zaj G F (λx y H Q=>zlm G.K x y H Q\/zln G.K x y H Q) ixD:=by
 intro ρ s t t' v u H σv tv Q M W
 obtain⟨h1,h2⟩:=M.rd2
 delta ixD at W
 cases e:z9q t with
 |none=>rw[e] at W;exact False.elim W
 |some ds=>
  rw[e] at W
  cases t' with
  |int i=>
   have W:wM G F σv tv (zgd (atI ds i) s) Q:=W
   cases ea:atI ds i with
   |some d=>
    rw[ea] at W
    obtain⟨a,xs,rfl,sq,r,sub⟩:=h1.seq e
    obtain⟨x,ex,rx⟩:=zhg r ea
    erw[RD] at h2
    subst h2
    have fin:KD G.K H->Q x H:=λ_=>W.out M.m rx λl hl=>M.lb2.1 l (sub l (qk (zeM ea) l hl))
    rcases sq with sq|sq
    .exact .inl ⟨a,xs,i,x,rfl,rfl,sq,ex,fin⟩
    .exact .inr ⟨a,xs,i,x,rfl,rfl,sq,ex,fin⟩
   |none=>rw[ea] at W;exact False.elim W
  |_=>exact False.elim W
def zhh:zk7 G F (rU λi=> .int (-i)) zcd:=by
 intro ρ s t v H σv tv Q M W
 delta zcd at W
 split at W
 .have h:=M.rd1
  erw[RD] at h
  exact⟨_,h,λ_=>W.flat M.m rfl⟩
 .exact wfl W
variable{X:Cx}{e a b c:bi}{pos:bO}
def z67{α:Type}(xs:List α)(lo hi:Option Int):List α:=(xs.drop (HT.sIx xs.length 0 lo)).take (HT.sIx xs.length xs.length hi -HT.sIx xs.length 0 lo)
def slD:D->Option Int->Option Int->M D
 | .tup ds,lo,hi=>rt (.tup (z67 ds lo hi))
 | .lst _ ds,lo,hi=>zeJ (z67 ds lo hi)
 | .ro ds,lo,hi=>zeJ (z67 ds lo hi)
 |_,_,_=>fl
def RDs.cut(r:RDs G ρ H ds xs) lo hi:RDs G ρ H (z67 ds lo hi) (z9P xs lo hi):=by
 delta z67 z9P
 rw[r.length]
 exact(r.drop _).take _
def z3z{l:Nat}(h:l∈qq (z67 ds lo hi)):l∈qq ds:=by
 obtain⟨d,h1,h2⟩:=K0 h
 exact qk (List.mem_of_mem_drop (F8 h1)) l h2
def mInt(d:D):Option Int:=match d with| .int i=>some i|_=>none
def z4l:Option (M D)->M (Option Int)
 |none=>rt none
 |some m=>bd m λd=>match mInt d with|some i=>rt (some i)|none=>fl
def tP(G:Gx)(F:Fy)(m:M (Option Int)):TO:=λ σv H Q=> ∃tv,F.tv0<:+tv/\∃ρ s,MR G F.toFx ρ H σv tv s/\(match m s with
 | .ok o s'=> ∀ρ' H',MR G F.toFx ρ' H' σv tv s'->Q o H'
 | .ex d s'=>F.xw d s'
 | .no=>False)
def SO(X:Cx)(G:Gx)(F:Fy)(e:Option bi)(m:Option (M D)):Prop:=PO X e (tP G F (z4l m))
def mSl(m:M D)(lo hi:Option (M D)):M D:=bd m λx=>bd (psh x) λ_=>bd (z4l lo) λl=>bd (z4l hi) λh=>bd pop λx'=>slD x' l h
def zkf(M:MRL G F.toFx ρ H σv tv s [t] [v])(W:wM G F σv tv (slD t lo hi s) Q):
 zk6 G.K v lo hi H (λw H'=>KD G.K H'->Q w H')\/zjY G.K v lo hi H (λw H'=>KD G.K H'->Q w H'):=by
 have h:=M.rd1
 cases t with
 |tup ds=>
  obtain⟨p,xs,rfl,s1,r1⟩:=h.tupx
  exact .inl ⟨p,xs,rfl,s1,z4V W M.m (r1.cut lo hi) λl hl=>M.lb1 l (by erw[labs];exact z3z hl)⟩
 |lst n ds=>
  obtain⟨p,xs,rfl,s1,r1,_⟩:=h.lstq (ds:=ds) rfl
  exact .inr ⟨p,xs,rfl,s1,λq hq k=>z2A W M.m (r1.cut lo hi) (λl hl=>M.lb1 l (by erw[labs];exact i5 _ (z3z hl))) hq k⟩
 |ro ds=>
  obtain⟨p,xs,rfl,s1,r1,_⟩:=h.lstq (ds:=ds) rfl
  exact .inr ⟨p,xs,rfl,s1,λq hq k=>z2A W M.m (r1.cut lo hi) (λl hl=>M.lb1 l (by erw[labs];exact z3z hl)) hq k⟩
 |_=>exact False.elim W
def j3(ts:List D):M D:=if ts.length<=qg then rt (.tup ts) else fl
def lstM(ts:List D):M D:=if ts.length<=qg then zeJ ts else fl
def zhi:K4 G F (λxs H1 Q=>xs.length<=qg/\∀p,H1 p=none->Q (.ref p) (upd H1 p (.tup xs))) j3:=by
 intro ρ s ts vs H σv tv Q M W
 delta j3 at W
 split at W
 .rename_i hz
  exact⟨by rw[<-M.rd.length];exact hz,λp hp k=>zeI W M.m M.rd M.lb hp k⟩
 .exact wfl W
def zhj:K4 G F (λxs H1 Q=>xs.length<=qg/\∀p,H1 p=none->Q (.ref p) (upd H1 p (.lst xs))) lstM:=by
 intro ρ s ts vs H σv tv Q M W
 delta lstM at W
 split at W
 .rename_i hz
  exact⟨by rw[<-M.rd.length];exact hz,λp hp k=>z2A W M.m M.rd M.lb hp k⟩
 .exact wfl W
def zeN:D->M Bool
 | .non=>rt false
 | .bool b=>rt b
 | .int i=>rt (i !=0)
 | .str x=>if x.length<=qg then rt ((x.length:Int) !=0) else fl
 | .tup ds=>rt (!ds.isEmpty)
 | .ro ds=>rt (!ds.isEmpty)
 | .lst _ ds=>rt (!ds.isEmpty)
 |_=>fl
def z1r(m:M D):M Bool:=bd m zeN
def z2B{ds:List D}{xs:List V}(r:RDs G ρ H ds xs):(!ds.isEmpty)= !xs.isEmpty:=by
 have:=r.length
 cases ds<;>cases xs<;>simp at this⊢
def zhk{Q:Bool->Hp->Prop}(M:MRL G F.toFx ρ H σv tv s [t] [v])(W:wB G F σv tv (zeN t s) Q): ∃k,TruV G.K v H k/\Q k H:=by
 have h:=M.rd1
 cases t with
 |non=>erw[RD] at h;subst h;exact⟨false,rfl,W ρ H M.m⟩
 |bool b=>erw[RD] at h;subst h;exact⟨b,rfl,W ρ H M.m⟩
 |int i=>erw[RD] at h;subst h;exact⟨_,rfl,W ρ H M.m⟩
 |str x=>
  erw[RD] at h;subst h
  delta zeN at W
  by_cases hz:x.length<=qg
  .erw[qy hz] at W;exact⟨_,⟨hz,rfl⟩,W ρ H M.m⟩
  .erw[qh hz] at W;exact False.elim W
 |tup ds=>
  obtain⟨p,xs,rfl,s1,r1⟩:=h.tupq
  exact⟨_, .inr (.inl ⟨xs,s1,z2B r1⟩),W ρ H M.m⟩
 |ro ds=>
  obtain⟨p,xs,rfl,s1,r1,_⟩:=h.lstq (ds:=ds) rfl
  exact⟨_, .inl ⟨xs,s1,z2B r1⟩,W ρ H M.m⟩
 |lst n ds=>
  obtain⟨p,xs,rfl,s1,r1,_⟩:=h.lstq (ds:=ds) rfl
  exact⟨_, .inl ⟨xs,s1,z2B r1⟩,W ρ H M.m⟩
 |dct _ _ _=>exact False.elim W
 |fdc _ _=>exact False.elim W
 |obj _ _ _ _=>exact False.elim W
 |exc _=>exact False.elim W
 |fn _=>exact False.elim W
def zce{Q:Bool->Hp->Prop}(h:tMB G F (z1r m) σ H Q):tM G F m σ H λx H'=> ∃k,TruV G.K x H' k/\Q k H':=by
 obtain⟨tv,hs,ρ,s,M,W⟩:=h
 refine⟨tv,hs,ρ,s,M, ?_⟩
 delta z1r bd at W
 cases e:m s with
 |ok t s1=>rw[e] at W;exact λ ρ1 v H1 M1=>zhk M1 W
 |ex d s1=>rw[e] at W;exact W
 |no=>rw[e] at W;exact W
def zhl:D->M Bool
 | .bool b=>rt b
 |_=>fl
def J4(m:M D):M Bool:=bd m zhl
def zeO{Q:Bool->Hp->Prop}(h:tMB G F (J4 m) σ H Q):tM G F m σ H λx H'=> ∃k,x= .bl k/\Q k H':=by
 obtain⟨tv,hs,ρ,s,M,W⟩:=h
 refine⟨tv,hs,ρ,s,M, ?_⟩
 delta J4 bd at W
 cases e:m s with
 |ok t s1=>
  rw[e] at W
  intro ρ1 v H1 M1
  have h:=M1.rd1
  cases t with
  |bool b=>erw[RD] at h;exact⟨b,h,W ρ1 H1 M1.m⟩
  |_=>exact False.elim W
 |ex d s1=>rw[e] at W;exact W
 |no=>rw[e] at W;exact W
def zeP(ho:OpR X (bI op) r)(hg:z3y G F r g)(ha:SE X G F a ma)(hb:SE X G F b mb)(hm:bL op b=false):SB X G F (.Compare a [op] [b] pos) (J4 (y4 ma mb g)):=
 PT.imp0 (zef ho ha hb hm) λ_ _ _ h=>z83 hg (zeO h)
def zeQ{Q:Bool->Hp->Prop}(h:tBv G F (bd m f) σ tv H Q):tBv G F m σ tv H λb H1=> ∃ρ1 s1,MR G F.toFx ρ1 H1 σ tv s1/\wB G F σ tv (f b s1) Q:=by
 obtain⟨hs,ρ,s,M,W⟩:=h
 refine⟨hs,ρ,s,M, ?_⟩
 delta bd at W
 cases e:m s with
 |ok b s1=>rw[e] at W;exact λ ρ1 H1 M1=>⟨ρ1,s1,M1,W⟩
 |ex d s1=>rw[e] at W;exact W
 |no=>rw[e] at W;exact W
def wB.mono{Q Q':Bool->Hp->Prop}(h:wB G F σv tv r Q)(k: ∀v H,Q v H->Q' v H):wB G F σv tv r Q':=by
 cases r with
 |ok t s=>exact λ ρ H M=>k _ _ (h ρ H M)
 |ex d s=>exact h
 |no=>exact h
def tBv.mono{Q Q':Bool->Hp->Prop}(h:tBv G F m σv tv H Q)(k: ∀v H,Q v H->Q' v H):tBv G F m σv tv H Q':=by
 obtain⟨hs,ρ,s,M,W⟩:=h
 exact⟨hs,ρ,s,M,W.mono k⟩
def zdt{α:Type}(b:Bool)(m m':M α):M α:=match b with|true=>m|false=>m'
def z9r(m m':M Bool):M Bool:=bd m λb=>zdt b m' (rt false)
def mOr(m m':M Bool):M Bool:=bd m λb=>zdt b (rt true) m'
def z9s(m:M Bool):M Bool:=bd m λb=>rt (!b)
def SW(X:Cx)(G:Gx)(F:Fy)(e:bi)(m:M Bool):Prop:=PW X e (tMB G F m)
def PW.imp0(h:PW X e t)(hi: ∀σ H Q,t' σ H Q->t σ H Q):PW X e t':=λwh qx s σ H Q I q=>h wh qx s σ H _ I (hi σ H Q q)
def z8W(m m':M D):M D:=bd (J4 m) λb=>zdt b m' (rt (.bool false))
def zcf(m:M D):M D:=bd (J4 m) λb=>rt (.bool (!b))
def zdu(h:tM G F (bd (J4 m) f) σ H Q):tM G F m σ H λx H1=> ∃k,x= .bl k/\∃ρ1 s1 tv,F.tv0<:+tv/\MR G F.toFx ρ1 H1 σ tv s1/\wM G F σ tv (f k s1) Q:=by
 obtain⟨tv,hs,ρ,s,M,W⟩:=h
 refine⟨tv,hs,ρ,s,M, ?_⟩
 delta J4 bd at W
 cases e:m s with
 |ok t s1=>
  rw[e] at W
  intro ρ1 v H1 M1
  have h:=M1.rd1
  cases t with
  |bool b=>erw[RD] at h;exact⟨b,h,ρ1,s1,tv,hs,M1.m,W⟩
  |_=>exact False.elim W
 |ex d s1=>rw[e] at W;exact W
 |no=>rw[e] at W;exact W
def tM.mono(h:tM G F m σ H Q)(k: ∀v H,Q v H->Q' v H):tM G F m σ H Q':=by
 obtain⟨tv,h⟩:=h
 exact⟨tv,h.mono k⟩
end
def X8:List D->M D
 |[.tup ds]=>rt (.int ds.length)
 |[.ro ds]=>rt (.int ds.length)
 |[.lst _ ds]=>rt (.int ds.length)
 |_=>fl
def zge:List D->M D
 |[.int i]=>rt (.int (if i<0 then -i else i))
 |_=>fl
def zeR:List D->M D
 |[.int i, .int j]=>rt (.int (if j<i then j else i))
 |_=>fl
def zgf:List D->M D
 |[.int i, .int j]=>rt (.int (if j>i then j else i))
 |_=>fl
def z06:List D->Option (List Bool)
 |[]=>some []
 | .bool b::r=>(z06 r).map (b:: ·)
 |_=>none
def zdv:List D->M D
 |[.lst _ ds]=>match z06 ds with|some bs=>rt (.bool (bs.all id))|none=>fl
 |_=>fl
def zgg:List D->M D
 |[.lst _ ds]=>match z06 ds with|some bs=>rt (.bool (bs.any id))|none=>fl
 |_=>fl
def zbJ:List D->M D
 |[.int i]=>rt (.int i)
 |[.bool b]=>rt (.int (if b then 1 else 0))
 |_=>fl
def z68:List D->M D
 |[.tup ds]=>rt (.tup ds)
 |[.ro ds]=>rt (.tup ds)
 |[.lst _ ds]=>rt (.tup ds)
 |_=>fl
def z4m:List D->M D
 |[.tup ds]=>zeJ ds
 |[.ro ds]=>zeJ ds
 |[.lst _ ds]=>zeJ ds
 |_=>fl
section
variable{X:Cx}{G:Gx}{F:Fy}{e a b c:bi}{pos:bO}
def MRL.one{s:Stt}(M:MRL G F.toFx ρ H σv tv s [t] vs): ∃v,vs=[v]/\RD G ρ H t v/\LB F.toFx ρ s.n (labs t):=by
 have h:=M.rd
 erw[RDs] at h
 obtain⟨v,r,rfl,h,rfl⟩:=h
 exact⟨v,rfl,h,M.lb1⟩
def MRL.two(M:MRL G F.toFx ρ H σv tv s [t,t'] vs): ∃v u,vs=[v,u]/\RD G ρ H t v/\RD G ρ H t' u:=by
 have h:=M.rd
 erw[RDs] at h
 obtain⟨v,r,rfl,h,u,q,rfl,h',rfl⟩:=h
 exact⟨v,u,rfl,h,h'⟩
def zhm:K4 G F (λxs H Q=> ∃p ys,xs=[.ref p]/\(SqL G.K H p ys\/SqT G.K H p ys)/\Q (.int ys.length) H) X8:=by
 intro ρ s ts vs H σv tv Q M W
 delta X8 at W
 split at W
 .obtain⟨v,rfl,h,_⟩:=M.one
  obtain⟨p,xs,rfl,s1,r1,_⟩:=h.seq rfl
  exact⟨p,xs,rfl,s1,λ_=>by rw[<-r1.length];exact W.flat M.m rfl⟩
 .obtain⟨v,rfl,h,_⟩:=M.one
  obtain⟨p,xs,rfl,s1,r1,_⟩:=h.seq rfl
  exact⟨p,xs,rfl,s1,λ_=>by rw[<-r1.length];exact W.flat M.m rfl⟩
 .obtain⟨v,rfl,h,_⟩:=M.one
  obtain⟨p,xs,rfl,s1,r1,_⟩:=h.seq rfl
  exact⟨p,xs,rfl,s1,λ_=>by rw[<-r1.length];exact W.flat M.m rfl⟩
 .exact wfl W
def zhn:K4 G F (λxs H Q=> ∃i,xs=[.int i]/\Q (.int (if i<0 then -i else i)) H) zge:=by
 intro ρ s ts vs H σv tv Q M W
 delta zge at W
 split at W
 .obtain⟨v,rfl,h,_⟩:=M.one
  erw[RD] at h
  subst h
  exact⟨_,rfl,λ_=>W.flat M.m rfl⟩
 .exact wfl W
def zho:K4 G F (λxs H Q=> ∃i j,xs=[.int i, .int j]/\Q (.int (if j<i then j else i)) H) zeR:=by
 intro ρ s ts vs H σv tv Q M W
 delta zeR at W
 split at W
 .obtain⟨v,u,rfl,h,h'⟩:=M.two
  erw[RD] at h h'
  subst h h'
  exact⟨_,_,rfl,λ_=>W.flat M.m rfl⟩
 .exact wfl W
def zhp:K4 G F (λxs H Q=> ∃i j,xs=[.int i, .int j]/\Q (.int (if j>i then j else i)) H) zgf:=by
 intro ρ s ts vs H σv tv Q M W
 delta zgf at W
 split at W
 .obtain⟨v,u,rfl,h,h'⟩:=M.two
  erw[RD] at h h'
  subst h h'
  exact⟨_,_,rfl,λ_=>W.flat M.m rfl⟩
 .exact wfl W
theorem z4X: ∀{ds:List D} {xs:List V} {bs:List Bool},RDs G ρ H ds xs->z06 ds=some bs->xs=bs.map V.bl
 |[],xs,bs,r,e=>by erw[RDs] at r;erw[z06,Option.some.injEq] at e;subst r e;rfl
 |d::ds,xs,bs,r,e=>by
  erw[RDs] at r
  obtain⟨x,q,rfl,h1,h2⟩:=r
  cases d with
  |bool b=>
   erw[z06] at e
   cases e1:z06 ds with
   |none=>rw[e1] at e;cases e
   |some cs=>
    rw[e1] at e
    cases e
    erw[RD] at h1
    rw[h1,z4X h2 e1];rfl
  |_=>erw[z06] at e;cases e
def zhq:K4 G F (λxs H Q=> ∃(p:Addr) (bs:List Bool),xs=[.ref p]/\SqL G.K H p (bs.map V.bl)/\Q (.bl (bs.all id)) H) zdv:=by
 intro ρ s ts vs H σv tv Q M W
 delta zdv at W
 split at W
 .rename_i l ds
  cases e1:z06 ds with
  |none=>rw[e1] at W;exact False.elim W
  |some bs=>
   rw[e1] at W
   obtain⟨v,rfl,h,_⟩:=M.one
   obtain⟨p,xs,rfl,s1,r1,_⟩:=h.lstq (ds:=ds) rfl
   rw[z4X r1 e1] at s1
   exact⟨p,bs,rfl,s1,λ_=>W.flat M.m rfl⟩
 .exact wfl W
def zhr:K4 G F (λxs H Q=> ∃(p:Addr) (bs:List Bool),xs=[.ref p]/\SqL G.K H p (bs.map V.bl)/\Q (.bl (bs.any id)) H) zgg:=by
 intro ρ s ts vs H σv tv Q M W
 delta zgg at W
 split at W
 .rename_i l ds
  cases e1:z06 ds with
  |none=>rw[e1] at W;exact False.elim W
  |some bs=>
   rw[e1] at W
   obtain⟨v,rfl,h,_⟩:=M.one
   obtain⟨p,xs,rfl,s1,r1,_⟩:=h.lstq (ds:=ds) rfl
   rw[z4X r1 e1] at s1
   exact⟨p,bs,rfl,s1,λ_=>W.flat M.m rfl⟩
 .exact wfl W
def zhs:K4 G F (λxs H Q=>(∃i,xs=[.int i]/\Q (.int i) H)\/∃k,xs=[.bl k]/\Q (.int (if k then 1 else 0)) H) zbJ:=by
 intro ρ s ts vs H σv tv Q M W
 delta zbJ at W
 split at W
 .obtain⟨v,rfl,h,_⟩:=M.one
  erw[RD] at h
  subst h
  exact .inl ⟨_,rfl,λ_=>W.flat M.m rfl⟩
 .obtain⟨v,rfl,h,_⟩:=M.one
  erw[RD] at h
  subst h
  exact .inr ⟨_,rfl,λ_=>W.flat M.m rfl⟩
 .exact wfl W
def zeS:K4 G F (λxs H Q=> ∃(p:Addr) (ys:List V),xs=[.ref p]/\(SqL G.K H p ys\/H p=some (.tup ys))/\zc7 G.K H ys Q) z68:=by
 intro ρ s ts vs H σv tv Q M W
 have fin: ∀(t:D) (ds:List D),ts=[t]->z9q t=some ds->wM G F σv tv (.ok (.tup ds) s) Q->∃(p:Addr) (ys:List V),vs=[.ref p]/\(SqL G.K H p ys\/H p=some (.tup ys))/\zc7 G.K H ys (λw H'=>KD G.K H'->Q w H'):=λt ds et es W'=>by
  subst et
  obtain⟨v,rfl,h,lb⟩:=M.one
  obtain⟨p,xs,rfl,s1,r1,sub⟩:=h.seqx es
  exact⟨p,xs,rfl,s1,z4V W' M.m r1 λl hl=>lb l (sub l hl)⟩
 delta z68 at W
 split at W
 .exact fin _ _ rfl rfl W
 .exact fin _ _ rfl rfl W
 .exact fin _ _ rfl rfl W
 .exact wfl W
def zcg:K4 G F (λxs H Q=> ∃p ys,xs=[.ref p]/\(SqL G.K H p ys\/SqT G.K H p ys)/\∀l,H l=none->Q (.ref l) (upd H l (.lst ys))) z4m:=by
 intro ρ s ts vs H σv tv Q M W
 have fin: ∀(t:D) (ds:List D),ts=[t]->z9q t=some ds->wM G F σv tv (.ok (.lst s.n ds) s.nxt) Q->∃p ys,vs=[.ref p]/\(SqL G.K H p ys\/SqT G.K H p ys)/\∀l,H l=none->KD G.K (upd H l (.lst ys))->Q (.ref l) (upd H l (.lst ys)):=λt ds et es W'=>by
  subst et
  obtain⟨v,rfl,h,lb⟩:=M.one
  obtain⟨p,xs,rfl,s1,r1,sub⟩:=h.seq es
  exact⟨p,xs,rfl,s1,λl hl k=>z2A W' M.m r1 (λl hl=>lb l (sub l hl)) hl k⟩
 delta z4m at W
 split at W
 .exact fin _ _ rfl rfl W
 .exact fin _ _ rfl rfl W
 .exact fin _ _ rfl rfl W
 .exact wfl W
def isiD(T:String):D->Option Bool
 | .non=>some false
 | .bool _=>some (T== "int" ||T== "bool")
 | .int _=>some (T== "int")
 | .str _=>some (T== "str")
 | .tup _=>some (T== "tuple")
 | .ro _=>some (T== "list")
 | .lst _ _=>some (T== "list")
 |_=>none
def zeT(T:String)(m:M D):M D:=bd m λd=>match isiD T d with|some b=>rt (.bool b)|none=>fl
def zht{b:Bool}(h:RD G ρ H t v)(e:isiD T t=some b):zlq G.K H T b v:=by
 cases t<;>erw[isiD,Option.some.injEq] at e<;>try cases e
 .erw[RD] at h;subst h;exact rfl
 .erw[RD] at h;subst h;exact rfl
 .erw[RD] at h;subst h;exact rfl
 .erw[RD] at h;subst h;exact rfl
 .obtain⟨p,xs,rfl,s1,r1⟩:=h.tupq
  exact .inl ⟨xs,s1,rfl⟩
 .obtain⟨p,xs,rfl,s1,r1,_⟩:=h.lstq rfl
  exact .inr ⟨xs,s1,rfl⟩
 .obtain⟨p,xs,rfl,s1,r1,_⟩:=h.lstq rfl
  exact .inr ⟨xs,s1,rfl⟩
end
inductive RS where
 |nx (s:Stt)|rt (d:D) (s:Stt)|bk (s:Stt)|ct (s:Stt)|ex (d:D) (s:Stt)|no
abbrev MS:=Stt->RS
def z1o{α:Type}(m:M α)(f:α->MS):MS:=λs=>match m s with
 | .ok a s'=>f a s'
 | .ex d s'=> .ex d s'
 | .no=> .no
def Z1(m m':MS):MS:=λs=>match m s with
 | .nx s'=>m' s'
 |r=>r
def sNx:MS:=λs=> .nx s
def Q8(m:M D):MS:=z1o m λ_=>sNx
def K5(m:M D):MS:=z1o m λd s=> .rt d s
def zdw(b:Bool)(m m':MS):MS:=match b with|true=>m|false=>m'
def sIf(c:M Bool)(m m':MS):MS:=z1o c λb=>zdw b m m'
inductive Tg where
 |nm (i:Nat)|tp (ts:List Tg)
mutual
def asg:Tg->D->Qq->Option Qq
 | .nm i,t,σ=>some (σ.set i (some t))
 | .tp ts, .tup ds,σ=>asgL ts ds σ
 | .tp ts, .lst _ ds,σ=>asgL ts ds σ
 | .tp _,_,_=>none
def asgL:List Tg->List D->Qq->Option Qq
 |[],[],σ=>some σ
 |t::ts,d::ds,σ=>match asg t d σ with|some σ'=>asgL ts ds σ'|none=>none
 |_,_,_=>none
end
def Y1(g:Tg)(m:M D):MS:=z1o m λd s=>match asg g d s.σ with
 |some σ'=> .nx {s with σ:=σ'}
 |none=> .no
section
variable{X:Cx}{G:Gx}{F:Fy}{e a b c:bi}{st:Stmt}{sts rest:List Stmt}{pos:bO}
def wS(G:Gx)(F:Fy)(tv:List (Option V))(r:RS)(D:Ends):Prop:=match r with
 | .nx s'=> ∀ρ' σv' H',MR G F.toFx ρ' H' σv' tv s'->D.nx σv' H'
 | .rt t s'=> ∀ρ' σv' v H',MRL G F.toFx ρ' H' σv' tv s' [t] [v]->D.rt v H'
 | .bk s'=> ∀ρ' σv' H',MR G F.toFx ρ' H' σv' tv s'->D.bk σv' H'
 | .ct s'=> ∀ρ' σv' H',MR G F.toFx ρ' H' σv' tv s'->D.ct σv' H'
 | .ex d s'=>F.xw d s'
 | .no=>False
def tSv(G:Gx)(F:Fy)(m:MS)(tv:List (Option V))(D:Ends)(σv:St)(H:Hp):Prop:=F.tv0<:+tv/\∃ρ s,MR G F.toFx ρ H σv tv s/\wS G F tv (m s) D
def tS(G:Gx)(F:Fy)(m:MS):TS:=λD σv H=> ∃tv,tSv G F m tv D σv H
def SS(X:Cx)(G:Gx)(F:Fy)(st:Stmt)(m:MS):Prop:=PS X st (tS G F m)
def SSs(X:Cx)(G:Gx)(F:Fy)(sts:List Stmt)(m:MS):Prop:=PSs X sts (tS G F m)
def PS.imp0(h:PS X st t)(hi: ∀D σ H,t' D σ H->t D σ H):PS X st t':=λqx s σ H D I q=>h qx s σ H D I (hi D σ H q)
def PSs.imp0(h:PSs X sts t)(hi: ∀D σ H,t' D σ H->t D σ H):PSs X sts t':=λqx s σ H D I q=>h qx s σ H D I (hi D σ H q)
def z19{m:M D}{f:D->MS}{tv:List (Option V)}{D:Ends}{σ:St}{H:Hp}(h:tSv G F (z1o m f) tv D σ H):tMv G F m σ tv H λv H1=> ∃ρ1 s1 t,MRL G F.toFx ρ1 H1 σ tv s1 [t] [v]/\wS G F tv (f t s1) D:=by
 obtain⟨hs,ρ,s,M,W⟩:=h
 refine⟨hs,ρ,s,M, ?_⟩
 delta z1o at W
 cases e:m s with
 |ok t s1=>rw[e] at W;exact λ ρ1 v H1 M1=>⟨ρ1,s1,t,M1,W⟩
 |ex d s1=>rw[e] at W;exact W
 |no=>rw[e] at W;exact W
def z69{m:M Bool}{f:Bool->MS}{tv:List (Option V)}{D:Ends}{σ:St}{H:Hp}(h:tSv G F (z1o m f) tv D σ H):tBv G F m σ tv H λb H1=> ∃ρ1 s1,MR G F.toFx ρ1 H1 σ tv s1/\wS G F tv (f b s1) D:=by
 obtain⟨hs,ρ,s,M,W⟩:=h
 refine⟨hs,ρ,s,M, ?_⟩
 delta z1o at W
 cases e:m s with
 |ok t s1=>rw[e] at W;exact λ ρ1 H1 M1=>⟨ρ1,s1,M1,W⟩
 |ex d s1=>rw[e] at W;exact W
 |no=>rw[e] at W;exact W
def tGn(G:Gx)(F:Fy)(g:Tg):TG:=λv σv H Q=> ∃tv ρ s t,MRL G F.toFx ρ H σv tv s [t] [v]/\∃σ',asg g t s.σ=some σ'/\∀σv',MR G F.toFx ρ H σv' tv {s with σ:=σ'}->Q σv' H
def tGs(G:Gx)(F:Fy)(g:List Tg):TGs:=λvs σv H Q=> ∃tv ρ s ts,MRL G F.toFx ρ H σv tv s ts vs/\∃σ',asgL g ts s.σ=some σ'/\∀σv',MR G F.toFx ρ H σv' tv {s with σ:=σ'}->Q σv' H
def SG(X:Cx)(G:Gx)(F:Fy)(tg:bi)(g:Tg):Prop:=PG X tg (tGn G F g)
def SGs(X:Cx)(G:Gx)(F:Fy)(tgs:List bi)(g:List Tg):Prop:=PGs X tgs (tGs G F g)
def MRL.setS{σv tv:List (Option V)} i(M:MRL G F.toFx ρ H σv tv s (t::ts) (v::vs)):MRL G F.toFx ρ H (σv.set i (some v)) tv {s with σ:=s.σ.set i (some t)} ts vs:=by
 have h:=M.rd
 erw[RDs] at h
 obtain⟨_,_,e,h1,h2⟩:=h
 cases e
 have lb1: ∀l∈labs t,l<s.n/\(F.A0 (ρ l)\/F.H0 (ρ l)=none):=λl h=>M.lb l (by erw[qq];exact i8 _ h)
 have all: ∀l∈V7 {s with σ:=s.σ.set i (some t)},l<s.n/\(F.A0 (ρ l)\/F.H0 (ρ l)=none):=λl h=>by
  rcases l4.mp h with h|h
  .rcases z3x l h with q|q
   .exact⟨M.m.lab l (i8 _ q),M.m.own l (i8 _ q)⟩
   .exact lb1 l q
  .exact⟨M.m.lab l (i4 _ h),M.m.own l (i4 _ h)⟩
 exact⟨⟨M.m.sl.set i h1,M.m.tm,M.m.inj,M.m.dom,λl h=>(all l h).1,λl h=>(all l h).2,M.m.frm,M.m.kd,M.m.frb,M.m.bas⟩,h2,λl h=>M.lb l (by erw[qq];exact i4 _ h)⟩
def MRL.cons_inv{s:Stt}(M:MRL G F.toFx ρ H σv tv s (t::ts) vs): ∃v r,vs=v::r/\MRL G F.toFx ρ H σv tv s [t] [v]/\RDs G ρ H ts r/\LB F.toFx ρ s.n (qq ts):=by
 have h:=M.rd
 erw[RDs] at h
 obtain⟨v,r,rfl,h1,h2⟩:=h
 exact⟨v,r,rfl,⟨M.m,RDs.one h1,λl h=>M.lb l (by erw[qq,l7] at h⊢;exact i8 _ h)⟩,h2,λl h=>M.lb l (by erw[qq];exact i4 _ h)⟩
def PGs.imp0(h:PGs X es t)(hi: ∀vs σ H Q,t' vs σ H Q->t vs σ H Q):PGs X es t':=λqx s σ H vs us Q I r q=>h qx s σ H vs us Q I r (hi vs σ H Q q)
def PG.imp0(h:PG X e t)(hi: ∀v σ H Q,t' v σ H Q->t v σ H Q):PG X e t':=λqx s σ H v u Q I r q=>h qx s σ H v u Q I r (hi v σ H Q q)
def ss_set{i:Nat}(h: ∀{te:TE},PE X e te->PS X (.Assign [.Name x p] e pos) (zjr te (z9C i)))(he:SE X G F e m):SS X G F (.Assign [.Name x p] e pos) (Y1 (.nm i) m):=by
 refine PS.imp0 (h he) λD σ H ⟨tv,h⟩=>⟨tv,(z19 h).mono λv H1 ⟨ρ1,s1,t,M1,W⟩=> ?_⟩
 erw[asg] at W
 exact W ρ1 _ H1 (M1.setS i).m
def Y5(c:M Bool)(b:MS):Nat->MS
 |0=>λ_=> .no
 |f+1=>z1o c λk=>zdw k (λs=>match b s with
  | .nx s'=>Y5 c b f s'
  | .ct s'=>Y5 c b f s'
  | .bk s'=> .nx s'
  | .rt d s'=> .rt d s'
  | .ex d s'=> .ex d s'
  | .no=> .no) sNx
def z0A(fuel:Stt->Nat)(c:M Bool)(b:MS):MS:=λs=>Y5 c b (fuel s) s
end
structure ItK where
 k:Nat
 at':Nat->Qq->Option (Option D)
 len:Qq->Nat
def zhu(i:Nat):Qq->Option (Option D)
 |some c::_=>(zgb c).map λds=>ds[i]?
 |_=>none
def zhv(i:Nat):Qq->Option (Option D)
 |some (.tup ds)::_=>some ds[i]?
 |_=>none
def zdx:Qq->Nat
 |some (.tup ds)::_=>ds.length
 |some (.lst _ ds)::_=>ds.length
 |some (.ro ds)::_=>ds.length
 |_=>0
def kLst:ItK:=⟨1,zhu,zdx⟩
def zdy:ItK:=⟨1,zhv,zdx⟩
def z84(lo:Int)(n:Nat):ItK:=⟨0,λi _=>some (if i<n then some (.int (lo+i)) else none),λ_=>n⟩
def Stt.popn(s:Stt)(k:Nat):Stt:={s with tm:=s.tm.drop k}
section
variable{X:Cx}{G:Gx}{F:Fy}{e a b c tg iter:bi}{pos:bO}
def MR.popn{F:Fx}{ρ:Nat->Addr}{H:Hp}{σv tvs tv:List (Option V)}{s:Stt}(M:MR G F ρ H σv (tvs++tv) s):MR G F ρ H σv tv (s.popn tvs.length):=by
 have sub: ∀l∈V7 (s.popn tvs.length),l∈V7 s:=λl h=>by
  rcases l4.mp h with h|h
  .exact i8 _ h
  .refine i4 _ ?_
   have e:=Q4 (s.tm.take tvs.length) (s.tm.drop tvs.length)
   rw[L3] at e
   rw[e]
   exact i4 _ h
 exact⟨M.sl,(Sl.split tvs M.tm).2,M.inj,M.dom,λl h=>M.lab l (sub l h),λl h=>M.own l (sub l h),M.frm,M.kd,M.frb,M.bas⟩
def zhw(G:Gx)(J:It)(K:ItK)(tvs:List (Option V)):Prop:= ∀(F:Fx) ρ H σv tvp tv s i,MR G F ρ H σv (tvp++(tvs++tv)) s->match K.at' i (s.tm.drop tvp.length) with
 |none=>True
 |some none=>J.stop i H
 |some (some d)=>J.go i H/\∀x H',J.yld i H x H'->MRL G F ρ H' σv (tvp++(tvs++tv)) s [d] [x]
def tI(G:Gx)(F:Fy)(m:M ItK):TI:=λ σv H R=> ∃tv,F.tv0<:+tv/\∃ρ s,MR G F.toFx ρ H σv tv s/\match m s with
 | .ok K s'=> ∀ρ' H' tvs J,tvs.length=K.k->MR G F.toFx ρ' H' σv (tvs++tv) s'->zhw G J K tvs->R J H'
 | .ex d s'=>F.xw d s'
 | .no=>False
def SI(X:Cx)(G:Gx)(F:Fy)(tg iter:bi)(m:M ItK):Prop:=PI X tg iter (tI G F m)
def PI.imp0(h:PI X tg iter w)(hi: ∀σ H R,w' σ H R->w σ H R):PI X tg iter w':=λqx s σ H R I q=>h qx s σ H R I (hi σ H R q)
def zlT(K:W.Frag)(tl:TE):TI:=λ σ H R=>tl σ H λx H1=> ∃a,x= .ref a/\(((∃xs,SqL K H1 a xs)/\R (Itl K a) H1)\/((∃xs,SqT K H1 a xs)/\R (Itt K a) H1))
def zhx(hl:PE X l tl):PI X tg l (zlT X.K tl):=by
 intro qx s σ H R I h
 refine thn (hl qx s σ H _ I h) ?_
 rintro v s1 ⟨x,H1,I1,r1,q1⟩
 obtain⟨a,e,q|q⟩:=q1
 .subst e
  cases r1
  obtain⟨⟨xs,hq⟩,q⟩:=q
  obtain⟨its,rv,p,hz⟩:=I1.list hq
  refine bS p.isList ?_
  refine⟨s1.heap.objs.size,[s1.heap.objs.size],_,_,H1,rfl,I1.kept (t':=s1.toks) λb o e=>Heap.get?_push_of_some _ e,z9E a _,⟨_,Heap.get?_push_size _ rfl,rfl,rfl⟩,λb hb=> ?_,q⟩
  have e:b=s1.heap.objs.size:=by simpa using hb
  subst e
  exact I1.fpOk (i6 _) (I1.hok.fresh (i6 _))
 .subst e
  cases r1
  obtain⟨⟨xs,hq⟩,q⟩:=q
  obtain⟨its,rv,p,hz⟩:=I1.tuple hq
  refine wpAny_pyIter_tuple (show s1.heap.IsTuple a its.toArray from p) ?_
  refine⟨s1.heap.objs.size,[s1.heap.objs.size],_,_,H1,rfl,I1.kept (t':=s1.toks) λb o e=>Heap.get?_push_of_some _ e,z8H a _,⟨_,Heap.get?_push_size _ rfl,rfl,rfl⟩,λb hb=> ?_,q⟩
  have e:b=s1.heap.objs.size:=by simpa using hb
  subst e
  exact I1.fpOk (i6 _) (I1.hok.fresh (i6 _))
def j6(m:M D):M ItK:=bd m λd s=>match d with
 | .tup _=> .ok zdy (s.psh d)
 | .lst _ _=> .ok kLst (s.psh d)
 | .ro _=> .ok kLst (s.psh d)
 |_=> .no
def SqT.two{K:W.Frag}{H:Hp}{a:Addr}{xs ys:List V}(k:KD K H)(h:SqT K H a xs)(h':SqT K H a ys):xs=ys:=by
 rcases h with(h|⟨o,h⟩)|⟨o,its,n,h,_,hd,_,r⟩<;>rcases h' with(h'|⟨o',h'⟩)|⟨o',its',n',h',_,hd',_,r'⟩
 .rw[h] at h';cases h';rfl
 .rw[h] at h';cases h'
 .rw[k _ _ h'] at h;cases h
 .rw[h] at h';cases h'
 .rw[h] at h';cases h';rfl
 .rw[k _ _ h'] at h;cases h
 .rw[k _ _ h] at h';cases h'
 .rw[k _ _ h] at h';cases h'
 .rw[h] at h';cases h';rw[hd] at hd';cases hd';exact r.inj r'
def SqL.two{K:W.Frag}{H:Hp}{a:Addr}{xs ys:List V}(k:KD K H)(h:SqL K H a xs)(h':SqL K H a ys):xs=ys:=by
 rcases h with(h|⟨o,h⟩)|⟨o,its,n,h,_,_,hd,_,r⟩<;>rcases h' with(h'|⟨o',h'⟩)|⟨o',its',n',h',_,_,hd',_,r'⟩
 .rw[h] at h';cases h';rfl
 .rw[h] at h';cases h'
 .rw[k _ _ h'] at h;cases h
 .rw[h] at h';cases h'
 .rw[h] at h';cases h';rfl
 .rw[k _ _ h'] at h;cases h
 .rw[k _ _ h] at h';cases h'
 .rw[k _ _ h] at h';cases h'
 .rw[h] at h';cases h';rw[hd] at hd';cases hd';exact r.inj r'
def MR.head{F:Fx}{ρ:Nat->Addr}{H:Hp}{σv tv:List (Option V)}{s:Stt}{v:V}{c:D}{r:Qq}(M:MR G F ρ H σv (some v::tv) s)(e:s.tm=some c::r):RD G ρ H c v/\LB F ρ s.n (labs c):=by
 obtain⟨σ,tm,n⟩:=s
 have e:tm=some c::r:=e
 subst e
 exact⟨MR.top (s:=⟨σ,r,n⟩) M,MR.topl (s:=⟨σ,r,n⟩) M⟩
def z85{a:Addr}:zhw G (Itl G.K a) kLst [some (.ref a)]:=by
 intro F ρ H σv tvp tv s i M
 dsimp only[kLst]
 cases e:s.tm.drop tvp.length with
 |nil=>trivial
 |cons o r=>
  cases o with
  |none=>trivial
  |some c=>
   erw[zhu]
   obtain⟨h,lb⟩:=MR.head (s:=s.popn tvp.length) M.popn e
   cases e1:zgb c with
   |none=>trivial
   |some ds=>
    erw[i9]
    obtain⟨a',xs,ea,sq,rr,sub⟩:=h.lstq e1
    cases ea
    cases e2:ds[i]? with
    |none=>
     refine⟨xs,sq, ?_⟩
     rw[<-rr.length]
     exact List.getElem?_eq_none_iff.mp e2
    |some d=>
     obtain⟨x,ex,rx⟩:=rr.get i d e2
     refine⟨⟨xs,x,sq,ex⟩, ?_⟩
     rintro x' H' ⟨rfl,hx⟩
     rw[hx xs sq] at ex
     cases ex
     exact⟨M,RDs.one rx,λl hl=>lb l (sub l (qk (List.mem_of_getElem? e2) l (by simpa only[qq,l7] using hl)))⟩
def zch{a:Addr}:zhw G (Itt G.K a) zdy [some (.ref a)]:=by
 intro F ρ H σv tvp tv s i M
 dsimp only[zdy]
 cases e:s.tm.drop tvp.length with
 |nil=>trivial
 |cons o r=>
  cases o with
  |none=>trivial
  |some c=>
   obtain⟨h,lb⟩:=MR.head (s:=s.popn tvp.length) M.popn e
   cases c with
   |tup ds=>
    erw[zhv]
    obtain⟨a',xs,ea,sq,rr⟩:=h.tupq
    cases ea
    cases e2:ds[i]? with
    |none=>
     refine⟨xs,sq, ?_⟩
     rw[<-rr.length]
     exact List.getElem?_eq_none_iff.mp e2
    |some d=>
     obtain⟨x,ex,rx⟩:=rr.get i d e2
     refine⟨⟨xs,x,sq,ex⟩, ?_⟩
     rintro x' H' ⟨rfl,hx⟩
     rw[hx xs sq] at ex
     cases ex
     exact⟨M,RDs.one rx,λl hl=>lb l (by erw[labs];exact qk (List.mem_of_getElem? e2) l (by simpa only[qq,l7] using hl))⟩
   |_=>trivial
def zhy(ts:List D):M ItK:=match ts with
 |[.int j]=>if -(2^62)<=j/\j<2^62 then rt (z84 0 j.toNat) else fl
 |_=>fl
def zhz(ts:List D):M ItK:=match ts with
 |[.int i, .int j]=>if -(2^62)<=i/\i<2^62/\-(2^62)<=j/\j<2^62 then rt (z84 i (j -i).toNat) else fl
 |_=>fl
def X4(ms:List (M D)):M ItK:=bd (W8 ms) zhy
def z8X(ms:List (M D)):M ItK:=bd (W8 ms) zhz
def z86{lo:Int}{n:Nat}:zhw G (Itr lo n) (z84 lo n) []:=by
 intro F ρ H σv tvp tv s i M
 erw[z84]
 by_cases h:i<n
 .rw[qy h]
  refine⟨h, ?_⟩
  rintro x H' ⟨rfl,rfl⟩
  exact⟨M,RDs.one (by erw[RD]),λl hl=>by simp[qq,labs] at hl⟩
 .rw[qh h]
  exact R0.mp h
def forGo(K:ItK)(g:Tg)(b:MS):Nat->Nat->MS
 |f,i=>λs=>match K.at' i s.tm with
  |none=> .no
  |some none=> .nx (s.popn K.k)
  |some (some d)=>match f with
   |0=> .no
   |f+1=>match asg g d s.σ with
    |none=> .no
    |some σ'=>match b {s with σ:=σ'} with
     | .nx s'=>forGo K g b f (i+1) s'
     | .ct s'=>forGo K g b f (i+1) s'
     | .bk s'=> .nx (s'.popn K.k)
     | .rt t s'=> .rt t (s'.popn K.k)
     | .ex d s'=> .ex d s'
     | .no=> .no
def V8(mi:M ItK)(g:Tg)(b:MS):MS:=z1o mi λK s=>forGo K g b (K.len s.tm) 0 s
def MRL.popn{σv tvs tv:List (Option V)}{s:Stt}(M:MRL G F.toFx ρ H σv (tvs++tv) s ts vs):MRL G F.toFx ρ H σv tv (s.popn tvs.length) ts vs:=⟨M.m.popn,M.rd,M.lb⟩
def zlU(h:F.tv0<:+tv):F.tv0<:+tvs++tv:=h.trans (R3 _ _)
def zan{m:M ItK}{f:ItK->MS}{tv:List (Option V)}{D:Ends}{σ:St}{H:Hp}{R:It->Hp->Prop}(h:tSv G F (z1o m f) tv D σ H)
 (k: ∀K ρ' H' tvs J s',tvs.length=K.k->MR G F.toFx ρ' H' σ (tvs++tv) s'->zhw G J K tvs->wS G F tv (f K s') D->R J H'):tI G F m σ H R:=by
 obtain⟨hs,ρ,s,M,W⟩:=h
 refine⟨tv,hs,ρ,s,M, ?_⟩
 unfold z1o at W
 cases e:m s with
 |ok K s1=>rw[e] at W;exact λ ρ' H' tvs J hl M' hok=>k K ρ' H' tvs J s1 hl M' hok W
 |ex d s1=>rw[e] at W;exact W
 |no=>rw[e] at W;exact W
end
def Q5:Qq->Option (List D)
 |[]=>some []
 |some d::r=>(Q5 r).map (d:: ·)
 |none::_=>none
def z1t(K:ItK)(g:Tg)(mt:M Bool)(me:M D)(ol:Nat):Nat->Nat->Nat->M D
 |f,i,k=>λs=>match K.at' i (s.tm.drop (k+ol)) with
  |none=> .no
  |some none=>match Q5 (s.tm.take k).reverse with
   |some ds=> .ok (.lst s.n ds) {σ:=(s.tm.drop k).take ol,tm:=s.tm.drop (k+ol+K.k),n:=s.n+1}
   |none=> .no
  |some (some d)=>match f with
   |0=> .no
   |f+1=>match asg g d s.σ with
    |none=> .no
    |some σ'=>match mt {s with σ:=σ'} with
     | .ok false s1=>z1t K g mt me ol f (i+1) k s1
     | .ok true s1=>if k<qg then match me s1 with
      | .ok y s2=>z1t K g mt me ol f (i+1) (k+1) (s2.psh y)
      |_=> .no
      else .no
     |_=> .no
def zao(own:Nat)(ix:List Nat)(s:Stt):Stt:={σ:=B8 own none++ix.map (λi=>(s.σ[i]?).getD none),tm:=s.σ++s.tm,n:=s.n}
def V4(mi:M ItK)(g:Tg)(mt:M Bool)(me:M D)(own:Nat)(ix:List Nat):M D:=bd mi λK s=>z1t K g mt me s.σ.length (K.len s.tm) 0 0 (zao own ix s)
section
variable{X:Cx}{G:Gx}{F:Fy}{e a b c tg iter elt:bi}{pos:bO}
def Fy.prot(F:Fy)(D:Addr)(ys:List V)(h:F.H0 D=none):Fy where
 A0:=F.A0
 H0:=upd F.H0 D (.lst ys)
 Z:=λa=>a=D\/F.Z a
 zA:=λa z=>by
  rcases z with rfl|z
  .exact⟨⟨_,Z3⟩,λq=>by obtain⟨o,e⟩:=F.aH _ q;rw[h] at e;cases e⟩
  .obtain⟨⟨o,e⟩,n⟩:=F.zA a z
   exact⟨⟨o,by rw[Z5 (U4 e h)];exact e⟩,n⟩
 aH:=λa q=>by
  obtain⟨o,e⟩:=F.aH a q
  exact⟨o,by rw[Z5 (U4 e h)];exact e⟩
 n0:=F.n0
 ρ0:=F.ρ0
 tv0:=[]
 xw:=λ_ _=>False
theorem Sl.none_map: ∀k:Nat,Sl G ρ H (B8 k none) (B8 k none)
 |0=>by simp[Sl]
 |k+1=>by erw[T7,Sl];exact⟨_,_,rfl,Sl.none_map k⟩
theorem Sl.pick(h:Sl G ρ H σ σv): ∀ix:List Nat,Sl G ρ H (ix.map λi=>(σ[i]?).getD none) (ix.map λi=>(σv[i]?).getD none)
 |[]=>by simp[Sl]
 |i::ix=>by
  erw[i7]
  cases e:σ[i]? with
  |none=>erw[M7,Sl];exact⟨_,_,rfl,Sl.pick h ix⟩
  |some o=>
   cases o with
   |none=>erw[B4,Sl];exact⟨_,_,rfl,Sl.pick h ix⟩
   |some d=>
    obtain⟨v,e1,r⟩:=h.get i d e
    erw[B4,Sl,e1]
    exact⟨_,_,rfl,r,Sl.pick h ix⟩
theorem z2j{l:Nat}: ∀{ix:List Nat},l∈Y0 (ix.map λi=>(σ[i]?).getD none)->l∈Y0 σ
 |[],h=>by simp[Y0] at h
 |i::ix,h=>by
  erw[i7] at h
  cases e:σ[i]? with
  |none=>rw[e] at h;erw[M7,Y0] at h;exact z2j h
  |some o=>
   rw[e] at h
   cases o with
   |none=>erw[B4,Y0] at h;exact z2j h
   |some d=>
    erw[B4,Y0] at h
    rcases l4.mp h with h|h
    .exact z2i e l h
    .exact z2j h
theorem z3A{l:Nat}: ∀k:Nat,¬l∈Y0 (B8 k (none:Option D))
 |0,h=>by simp[Y0] at h
 |k+1,h=>by erw[T7,Y0] at h;exact z3A k h
def MR.enter{ρ:Nat->Addr}{H:Hp}{σv tv:List (Option V)}{s:Stt}{D:Addr}(M:MR G F.toFx ρ H σv tv s)(hD:H D=none)(k:KD G.K (upd H D (.lst [])))(own:Nat)(ix:List Nat):
 MR G (F.prot D [] (M.fresh0 hD)).toFx ρ (upd H D (.lst [])) (z2g own ix σv) (σv++tv) (zao own ix s):=by
 have sm:=z4i.new (.lst []) hD
 have M1:=M.same sm k
 have nD: ∀l,l<s.n->ρ l≠D:=λl hl e=>by
  obtain⟨o,q⟩:=M.dom l hl
  rw[e,hD] at q;cases q
 have sub: ∀l∈V7 (zao own ix s),l∈V7 s:=λl h=>by
  rcases l4.mp h with h|h
  .have h:l∈Y0 (B8 own none++ix.map (λi=>(s.σ[i]?).getD none)):=h
   rw[Q4] at h
   rcases l4.mp h with h|h
   .exact absurd h (z3A own)
   .exact i8 _ (z2j h)
  .have h:l∈Y0 (s.σ++s.tm):=h
   rw[Q4] at h
   exact h
 refine⟨?_,M1.sl.append M1.tm,M1.inj,M1.dom,λl h=>M.lab l (sub l h),λl h=> ?_,λa o e=> ?_,k,λl hl z=> ?_,M.bas⟩
 .exact(Sl.none_map own).append (M1.sl.pick ix)
 .rcases M.own l (sub l h) with q|q
  .exact .inl q
  .refine .inr ?_
   show upd F.H0 D (.lst []) (ρ l)=none
   rw[Z5 (nD l (M.lab l (sub l h)))];exact q
 .have e:upd F.H0 D (.lst []) a=some o:=e
  by_cases ha:a=D
  .subst ha
   rw[Z3] at e;cases e
   exact⟨⟨_,Z3⟩,λ_=>Z3⟩
  .rw[Z5 ha] at e
   exact M1.frm a o e
 .rcases z with z|z
  .exact nD l hl z
  .exact M.frb l hl z
def MR.turnD{ρ:Nat->Addr}{H:Hp}{σv tv:List (Option V)}{s:Stt}{D:Addr}{ys ys':List V}{hf:F.H0 D=none}(M:MR G (F.prot D ys hf).toFx ρ H σv tv s):
 H D=some (.lst ys)/\MR G (F.prot D ys' hf).toFx ρ (upd H D (.lst ys')) σv tv s:=by
 have hD:H D=some (.lst ys):=(M.frm D (.lst ys) Z3).2 ((F.prot D ys hf).zA D (.inl rfl)).2
 have nD: ∀l,l<s.n->ρ l≠D:=λl hl e=>M.frb l hl (.inl e)
 have st:V9 H (upd H D (.lst ys')):=⟨λb xs e=>by rw[Z5 (z0Z e hD (by intro z;cases z))];exact e,λb o u e=>by rw[Z5 (z0Z e hD (by intro z;cases z))];exact e⟩
 refine⟨hD,⟨Sl.stay st M.sl λl hl=>⟨rfl,λo e=> ?_⟩,Sl.stay st M.tm λl hl=>⟨rfl,λo e=> ?_⟩,M.inj,λl hl=> ?_,M.lab,λl h=> ?_,λa o e=> ?_,λa o e=> ?_,λl hl=>M.frb l hl,M.bas⟩⟩
 .rw[Z5 (nD l (M.lab l (i8 _ hl)))];exact e
 .rw[Z5 (nD l (M.lab l (i4 _ hl)))];exact e
 .rw[Z5 (nD l hl)];exact M.dom l hl
 .rcases M.own l h with q|q
  .exact .inl q
  .refine .inr ?_
   have q:upd F.H0 D (.lst ys) (ρ l)=none:=q
   show upd F.H0 D (.lst ys') (ρ l)=none
   rw[Z5 (nD l (M.lab l h))] at q⊢;exact q
 .have e:upd F.H0 D (.lst ys') a=some o:=e
  by_cases ha:a=D
  .subst ha
   rw[Z3] at e;cases e
   exact⟨⟨_,Z3⟩,λ_=>Z3⟩
  .rw[Z5 ha] at e⊢
   exact M.frm a o (by show upd F.H0 D (.lst ys) a=some o;rw[Z5 ha];exact e)
 .by_cases ha:a=D
  .subst ha
   rw[M.kd a o e] at hD;cases hD
  .rw[Z5 ha];exact M.kd a o e
theorem Sl.all: ∀{tm:Qq} {ys:List V} {ds:List D},Sl G ρ H tm (ys.map some)->Q5 tm=some ds->RDs G ρ H ds ys/\qq ds=Y0 tm
 |[],ys,ds,h,e=>by
  erw[Sl] at h
  erw[Q5,Option.some.injEq] at e
  subst e
  have:ys=[]:=by simpa using h
  subst this
  simp[RDs,qq,Y0]
 |none::r,ys,ds,h,e=>by erw[Q5] at e;cases e
 |some d::r,ys,ds,h,e=>by
  erw[Sl] at h
  obtain⟨v,q,e1,h1,h2⟩:=h
  cases ys with
  |nil=>cases e1
  |cons y ys=>
   erw[i7,List.cons.injEq,Option.some.injEq] at e1
   obtain⟨rfl,rfl⟩:=e1
   erw[Q5] at e
   cases e2:Q5 r with
   |none=>rw[e2] at e;cases e
   |some es=>
    rw[e2] at e
    cases e
    obtain⟨r1,r2⟩:=Sl.all h2 e2
    refine⟨?_,by erw[qq,Y0,r2]⟩
    erw[RDs]
    exact⟨_,_,rfl,h1,r1⟩
theorem Sl.reverse: ∀{tm:Qq} {ys:List (Option V)},Sl G ρ H tm ys->Sl G ρ H tm.reverse ys.reverse
 |[],ys,h=>by erw[Sl] at h;subst h;simp[Sl]
 |none::r,ys,h=>by
  erw[Sl] at h
  obtain⟨o,q,rfl,h⟩:=h
  rw[C3,C3]
  exact(Sl.reverse h).append (by erw[Sl];exact⟨_,_,rfl,rfl⟩)
 |some d::r,ys,h=>by
  erw[Sl] at h
  obtain⟨o,q,rfl,h1,h⟩:=h
  rw[C3,C3]
  exact(Sl.reverse h).append (by erw[Sl];exact⟨_,_,rfl,h1,rfl⟩)
theorem z3B{l:Nat}: ∀{tm:Qq},l∈Y0 tm.reverse↔l∈Y0 tm
 |[]=>by simp
 |none::r=>by
  rw[C3,Q4]
  erw[Y0,l7]
  exact z3B
 |some d::r=>by
  rw[C3,Q4]
  erw[Y0,l7,l4]
  rw[z3B]
  exact Or.comm
def MR.leave{ρ:Nat->Addr}{H:Hp}{σi σv tvs tv:List (Option V)}{s:Stt}{ys:List V}{hf:F.H0 A1=none}{ds:List D}{kk:Nat}
 (M:MR G (F.prot A1 ys hf).toFx ρ H σi ((ys.reverse.map some)++(σv++(tvs++tv))) s) (hk:tvs.length=kk) ol (ho:σv.length=ol) (e:Q5 (s.tm.take ys.length).reverse=some ds):
 MRL G F.toFx (ext ρ s.n A1) H σv tv {σ:=(s.tm.drop ys.length).take ol,tm:=s.tm.drop (ys.length+ol+kk),n:=s.n+1} [.lst s.n ds] [.ref A1]:=by
 subst hk ho
 have hD:=(MR.turnD (ys':=ys) M).1
 have nD: ∀l,l<s.n->ρ l≠A1:=λl hl e=>M.frb l hl (.inl e)
 have t0:=Sl.split (ys.reverse.map some) M.tm
 erw[l0,M8] at t0
 obtain⟨t1,t2⟩:=t0
 obtain⟨t3,t4⟩:=Sl.split σv t2
 obtain⟨_,t6⟩:=Sl.split tvs t4
 rw[R4] at t4
 rw[R4,R4] at t6
 have t6':Sl G ρ H (s.tm.drop (ys.length+σv.length+tvs.length)) tv:=by rw[R8];exact t6
 have t1':=t1.reverse
 rw[<-S2,O4] at t1'
 obtain⟨r1,r2⟩:=Sl.all t1' e
 have lt: ∀l,l∈Y0 (s.tm.take ys.length)->l∈V7 s:=λl h=>i4 _ (by
  have e:=Q4 (s.tm.take ys.length) (s.tm.drop ys.length)
  rw[L3] at e
  rw[e];exact i8 _ h)
 have ld: ∀l k,l∈Y0 (s.tm.drop k)->l∈V7 s:=λl k h=>i4 _ (by
  have e:=Q4 (s.tm.take k) (s.tm.drop k)
  rw[L3] at e
  rw[e];exact i4 _ h)
 have ldt: ∀l k j,l∈Y0 ((s.tm.drop k).take j)->l∈V7 s:=λl k j h=>ld l k (by
  have e:=Q4 ((s.tm.drop k).take j) ((s.tm.drop k).drop j)
  rw[L3] at e
  rw[e];exact i8 _ h)
 have own: ∀l∈V7 s,F.A0 (ρ l)\/F.H0 (ρ l)=none:=λl h=>by
  rcases M.own l h with q|q
  .exact .inl q
  .refine .inr ?_
   have q:upd F.H0 A1 (.lst ys) (ρ l)=none:=q
   rw[Z5 (nD l (M.lab l h))] at q;exact q
 have st:=V9.refl H
 have stay: ∀l,l<s.n->ext ρ s.n A1 l=ρ l/\∀o,H (ρ l)=some o->H (ρ l)=some o:=λl hl=>⟨j9 hl,λo e=>e⟩
 have all: ∀l∈V7 {σ:=(s.tm.drop ys.length).take σv.length,tm:=s.tm.drop (ys.length+σv.length+tvs.length),n:=s.n+1},l∈V7 s:=λl h=>by
  rcases l4.mp h with h|h
  .exact ldt l _ _ h
  .exact ld l _ h
 have dsl: ∀l∈qq ds,l∈V7 s:=λl h=>lt l (by rw[r2] at h;exact z3B.mp h)
 refine⟨⟨Sl.stay st t3 λl hl=>stay l (M.lab l (ldt l _ _ hl)),Sl.stay st t6' λl hl=>stay l (M.lab l (ld l _ hl)),λi j hi hj eq=> ?_,λl hl=> ?_,λl h=>L5 (M.lab l (all l h)),λl h=> ?_,λa o e=> ?_,M.kd,λl hl z=> ?_,⟨u07 M.bas.1,λl hl=>by rw[j9 (A2 hl M.bas.1)];exact M.bas.2 l hl⟩⟩, ?_,λl h=> ?_⟩
 .have hi:i<s.n+1:=hi
  have hj:j<s.n+1:=hj
  by_cases h1:i=s.n
  .by_cases h2:j=s.n
   .lia
   .rw[h1,g9,j9 ⋯] at eq
    exact absurd eq.symm (nD j ⋯)
  .by_cases h2:j=s.n
   .rw[h2,g9,j9 ⋯] at eq
    exact absurd eq (nD i ⋯)
   .rw[j9 ⋯,j9 ⋯] at eq
    exact M.inj i j ⋯ ⋯ eq
 .have hl:l<s.n+1:=hl
  by_cases h1:l=s.n
  .subst h1;rw[g9];exact⟨_,hD⟩
  .rw[j9 ⋯];exact M.dom l ⋯
 .rw[j9 (M.lab l (all l h))];exact own l (all l h)
 .exact M.frm a o (by show upd F.H0 A1 (.lst ys) a=some o;rw[Z5 (U4 e hf)];exact e)
 .have hl:l<s.n+1:=hl
  by_cases h1:l=s.n
  .subst h1;rw[g9] at z
   obtain⟨⟨o,e⟩,_⟩:=F.zA A1 z
   rw[hf] at e;cases e
  .rw[j9 ⋯] at z
   exact M.frb l ⋯ (.inr z)
 .refine RDs.one ?_
  erw[RD]
  rw[g9]
  exact⟨rfl,ys,hD,RDs.stay st ds ys r1 λl hl=>stay l (M.lab l (dsl l hl))⟩
 .erw[qq,labs,l7] at h
  rcases m3.mp h with q|q
  .rw[q,g9];exact⟨B2 _, .inr hf⟩
  .have q2:=dsl l q
   exact⟨L5 (M.lab l q2),by rw[j9 (M.lab l q2)];exact own l q2⟩
def tMx(G:Gx)(m:M D):TE:=λ σ H Q=> ∃F:Fy,tM G F m σ H Q
def tBx(G:Gx)(m:M Bool):TT:=λ σ H Q=> ∃F:Fy,tMB G F m σ H Q
def tGx(G:Gx)(g:Tg):TG:=λv σ H Q=> ∃F:Fy,tGn G F g v σ H Q
def STs(X:Cx)(G:Gx)(F:Fy)(ifs:List bi)(m:M Bool):Prop:=PTs X ifs (tMB G F m)
def z87{K:W.Frag}{k:Nat}{ix:List Nat}{mi:M ItK}{g:Tg}{mt:M Bool}{me:M D}{σ:St}{H:Hp}{Q:VK}(hk:K=G.K)(h:tM G F (V4 mi g mt me k ix) σ H Q):z81 K (tI G F mi) (tGx G g) (tBx G mt) (tMx G me) k ix σ H Q:=by
 obtain⟨tv,hsf,ρ,s,M,W⟩:=h
 refine⟨tv,hsf,ρ,s,M, ?_⟩
 unfold V4 bd at W
 cases em:mi s with
 |ex d s1=>rw[em] at W;exact W
 |no=>rw[em] at W;exact W
 |ok K s1=>
  rw[em] at W
  intro ρ1 H1 tvs J hl M1 hok A1 hA1 kd
  subst hk
  have kd:KD G.K (upd H1 A1 (.lst [])):=kd
  have hf:=M1.fresh0 hA1
  refine⟨λi m ys σ' H'=> ∃ρ s,MR G (F.prot A1 ys hf).toFx ρ H' σ' ((ys.reverse.map some)++(σ++(tvs++tv))) s/\wM G F σ tv (z1t K g mt me s1.σ.length m i ys.length s) Q,⟨_,ρ1,_,M1.enter hA1 kd k ix,W⟩, ?_⟩
  rintro i m ys σ' H' ⟨ρ2,s2,M2,W2⟩
  have hD:=(MR.turnD (ys':=ys) M2).1
  refine⟨hD, ?_⟩
  have ol:s1.σ.length=σ.length:=M1.sl.length
  have ok:=hok (F.prot A1 ys hf).toFx ρ2 H' σ' ((ys.reverse.map some)++σ) tv s2 i (by rw[A3];exact M2)
  simp only[m5,l0,M8,<-ol,A3] at ok
  unfold z1t at W2
  cases e:K.at' i (s2.tm.drop (ys.length+s1.σ.length)) with
  |none=>erw[e] at W2;exact False.elim W2
  |some o=>
   rw[e] at ok
   cases o with
   |none=>
    erw[e] at W2 ok
    refine .inl ⟨ok, ?_⟩
    cases ea:Q5 (s2.tm.take ys.length).reverse with
    |none=>erw[ea] at W2;exact False.elim W2
    |some ds=>
     erw[ea] at W2
     exact W2 _ _ _ (MR.leave M2 hl _ ol.symm ea)
   |some d=>
    erw[e] at W2 ok
    cases m with
    |zero=>exact False.elim W2
    |succ f=>
     dsimp only at W2
     cases e2:asg g d s2.σ with
     |none=>erw[e2] at W2;exact False.elim W2
     |some σ3=>
      erw[e2] at W2
      refine .inr ⟨ok.1,λx H2 y=> ?_⟩
      have hx:=ok.2 x H2 y
      refine⟨F.prot A1 ys hf,_,ρ2,s2,d,hx,σ3,e2,λ σv' M3=>⟨F.prot A1 ys hf,_,O9,ρ2,_,M3, ?_⟩⟩
      cases e3:mt {s2 with σ:=σ3} with
      |ex d s4=>erw[e3] at W2;exact False.elim W2
      |no=>erw[e3] at W2;exact False.elim W2
      |ok b s4=>
       intro ρ4 H4 M4
       cases b with
       |false=>
        erw[e3] at W2
        rw[qh C6]
        exact⟨f,B2 _,ρ4,s4,M4,W2⟩
       |true=>
        erw[e3] at W2
        rw[qy rfl]
        by_cases hz:ys.length<qg
        .rw[qy hz] at W2
         refine⟨F.prot A1 ys hf,_,O9,ρ4,s4,M4, ?_⟩
         cases e5:me s4 with
         |ex d s5=>erw[e5] at W2;exact False.elim W2
         |no=>erw[e5] at W2;exact False.elim W2
         |ok y s5=>
          erw[e5] at W2
          intro ρ5 v H5 M5
          obtain⟨hD5,M6⟩:=MR.turnD (ys':=ys++[v]) M5.push
          refine⟨hD5,hz,f,B2 _,ρ5,s5.psh y, ?_, ?_⟩
          .rw[P4,C3,O0,B0,t5]
           exact M6
          .rw[m5];exact W2
        .rw[qh hz] at W2;exact False.elim W2
end
mutual
def findT(l:Nat):D->Option D
 | .tup ds=>findL l ds
 | .ro ds=>findL l ds
 | .fdc _ vs=>findL l vs
 | .lst k ds=>if k=l then some (.lst k ds) else findL l ds
 | .dct k ks vs=>if k=l then some (.dct k ks vs) else findL l vs
 | .obj k c ns vs=>if k=l then some (.obj k c ns vs) else findL l vs
 | .non=>none| .bool _=>none| .int _=>none| .str _=>none| .exc _=>none| .fn _=>none
def findL(l:Nat):List D->Option D
 |[]=>none
 |d::ds=>match findT l d with
  |some x=>some x
  |none=>findL l ds
end
section
variable{G:Gx}{ρ:Nat->Addr}{H:Hp}
mutual
theorem zci(l:Nat): ∀(t:D) (v:V) (d:D),RD G ρ H t v->findT l t=some d->RD G ρ H d (.ref (ρ l))/\∀k∈labs d,k∈labs t
 | .non,v,d,h,e=>by erw[findT] at e;cases e
 | .bool b,v,d,h,e=>by erw[findT] at e;cases e
 | .int b,v,d,h,e=>by erw[findT] at e;cases e
 | .str b,v,d,h,e=>by erw[findT] at e;cases e
 | .exc b,v,d,h,e=>by erw[findT] at e;cases e
 | .fn b,v,d,h,e=>by erw[findT] at e;cases e
 | .tup ds,v,d,h,e=>by
  erw[findT,RD,labs] at h e⊢
  obtain⟨a,xs,_,_,r⟩:=h
  exact findL_rd l ds xs d r e
 | .ro ds,v,d,h,e=>by
  erw[findT,RD,labs] at h e⊢
  obtain⟨a,xs,_,_,r⟩:=h
  exact findL_rd l ds xs d r e
 | .fdc ks vs,v,d,h,e=>by
  erw[findT,RD,labs] at h e⊢
  obtain⟨a,o,u,xs,_,_,_,r⟩:=h
  exact findL_rd l vs _ d r e
 | .lst k ds,v,d,h,e=>by
  erw[findT] at e
  by_cases hk:k=l
  .rw[qy hk] at e;cases e
   subst hk
   have h':=h
   erw[RD] at h'
   obtain⟨rfl,_⟩:=h'
   exact⟨h,λ_ q=>q⟩
  .rw[qh hk] at e
   erw[RD] at h
   obtain⟨_,xs,_,r⟩:=h
   obtain⟨q1,q2⟩:=findL_rd l ds xs d r e
   exact⟨q1,λj hj=>by erw[labs];exact i5 _ (q2 j hj)⟩
 | .dct k ks vs,v,d,h,e=>by
  erw[findT] at e
  by_cases hk:k=l
  .rw[qy hk] at e;cases e
   subst hk
   have h':=h
   erw[RD] at h'
   obtain⟨rfl,_⟩:=h'
   exact⟨h,λ_ q=>q⟩
  .rw[qh hk] at e
   erw[RD] at h
   obtain⟨_,⟨kvs,_,_,r⟩|⟨kvs,_,_,r⟩⟩:=h
   .obtain⟨q1,q2⟩:=findL_rd l vs _ d r e
    exact⟨q1,λj hj=>by erw[labs];exact i5 _ (i4 _ (q2 j hj))⟩
   .obtain⟨q1,q2⟩:=findL_rd l vs _ d r e
    exact⟨q1,λj hj=>by erw[labs];exact i5 _ (i4 _ (q2 j hj))⟩
 | .obj k c ns vs,v,d,h,e=>by
  erw[findT] at e
  by_cases hk:k=l
  .rw[qy hk] at e;cases e
   subst hk
   have h':=h
   erw[RD] at h'
   obtain⟨rfl,_⟩:=h'
   exact⟨h,λ_ q=>q⟩
  .rw[qh hk] at e
   erw[RD] at h
   obtain⟨_,C,dx,fs,_,_,_,r⟩:=h
   obtain⟨q1,q2⟩:=findL_rd l vs _ d r e
   exact⟨q1,λj hj=>by erw[labs];exact i5 _ (q2 j hj)⟩
theorem findL_rd(l:Nat): ∀(t:List D) (v:List V) (d:D),RDs G ρ H t v->findL l t=some d->RD G ρ H d (.ref (ρ l))/\∀k∈labs d,k∈qq t
 |[],v,d,h,e=>by erw[findL] at e;cases e
 |t::ts,v,d,h,e=>by
  erw[findL,RDs,qq] at h e⊢
  obtain⟨x,r,_,h1,h2⟩:=h
  cases e1:findT l t with
  |some y=>
   rw[e1] at e;cases e
   obtain⟨q1,q2⟩:=zci l t x _ h1 e1
   exact⟨q1,λj hj=>i8 _ (q2 j hj)⟩
  |none=>
   rw[e1] at e
   obtain⟨q1,q2⟩:=findL_rd l ts r d h2 e
   exact⟨q1,λj hj=>i4 _ (q2 j hj)⟩
end
def roL_two(k:KD K H)(h:RoL K H a xs)(h':RoL K H a ys):xs=ys:=SqL.two k h.sq h'.sq
def z88(G:Gx)(H:Hp)(a:Addr):Nat->Prop
 |0=> ∃xs,SqT G.K H a xs
 |1=> ∃xs,RoL G.K H a xs
 |2=> ∃xs,H a=some (.lst xs)
 |3=>(∃kvs,H a=some (.dK kvs))\/∃kvs,H a=some (.dT kvs)
 |4=> ∃C dx fs,H a=some (.ins C dx fs)
 |5=> ∃o φ,H a=some (.frz o (.ext φ))
 |6=> ∃c,G.cl c=some a
 |_=> ∃o u,H a=some (.frz o u)/\((∃kvs,u= .dK kvs)\/∃kvs,u= .dT kvs)
open Classical in
def kd(K:W.Frag)(H:Hp)(a:Addr):Nat:=match H a with
 |some (.tup _)=>0|some (.frz _ (.tup _))=>0|some (.frz _ (.lst _))=>1|some (.lst _)=>2|some (.dK _)=>3|some (.dT _)=>3|some (.ins _ _ _)=>4|some (.frz _ (.ext _))=>5|some (.frz _ (.dT _))=>7|some (.frz _ (.dK _))=>7
 |some _=>9
 |none=>match K.lookup a with
  |some o=>if(∃its n,o.data= .seq its n) then(if o.cls= .type "tuple" then 0 else 1) else 6
  |none=>8
def zhA(k:KD G.K H): ∀{i:Nat},z88 G H a i->i<=7->kd G.K H a=i:=by
 have tl: ¬((.type "list" :bc)= .type "tuple"):=by intro h;injection h with h;exact absurd h (by decide)
 intro i hi li
 match i,hi,li with
 |0,⟨xs,h⟩,_=>
  rcases h with(h|⟨o,h⟩)|⟨o,its,n,h,hc,hd,_⟩
  .delta kd;rw[h]
  .delta kd;rw[h]
  .delta kd;rw[k _ _ h];dsimp only;rw[h];dsimp only;rw[qy ⟨its,n,hd⟩,qy hc]
 |1,⟨xs,h⟩,_=>
  rcases h with⟨o,h⟩|⟨o,its,n,h,hc,_,hd,_⟩
  .delta kd;rw[h]
  .delta kd;rw[k _ _ h];dsimp only;rw[h];dsimp only;rw[qy ⟨its,n,hd⟩,qh (by rw[hc];exact tl)]
 |2,⟨xs,h⟩,_=>delta kd;rw[h]
 |3,h,_=>rcases h with⟨_,h⟩|⟨_,h⟩<;>(delta kd;rw[h])
 |4,⟨_,_,_,h⟩,_=>delta kd;rw[h]
 |5,⟨_,_,h⟩,_=>delta kd;rw[h]
 |6,⟨c,h⟩,_=>
  obtain⟨o,h1,h2⟩:=G.ck c a h
  delta kd;rw[k _ _ h1];dsimp only;rw[h1];dsimp only;rw[qh (λ⟨its,n,q⟩=>h2 its n q)]
 |7,⟨_,_,h,e⟩,_=>rcases e with⟨_,e⟩|⟨_,e⟩<;>(delta kd;rw[h,e])
 |n+8,_,li=>lia
def zcj(k:KD G.K H){i j:Nat}(hi:z88 G H a i)(hj:z88 G H a j)(li:i<=7)(lj:j<=7):i=j:=(zhA k hi li).symm.trans (zhA k hj lj)
def ix:D->Nat
 | .tup _=>0| .ro _=>1| .lst _ _=>2| .dct _ _ _=>3| .obj _ _ _ _=>4| .exc _=>5| .fn _=>6| .fdc _ _=>7|_=>8
def flD:V->D
 | .bl b=> .bool b| .int b=> .int b| .str b=> .str b|_=> .non
def RD.kind(h:RD G ρ H t v):(t=flD v/\∀a,v≠ .ref a)\/∃a,v= .ref a/\ix t<=7/\z88 G H a (ix t):=by
 cases t<;>erw[RD] at h
 .exact .inl (by rw[h];exact⟨rfl,nofun⟩)
 .exact .inl (by rw[h];exact⟨rfl,nofun⟩)
 .exact .inl (by rw[h];exact⟨rfl,nofun⟩)
 .exact .inl (by rw[h];exact⟨rfl,nofun⟩)
 .obtain⟨a',xs,e,s,r⟩:=h;exact .inr ⟨a',e,D1 rfl,xs,SqT.of s⟩
 .obtain⟨a',xs,e,s,r⟩:=h;exact .inr ⟨a',e,D1 rfl,xs,s⟩
 .obtain⟨e,xs,s,r⟩:=h;exact .inr ⟨_,e,D1 rfl,xs,s⟩
 .obtain⟨e,⟨kvs,s,_⟩|⟨kvs,s,_⟩⟩:=h
  .exact .inr ⟨_,e,D1 rfl, .inl ⟨kvs,s⟩⟩
  .exact .inr ⟨_,e,D1 rfl, .inr ⟨kvs,s⟩⟩
 .obtain⟨e,C,dx,fs,_,s,_⟩:=h;exact .inr ⟨_,e,D1 rfl,C,dx,fs,s⟩
 .obtain⟨a',o,C,e,_,_,_,s⟩:=h;exact .inr ⟨a',e,D1 rfl,o,_,s⟩
 .obtain⟨a',e,s⟩:=h;exact .inr ⟨a',e,D1 rfl,_,s⟩
 .obtain⟨a',o,u,xs,e,s,f,_⟩:=h
  refine .inr ⟨a',e,D1 rfl,o,u,s, ?_⟩
  obtain⟨kvs,e,_⟩|⟨kvs,e,_⟩:=f
  .exact .inl ⟨kvs,e⟩
  .exact .inr ⟨kvs,e⟩
def ix0(h:ix t=0): ∃ds,t= .tup ds:=by cases t<;>first|exact⟨_,rfl⟩|cases h
def ix1(h:ix t=1): ∃ds,t= .ro ds:=by cases t<;>first|exact⟨_,rfl⟩|cases h
def ix2(h:ix t=2): ∃l ds,t= .lst l ds:=by cases t<;>first|exact⟨_,_,rfl⟩|cases h
def ix3(h:ix t=3): ∃l ks vs,t= .dct l ks vs:=by cases t<;>first|exact⟨_,_,_,rfl⟩|cases h
def ix4(h:ix t=4): ∃l c ns vs,t= .obj l c ns vs:=by cases t<;>first|exact⟨_,_,_,_,rfl⟩|cases h
def ix5(h:ix t=5): ∃c,t= .exc c:=by cases t<;>first|exact⟨_,rfl⟩|cases h
def ix6(h:ix t=6): ∃c,t= .fn c:=by cases t<;>first|exact⟨_,rfl⟩|cases h
def ix7(h:ix t=7): ∃ks vs,t= .fdc ks vs:=by cases t<;>first|exact⟨_,_,rfl⟩|cases h
def RD.ixE(k:KD G.K H)(h:RD G ρ H t v)(h':RD G ρ H t' v):t=t'\/ix t=ix t':=by
 rcases RD.kind h with⟨e,n⟩|⟨a,e,l,q⟩<;>rcases RD.kind h' with⟨e',n'⟩|⟨a',e',l',q'⟩
 .exact .inl (e.trans e'.symm)
 .exact absurd e' (n _)
 .exact absurd e (n' _)
 .cases e.symm.trans e';exact .inr (zcj k q q' l l')
section
variable(k:KD G.K H){n:Nat}(inj: ∀i j,i<n->j<n->ρ i=ρ j->i=j)
include k inj
mutual
theorem RD.uniq: ∀(t t':D) (v:V),RD G ρ H t v->RD G ρ H t' v->(∀l∈labs t,l<n)->(∀l∈labs t',l<n)->t=t'
 | .non,t',v,h,h',_,_=>(RD.kind h').elim (λe=>by erw[RD] at h;subst h;exact e.1.symm) λ⟨_,e,_⟩=>by erw[RD] at h;subst h;cases e
 | .bool b,t',v,h,h',_,_=>(RD.kind h').elim (λe=>by erw[RD] at h;subst h;exact e.1.symm) λ⟨_,e,_⟩=>by erw[RD] at h;subst h;cases e
 | .int b,t',v,h,h',_,_=>(RD.kind h').elim (λe=>by erw[RD] at h;subst h;exact e.1.symm) λ⟨_,e,_⟩=>by erw[RD] at h;subst h;cases e
 | .str b,t',v,h,h',_,_=>(RD.kind h').elim (λe=>by erw[RD] at h;subst h;exact e.1.symm) λ⟨_,e,_⟩=>by erw[RD] at h;subst h;cases e
 | .exc c,t',v,h,h',lb,lb'=>by
  rcases RD.ixE k h h' with e|e
  .exact e
  obtain⟨c',rfl⟩:=ix5 e.symm
  erw[RD] at h h'
  obtain⟨a,o,C,rfl,h1,h2,_,s⟩:=h
  obtain⟨a',o',C',e,h1',h2',_,s'⟩:=h'
  cases e
  rw[s] at s';cases s'
  rw[h2] at h2';cases h2'
  rw[G.ci c c' C h1 h1']
 | .fn c,t',v,h,h',lb,lb'=>by
  rcases RD.ixE k h h' with e|e
  .exact e
  obtain⟨c',rfl⟩:=ix6 e.symm
  erw[RD] at h h'
  obtain⟨a,rfl,h1⟩:=h
  obtain⟨a',e,h1'⟩:=h'
  cases e
  rw[G.ci c c' a h1 h1']
 | .tup ds,t',v,h,h',lb,lb'=>by
  rcases RD.ixE k h h' with e|e
  .exact e
  obtain⟨es,rfl⟩:=ix0 e.symm
  obtain⟨a,xs,rfl,s,r⟩:=h.tupq
  obtain⟨a',ys,e,s',r'⟩:=h'.tupq
  cases e
  cases SqT.two k s s'
  rw[RDs.uniq ds es xs r r' lb lb']
 | .fdc ks vs,t',v,h,h',lb,lb'=>by
  rcases RD.ixE k h h' with e|e
  .exact e
  obtain⟨ks',vs',rfl⟩:=ix7 e.symm
  erw[RD] at h h'
  obtain⟨a,o,u,xs,rfl,s,s2,r⟩:=h
  obtain⟨a',o',u',xs',e,s',s2',r'⟩:=h'
  cases e
  rw[s] at s';cases s'
  obtain⟨rfl,rfl⟩:=s2.one s2'
  rw[RDs.uniq vs vs' _ r r' lb lb']
 | .ro ds,t',v,h,h',lb,lb'=>by
  rcases RD.ixE k h h' with e|e
  .exact e
  obtain⟨es,rfl⟩:=ix1 e.symm
  erw[RD] at h h'
  obtain⟨a,xs,rfl,s,r⟩:=h
  obtain⟨a',ys,e,s',r'⟩:=h'
  cases e
  cases roL_two k s s'
  rw[RDs.uniq ds es xs r r' lb lb']
 | .lst l ds,t',v,h,h',lb,lb'=>by
  rcases RD.ixE k h h' with e|e
  .exact e
  obtain⟨l',es,rfl⟩:=ix2 e.symm
  erw[RD] at h h'
  obtain⟨rfl,xs,s,r⟩:=h
  obtain⟨e,ys,s',r'⟩:=h'
  cases inj l l' (lb l (.head _)) (lb' l' (.head _)) (V.ref.inj e)
  rw[s] at s';cases s'
  rw[RDs.uniq ds es xs r r' (λj hj=>lb j (.tail _ hj)) λj hj=>lb' j (.tail _ hj)]
 | .dct l ks vs,t',v,h,h',lb,lb'=>by
  rcases RD.ixE k h h' with e|e
  .exact e
  obtain⟨l',ks',vs',rfl⟩:=ix3 e.symm
  erw[RD] at h h'
  obtain⟨rfl,q⟩:=h
  obtain⟨e,q'⟩:=h'
  cases inj l l' (lb l (.head _)) (lb' l' (.head _)) (V.ref.inj e)
  have b1: ∀j∈qq vs,j<n:=λj hj=>lb j (.tail _ (i4 _ hj))
  have b2: ∀j∈qq vs',j<n:=λj hj=>lb' j (.tail _ (i4 _ hj))
  rcases q with⟨kvs,s,s2,r⟩|⟨kvs,s,s2,r⟩<;>rcases q' with⟨kvs',s',s2',r'⟩|⟨kvs',s',s2',r'⟩<;>rw[s] at s'<;>cases s'
  .rw[s2,s2',RDs.uniq vs vs' _ r r' b1 b2]
  .rw[s2,s2',RDs.uniq vs vs' _ r r' b1 b2]
 | .obj l c ns vs,t',v,h,h',lb,lb'=>by
  rcases RD.ixE k h h' with e|e
  .exact e
  obtain⟨l',c',ns',vs',rfl⟩:=ix4 e.symm
  erw[RD] at h h'
  obtain⟨rfl,C,dx,fs,hC,s,s2,r⟩:=h
  obtain⟨e,C',dx',fs',hC',s',s2',r'⟩:=h'
  cases inj l l' (lb l (.head _)) (lb' l' (.head _)) (V.ref.inj e)
  rw[s] at s';cases s'
  rw[s2,s2',G.ci c c' C hC hC',RDs.uniq vs vs' _ r r' (λj hj=>lb j (.tail _ hj)) λj hj=>lb' j (.tail _ hj)]
theorem RDs.uniq: ∀(t t':List D) (v:List V),RDs G ρ H t v->RDs G ρ H t' v->(∀l∈qq t,l<n)->(∀l∈qq t',l<n)->t=t'
 |[],t',v,h,h',_,_=>by
  erw[RDs] at h;subst h
  cases t' with
  |nil=>rfl
  |cons d ds=>erw[RDs] at h';obtain⟨_,_,e,_⟩:=h';cases e
 |d::ds,t',v,h,h',lb,lb'=>by
  erw[RDs] at h
  obtain⟨x,q,rfl,h1,h2⟩:=h
  cases t' with
  |nil=>erw[RDs] at h';cases h'
  |cons d' ds'=>
   erw[RDs] at h'
   obtain⟨_,_,e,h1',h2'⟩:=h'
   cases e
   rw[RD.uniq d d' x h1 h1' (λl hl=>lb l (by erw[qq];exact i8 _ hl)) λl hl=>lb' l (by erw[qq];exact i8 _ hl),
    RDs.uniq ds ds' q h2 h2' (λl hl=>lb l (by erw[qq];exact i4 _ hl)) λl hl=>lb' l (by erw[qq];exact i4 _ hl)]
end
end
end
open PySem.Spec PyProof.Rows
inductive RF where
 |ok (t:D) (ts:List D) (n:Nat)|ex (d:D) (ts:List D) (n:Nat)|no
abbrev FM:=List D->Nat->RF
structure z8Y(G:Gx)(ρ:Nat->Addr)(n:Nat)(ts:List D)(vs:List V)(H:Hp)(ρ':Nat->Addr)(n':Nat)(ts':List D)(H':Hp):Prop where
 old: ∀l,l<n->ρ' l=ρ l
 le:n<=n'
 inj: ∀i j,i<n'->j<n'->ρ' i=ρ' j->i=j
 dom: ∀l,l<n'->∃o,H' (ρ' l)=some o
 rd:RDs G ρ' H' ts' vs
 lb: ∀l∈qq ts',l<n'/\(l<n->l∈qq ts)
 fr: ∀a o,H a=some o->(∃o',H' a=some o')/\((∀l∈qq ts,a≠ρ l)->H' a=some o)
 new: ∀l,n<=l->l<n'->H (ρ' l)=none
 kd:KD G.K H'
section
variable{G:Gx}{ρ ρ':Nat->Addr}{H H':Hp}
def zap(k:Key):labs (z1M k)=[]:=by cases k<;>erw[z1M,labs]
theorem zaq: ∀ks:List Key,qq (ks.map z1M)=[]
 |[]=>by erw[t7,qq]
 |k::ks=>by erw[i7,qq,zap,zaq ks,l7]
def z7e(z:Key⊕List Key):labs (nkD z)=[]:=by
 cases z with
 |inl k=>exact zap k
 |inr ks=>erw[nkD,labs,zaq]
mutual
theorem zar: ∀(t:D) (v:V),RD G ρ H t v->∀l∈labs t,∃o,H (ρ l)=some o/\(∀xs,o≠ .tup xs)/\∀u w,o≠ .frz u w
 | .non,v,h,l,hl=>by erw[labs] at hl;cases hl
 | .bool b,v,h,l,hl=>by erw[labs] at hl;cases hl
 | .int b,v,h,l,hl=>by erw[labs] at hl;cases hl
 | .str b,v,h,l,hl=>by erw[labs] at hl;cases hl
 | .exc b,v,h,l,hl=>by erw[labs] at hl;cases hl
 | .fn b,v,h,l,hl=>by erw[labs] at hl;cases hl
 | .tup ds,v,h,l,hl=>by
  erw[labs,RD] at h hl
  obtain⟨a,xs,_,_,r⟩:=h
  exact labL_mut ds xs r l hl
 | .fdc ks vs,v,h,l,hl=>by
  erw[labs,RD] at h hl
  obtain⟨a,o,u,xs,_,_,_,r⟩:=h
  exact labL_mut vs _ r l hl
 | .ro ds,v,h,l,hl=>by
  erw[labs,RD] at h hl
  obtain⟨a,xs,_,_,r⟩:=h
  exact labL_mut ds xs r l hl
 | .lst k ds,v,h,l,hl=>by
  erw[labs,RD] at h hl
  obtain⟨_,xs,s,r⟩:=h
  rcases m3.mp hl with rfl|hl
  .exact⟨_,s,(λ_ q=>nomatch q),(λ_ _ q=>nomatch q)⟩
  .exact labL_mut ds xs r l hl
 | .dct k ks vs,v,h,l,hl=>by
  erw[labs,RD] at h hl
  obtain⟨_,⟨kvs,s,s2,r⟩|⟨kvs,s,s2,r⟩⟩:=h
  .rcases m3.mp hl with rfl|hl
   .exact⟨_,s,(λ_ q=>nomatch q),(λ_ _ q=>nomatch q)⟩
   .rcases l4.mp hl with hl|hl
    .rw[s2] at hl
     obtain⟨d,hd,hl⟩:=K0 hl
     rcases m3.mp hd with rfl|hd
     .erw[labs] at hl;cases hl
     obtain⟨p,_,rfl⟩:=l5.mp hd
     obtain⟨kk,_⟩:=p
     cases kk<;>erw[z1M,labs] at hl<;>cases hl
    .exact labL_mut vs _ r l hl
  .rcases m3.mp hl with rfl|hl
   .exact⟨_,s,(λ_ q=>nomatch q),(λ_ _ q=>nomatch q)⟩
   .rcases l4.mp hl with hl|hl
    .rw[s2] at hl
     obtain⟨d,hd,hl⟩:=K0 hl
     obtain⟨p,_,rfl⟩:=l5.mp hd
     erw[dkD,labs] at hl
     obtain⟨d,hd,hl⟩:=K0 hl
     obtain⟨kk,_,rfl⟩:=l5.mp hd
     rw[z7e] at hl;cases hl
    .exact labL_mut vs _ r l hl
 | .obj k c ns vs,v,h,l,hl=>by
  erw[labs,RD] at h hl
  obtain⟨_,C,dx,fs,_,s,_,r⟩:=h
  rcases m3.mp hl with rfl|hl
  .exact⟨_,s,(λ_ q=>nomatch q),(λ_ _ q=>nomatch q)⟩
  .exact labL_mut vs _ r l hl
theorem labL_mut: ∀(t:List D) (v:List V),RDs G ρ H t v->∀l∈qq t,∃o,H (ρ l)=some o/\(∀xs,o≠ .tup xs)/\∀u w,o≠ .frz u w
 |[],v,h,l,hl=>by erw[qq] at hl;cases hl
 |d::ds,v,h,l,hl=>by
  erw[qq,RDs] at h hl
  obtain⟨x,r,_,h1,h2⟩:=h
  rcases l4.mp hl with hl|hl
  .exact zar d x h1 l hl
  .exact labL_mut ds r h2 l hl
end
def z8Z{kvs:List (Key×V)}{l:Nat}(hl:l∈qq (kvs.map λp=>z1M p.1)):False:=by
 obtain⟨d,hd,hl⟩:=K0 hl
 obtain⟨p,_,rfl⟩:=l5.mp hd
 obtain⟨kk,_⟩:=p
 cases kk<;>erw[z1M,labs] at hl<;>cases hl
def z7f{kvs:List (NK×V)}{l:Nat}(hl:l∈qq (kvs.map λp=>dkD p.1)):False:=by
 obtain⟨d,hd,hl⟩:=K0 hl
 obtain⟨p,_,rfl⟩:=l5.mp hd
 erw[dkD,labs] at hl
 obtain⟨d,hd,hl⟩:=K0 hl
 obtain⟨kk,_,rfl⟩:=l5.mp hd
 rw[z7e] at hl;cases hl
mutual
theorem z90(l:Nat): ∀(t:D) (v:V),RD G ρ H t v->l∈labs t->(findT l t).isSome=true
 | .non,v,h,hl=>by erw[labs] at hl;cases hl
 | .bool b,v,h,hl=>by erw[labs] at hl;cases hl
 | .int b,v,h,hl=>by erw[labs] at hl;cases hl
 | .str b,v,h,hl=>by erw[labs] at hl;cases hl
 | .exc b,v,h,hl=>by erw[labs] at hl;cases hl
 | .fn b,v,h,hl=>by erw[labs] at hl;cases hl
 | .tup ds,v,h,hl=>by
  erw[labs,RD,findT] at h hl⊢
  obtain⟨a,xs,_,_,r⟩:=h
  exact findL_some l ds xs r hl
 | .fdc ks vs,v,h,hl=>by
  erw[labs,RD,findT] at h hl⊢
  obtain⟨a,o,u,xs,_,_,_,r⟩:=h
  exact findL_some l vs _ r hl
 | .ro ds,v,h,hl=>by
  erw[labs,RD,findT] at h hl⊢
  obtain⟨a,xs,_,_,r⟩:=h
  exact findL_some l ds xs r hl
 | .lst k ds,v,h,hl=>by
  erw[labs,RD,findT] at h hl⊢
  obtain⟨_,xs,s,r⟩:=h
  by_cases e:k=l
  .rw[qy e];rfl
  .rw[qh e]
   rcases m3.mp hl with q|q
   .exact absurd q.symm e
   .exact findL_some l ds xs r q
 | .dct k ks vs,v,h,hl=>by
  erw[labs,RD,findT] at h hl⊢
  obtain⟨_,⟨kvs,s,s2,r⟩|⟨kvs,s,s2,r⟩⟩:=h
  .by_cases e:k=l
   .rw[qy e];rfl
   .rw[qh e]
    rcases m3.mp hl with q|q
    .exact absurd q.symm e
    .rcases l4.mp q with q|q
     .rw[s2] at q;exact(z8Z q).elim
     .exact findL_some l vs _ r q
  .by_cases e:k=l
   .rw[qy e];rfl
   .rw[qh e]
    rcases m3.mp hl with q|q
    .exact absurd q.symm e
    .rcases l4.mp q with q|q
     .rw[s2] at q;exact(z7f q).elim
     .exact findL_some l vs _ r q
 | .obj k c ns vs,v,h,hl=>by
  erw[labs,RD,findT] at h hl⊢
  obtain⟨_,C,dx,fs,_,s,_,r⟩:=h
  by_cases e:k=l
  .rw[qy e];rfl
  .rw[qh e]
   rcases m3.mp hl with q|q
   .exact absurd q.symm e
   .exact findL_some l vs _ r q
theorem findL_some(l:Nat): ∀(t:List D) (v:List V),RDs G ρ H t v->l∈qq t->(findL l t).isSome=true
 |[],v,h,hl=>by erw[qq] at hl;cases hl
 |d::ds,v,h,hl=>by
  erw[qq,RDs,findL] at h hl⊢
  obtain⟨x,r,_,h1,h2⟩:=h
  cases e:findT l d with
  |some y=>rfl
  |none=>
   rcases l4.mp hl with q|q
   .have:=z90 l d x h1 q
    rw[e] at this;cases this
   .exact findL_some l ds r h2 q
end
def z8Y.stays{n n':Nat}(P:z8Y G ρ n ts vs H ρ' n' ts' H')(r:RDs G ρ H ts vs):V9 H H':=by
 refine⟨λb xs e=>(P.fr b _ e).2 λl hl z=> ?_,λb o u e=>(P.fr b _ e).2 λl hl z=> ?_⟩
 .obtain⟨o,q,q1,_⟩:=labL_mut ts vs r l hl
  rw[<-z,e] at q;cases q;exact q1 _ rfl
 .obtain⟨o,q,_,q1⟩:=labL_mut ts vs r l hl
  rw[<-z,e] at q;cases q;exact q1 _ _ rfl
section
variable(k:KD G.K H){n:Nat}(inj: ∀i j,i<n->j<n->ρ i=ρ j->i=j){ts:List D}{vs:List V}(r:RDs G ρ H ts vs)(lb: ∀l∈qq ts,l<n)
include k inj r lb
mutual
theorem z4y: ∀(t:D) (v:V),RD G ρ H t v->(∀l∈labs t,l<n)->rp (λl=>findL l ts) t=t
 | .non,v,h,hl=>rfl
 | .bool b,v,h,hl=>rfl
 | .int b,v,h,hl=>rfl
 | .str b,v,h,hl=>rfl
 | .exc b,v,h,hl=>rfl
 | .fn b,v,h,hl=>rfl
 | .tup ds,v,h,hl=>by
  erw[labs,RD,rp] at h hl⊢
  obtain⟨a,xs,_,_,r1⟩:=h
  rw[rpL_find_id ds xs r1 hl]
 | .fdc ks vs,v,h,hl=>by
  erw[labs,RD,rp] at h hl⊢
  obtain⟨a,o,u,xs,_,_,_,r1⟩:=h
  rw[rpL_find_id vs _ r1 hl]
 | .ro ds,v,h,hl=>by
  erw[labs,RD,rp] at h hl⊢
  obtain⟨a,xs,_,_,r1⟩:=h
  rw[rpL_find_id ds xs r1 hl]
 | .lst l ds,v,h,hl=>by
  erw[rp]
  cases e:findL l ts with
  |some d=>
   dsimp only
   obtain⟨q1,q2⟩:=findL_rd l ts vs d r e
   have h':=h
   erw[RD] at h'
   obtain⟨rfl,_⟩:=h'
   exact RD.uniq k inj _ _ _ q1 h (λj hj=>lb j (q2 j hj)) hl
  |none=>
   dsimp only
   erw[labs,RD] at h hl
   obtain⟨_,xs,s,r1⟩:=h
   rw[rpL_find_id ds xs r1 λj hj=>hl j (i5 _ hj)]
 | .dct l ks vs',v,h,hl=>by
  erw[rp]
  cases e:findL l ts with
  |some d=>
   dsimp only
   obtain⟨q1,q2⟩:=findL_rd l ts vs d r e
   have h':=h
   erw[RD] at h'
   obtain⟨rfl,_⟩:=h'
   exact RD.uniq k inj _ _ _ q1 h (λj hj=>lb j (q2 j hj)) hl
  |none=>
   dsimp only
   erw[labs,RD] at h hl
   obtain⟨_,⟨kvs,s,s2,r1⟩|⟨kvs,s,s2,r1⟩⟩:=h
   .rw[rpL_find_id vs' _ r1 λj hj=>hl j (i5 _ (i4 _ hj))]
   .rw[rpL_find_id vs' _ r1 λj hj=>hl j (i5 _ (i4 _ hj))]
 | .obj l c ns vs',v,h,hl=>by
  erw[rp]
  cases e:findL l ts with
  |some d=>
   dsimp only
   obtain⟨q1,q2⟩:=findL_rd l ts vs d r e
   have h':=h
   erw[RD] at h'
   obtain⟨rfl,_⟩:=h'
   exact RD.uniq k inj _ _ _ q1 h (λj hj=>lb j (q2 j hj)) hl
  |none=>
   dsimp only
   erw[labs,RD] at h hl
   obtain⟨_,C,dx,fs,_,s,_,r1⟩:=h
   rw[rpL_find_id vs' _ r1 λj hj=>hl j (i5 _ hj)]
theorem rpL_find_id: ∀(t:List D) (v:List V),RDs G ρ H t v->(∀l∈qq t,l<n)->rpL (λl=>findL l ts) t=t
 |[],v,h,hl=>rfl
 |d::ds,v,h,hl=>by
  erw[qq,RDs,rpL] at h hl⊢
  obtain⟨x,q,_,h1,h2⟩:=h
  rw[z4y d x h1 λj hj=>hl j (i8 _ hj),rpL_find_id ds q h2 λj hj=>hl j (i4 _ hj)]
end
theorem z1a: ∀(t:Qq) (v:List (Option V)),Sl G ρ H t v->(∀l∈Y0 t,l<n)->rpO (λl=>findL l ts) t=t
 |[],v,h,hl=>rfl
 |none::r',v,h,hl=>by
  erw[Y0,Sl,rpO] at h hl⊢
  obtain⟨o,q,_,h⟩:=h
  rw[z1a r' q h hl]
 |some d::ds,v,h,hl=>by
  erw[Y0,Sl,rpO] at h hl⊢
  obtain⟨x,q,_,h1,h2⟩:=h
  rw[z4y k inj r lb d x h1 λj hj=>hl j (i8 _ hj),z1a ds q h2 λj hj=>hl j (i4 _ hj)]
end
variable{F:Fy}{σv tv:List (Option V)}{s:Stt}{np:Nat}
def MR.call{n':Nat}(M:MR G F.toFx ρ H σv tv s)(r:RDs G ρ H ts vs)(lb:LB F.toFx ρ s.n (qq ts))(P:z8Y G ρ s.n ts vs H ρ' n' ts' H')
 (hc: ∀l∈V7 s,l∈qq ts->(findL l ts').isSome=true):MR G F.toFx ρ' H' σv tv {σ:=rpO (λl=>findL l ts') s.σ,tm:=rpO (λl=>findL l ts') s.tm,n:=n'}:=by
 have st:=P.stays r
 have step: ∀l∈V7 s,ρ' l=ρ l/\(match findL l ts' with|some d=>RD G ρ' H' d (.ref (ρ l))|none=> ∀o,H (ρ l)=some o->H' (ρ l)=some o):=λl hl=>by
  have ol:=P.old l (M.lab l hl)
  refine⟨ol, ?_⟩
  cases e:findL l ts' with
  |some d=>
   have q:=(findL_rd l ts' vs d P.rd e).1
   rw[ol] at q;exact q
  |none=>
   intro o e1
   refine(P.fr _ _ e1).2 λj hj z=> ?_
   have:l=j:=M.inj l j (M.lab l hl) (lb j hj).1 z
   subst this
   have:=hc l hl hj
   rw[e] at this;cases this
 have hn: ∀l,l<n'->l<s.n\/H (ρ' l)=none:=λl hl=>by
  by_cases h:l<s.n
  .exact .inl h
  .exact .inr (P.new l (R0.mp h) hl)
 have hlab: ∀(xs:Qq),(∀l∈Y0 xs,l∈V7 s)->∀l∈Y0 (rpO (λl=>findL l ts') xs),l<n'/\(l<s.n->l∈V7 s\/l∈qq ts):=λxs hx l h=>by
  rcases z3h l xs h with q|⟨k,d,q1,q2,q3⟩
  .exact⟨A2 (M.lab l (hx l q)) P.le,λ_=> .inl (hx l q)⟩
  .obtain⟨b1,b2⟩:=P.lb l ((findL_rd k ts' vs d P.rd q2).2 l q3)
   exact⟨b1,λz=> .inr (b2 z)⟩
 have all: ∀l∈V7 {σ:=rpO (λl=>findL l ts') s.σ,tm:=rpO (λl=>findL l ts') s.tm,n:=n'},l<n'/\(l<s.n->l∈V7 s\/l∈qq ts):=λl h=>by
  rcases l4.mp h with h|h
  .exact hlab s.σ (λl q=>i8 _ q) l h
  .exact hlab s.tm (λl q=>i4 _ q) l h
 refine⟨Sl.rp st M.sl λl hl=>step l (i8 _ hl),Sl.rp st M.tm λl hl=>step l (i4 _ hl),P.inj,P.dom,λl h=>(all l h).1,λl h=> ?_,λa o e=> ?_,P.kd,λl hl z=> ?_,⟨C7 M.bas.1 P.le,λl hl=> ?_⟩⟩
 .rcases hn l (all l h).1 with q|q
  .rw[P.old l q]
   rcases(all l h).2 q with z|z
   .exact M.own l z
   .exact(lb l z).2
  .exact .inr (M.fresh0 q)
 .obtain⟨⟨o1,e1⟩,e2⟩:=M.frm a o e
  obtain⟨e3,e4⟩:=P.fr a o1 e1
  refine⟨e3,λnA=> ?_⟩
  have e5:=e2 nA
  rw[e1] at e5;cases e5
  refine e4 λl hl z=> ?_
  rcases(lb l hl).2 with q|q
  .exact nA (z▸q)
  .rw[<-z,e] at q;cases q
 .rcases hn l hl with q|q
  .rw[P.old l q] at z;exact M.frb l q z
  .obtain⟨⟨o,e⟩,_⟩:=F.zA _ z
   obtain⟨⟨o',e'⟩,_⟩:=M.frm _ o e
   rw[q] at e';cases e'
 .rw[P.old l (A2 hl M.bas.1)];exact M.bas.2 l hl
def MR.call0{n':Nat}(M:MR G F.toFx ρ H σv tv s)(r:RDs G ρ H ts vs)(lb:LB F.toFx ρ s.n (qq ts))(P:z8Y G ρ s.n ts vs H ρ' n' ts H'):MR G F.toFx ρ' H' σv tv {s with n:=n'}:=by
 have hf: ∀l∈qq ts,(findL l ts).isSome=true:=λl hl=>findL_some l ts vs r hl
 have M2:=M.call r lb P λl _ hl=>hf l hl
 rw[z1a M.kd M.inj r (λl hl=>(lb l hl).1) s.σ σv M.sl λl hl=>M.lab l (i8 _ hl),z1a M.kd M.inj r (λl hl=>(lb l hl).1) s.tm tv M.tm λl hl=>M.lab l (i4 _ hl)] at M2
 exact M2
open Classical in
def z2C(r:RF)(ts:List D):M D:=λs=>match r with
 | .ok t ts' n'=>if ts'=ts then .ok t {s with n:=n'} else
  if ∀l∈V7 s,l∈qq ts->(findL l ts').isSome=true then .ok t {σ:=rpO (λl=>findL l ts') s.σ,tm:=rpO (λl=>findL l ts') s.tm,n:=n'} else .no
 |_=> .no
def Z2(f:FM)(ms:List (M D)):M D:=bd (W8 ms) λts s=>z2C (f ts s.n) ts s
def spM(G:Gx)(np:Nat)(f:FM):Sp:=λvs H Q _=>vs.length=np/\∃ρ n ts,RDs G ρ H ts vs/\(∀i j,i<n->j<n->ρ i=ρ j->i=j)/\(∀l,l<n->∃o,H (ρ l)=some o)/\(∀l∈qq ts,l<n)/\KD G.K H/\match f ts n with
 | .ok t ts' n'=> ∀ρ' v H',z8Y G ρ n ts vs H ρ' n' ts' H'->RD G ρ' H' t v->(∀l∈labs t,l<n'/\(l<n->l∈qq ts))->Q v H'
 |_=>False
def zas{vs:List V}(hl:vs.length=np)(M:MRL G F.toFx ρ H σv tv s ts vs)(W:wM G F σv tv (z2C (f ts s.n) ts s) Q):spM G np f vs H Q E:=by
 refine⟨hl,ρ,s.n,ts,M.rd,M.m.inj,M.m.dom,λl h=>(M.lb l h).1,M.m.kd, ?_⟩
 cases e:f ts s.n with
 |no=>rw[e] at W;exact W
 |ex d ts' n'=>rw[e] at W;exact W
 |ok t ts' n'=>
  rw[e] at W
  intro ρ' v H' P rd lbt
  have own: ∀l∈labs t,F.A0 (ρ' l)\/F.H0 (ρ' l)=none:=λl h=>by
   obtain⟨b1,b2⟩:=lbt l h
   by_cases hn:l<s.n
   .rw[P.old l hn];exact(M.lb l (b2 hn)).2
   .exact .inr (M.m.fresh0 (P.new l (R0.mp hn) b1))
  delta z2C at W
  dsimp only at W
  split at W
  .rename_i et
   subst et
   exact W.out (M.m.call0 M.rd M.lb P) rd λl h=>⟨(lbt l h).1,own l h⟩
  .split at W
   .rename_i hc
    exact W.out (M.m.call M.rd M.lb P hc) rd λl h=>⟨(lbt l h).1,own l h⟩
   .exact False.elim W
def zat: ∀ms s ts s',W8 ms s= .ok ts s'->ts.length=ms.length:=by
 intro ms
 induction ms with
 |nil=>intro s ts s' e;erw[W8,rt,Res.ok.injEq] at e;rw[<-e.1];rfl
 |cons m ms ih=>
  intro s ts s' e
  erw[W8,bd,psh] at e
  cases e1:m s with
  |ok t s1=>
   erw[e1] at e
   cases e2:W8 ms (s1.psh t) with
   |ok ys s2=>
    erw[e2,pop] at e
    cases e3:s2.tm with
    |nil=>erw[e3] at e;cases e
    |cons o r=>
     cases o with
     |none=>erw[e3] at e;cases e
     |some t'=>
      erw[e3,rt,Res.ok.injEq] at e
      rw[<-e.1,A4,A4,ih _ _ _ e2]
   |ex d s2=>erw[e2] at e;cases e
   |no=>erw[e2] at e;cases e
  |ex d s1=>erw[e1] at e;cases e
  |no=>erw[e1] at e;cases e
def z2c(nl:Nat)(mb:MS):FM:=λts n=>match mb {σ:=ts.map some++B8 (nl -ts.length) none,tm:=ts.map some,n:=n} with
 | .nx s'=>match Q5 s'.tm with|some ts'=> .ok .non ts' s'.n|none=> .no
 | .rt t s'=>match Q5 s'.tm with|some ts'=> .ok t ts' s'.n|none=> .no
 | .ex d s'=>match Q5 s'.tm with|some ts'=> .ex d ts' s'.n|none=> .no
 |_=> .no
def zck(G:Gx)(ρ:Nat->Addr)(n:Nat)(ts:List D)(vs:List V)(H:Hp)(lb: ∀l∈qq ts,l<n)(dom: ∀l,l<n->∃o,H (ρ l)=some o):Fy where
 A0:=λa=> ∃l∈qq ts,a=ρ l
 H0:=H
 Z:=λa=>(∃o,H a=some o)/\∀l,l<n->a≠ρ l
 zA:=λa z=>⟨z.1,λ⟨l,hl,e⟩=>z.2 l (lb l hl) e⟩
 aH:=λa ⟨l,hl,e⟩=>e▸dom l (lb l hl)
 n0:=n
 ρ0:=ρ
 tv0:=vs.map some
 xw:=λ_ _=>False
theorem RDs.sl: ∀{ts:List D} {vs:List V},RDs G ρ H ts vs->Sl G ρ H (ts.map some) (vs.map some)/\Y0 (ts.map some)=qq ts
 |[],vs,h=>by erw[RDs] at h;subst h;simp[Sl,Y0,qq]
 |d::ds,vs,h=>by
  erw[RDs] at h
  obtain⟨x,q,rfl,h1,h2⟩:=h
  obtain⟨q1,q2⟩:=RDs.sl h2
  refine⟨?_,by erw[i7,Y0,qq,q2]⟩
  erw[i7,Sl]
  exact⟨_,_,rfl,h1,q1⟩
def z89{ts ts':List D}{vs:List V}{n:Nat}{lb: ∀l∈qq ts,l<n}{dom: ∀l,l<n->∃o,H (ρ l)=some o}(inj: ∀i j,i<n->j<n->ρ i=ρ j->i=j)(M:MR G (zck G ρ n ts vs H lb dom).toFx ρ' H' σv (vs.map some) s)(e:Q5 s.tm=some ts'):
 z8Y G ρ n ts vs H ρ' s.n ts' H'/\∀l,l<s.n->((zck G ρ n ts vs H lb dom).A0 (ρ' l)\/H (ρ' l)=none)->l<n->l∈qq ts:=by
 have own: ∀l,l<s.n->((zck G ρ n ts vs H lb dom).A0 (ρ' l)\/H (ρ' l)=none)->l<n->l∈qq ts:=λl hl q hn=>by
  have ol:=M.bas.2 l hn
  have ol:ρ' l=ρ l:=ol
  rcases q with⟨j,hj,q⟩|q
  .rw[ol] at q
   rw[inj l j hn (lb j hj) q];exact hj
  .rw[ol] at q
   obtain⟨o,z⟩:=dom l hn
   rw[z] at q;cases q
 obtain⟨r1,r2⟩:=Sl.all M.tm e
 refine⟨⟨M.bas.2,M.bas.1,M.inj,M.dom,r1,λl hl=> ?_,λa o e1=> ?_,λl h1 h2=> ?_,M.kd⟩,own⟩
 .rw[r2] at hl
  have m:l∈V7 s:=i4 _ hl
  exact⟨M.lab l m,own l (M.lab l m) (M.own l m)⟩
 .obtain⟨q1,q2⟩:=M.frm a o e1
  exact⟨q1,λz=>q2 λ⟨l,hl,e⟩=>z l hl e⟩
 .cases q:H (ρ' l) with
  |none=>rfl
  |some o=>
   refine absurd ⟨⟨o,q⟩,λj hj e=> ?_⟩ (M.frb l h2)
   have oj:ρ' j=ρ j:=M.bas.2 j hj
   have:=M.inj l j h2 (A2 hj M.bas.1) (e.trans oj.symm)
   lia
end
mutual
def sz:D->Nat
 | .tup ds=>szL ds+1
 | .ro ds=>szL ds+1
 | .fdc _ vs=>szL vs+1
 | .lst _ ds=>szL ds+1
 | .dct _ _ vs=>szL vs+1
 | .obj _ _ _ vs=>szL vs+1
 | .non=>1| .bool _=>1| .int _=>1| .str _=>1| .exc _=>1| .fn _=>1
def szL:List D->Nat
 |[]=>0
 |d::ds=>sz d+szL ds
end
mutual
theorem zcl(l:Nat): ∀(t d:D),findT l t=some d->sz d<=sz t
 | .non,d,e=>by erw[findT] at e;cases e
 | .bool b,d,e=>by erw[findT] at e;cases e
 | .int b,d,e=>by erw[findT] at e;cases e
 | .str b,d,e=>by erw[findT] at e;cases e
 | .exc b,d,e=>by erw[findT] at e;cases e
 | .fn b,d,e=>by erw[findT] at e;cases e
 | .tup ds,d,e=>by erw[findT,sz] at e⊢;have:=findL_sz l ds d e;lia
 | .ro ds,d,e=>by erw[findT,sz] at e⊢;have:=findL_sz l ds d e;lia
 | .fdc ks vs,d,e=>by erw[findT,sz] at e⊢;have:=findL_sz l vs d e;lia
 | .lst k ds,d,e=>by
  erw[findT] at e
  by_cases h:k=l
  .rw[qy h] at e;cases e;exact i6 _
  .rw[qh h] at e;erw[sz];have:=findL_sz l ds d e;lia
 | .dct k ks vs,d,e=>by
  erw[findT] at e
  by_cases h:k=l
  .rw[qy h] at e;cases e;exact i6 _
  .rw[qh h] at e;erw[sz];have:=findL_sz l vs d e;lia
 | .obj k c ns vs,d,e=>by
  erw[findT] at e
  by_cases h:k=l
  .rw[qy h] at e;cases e;exact i6 _
  .rw[qh h] at e;erw[sz];have:=findL_sz l vs d e;lia
theorem findL_sz(l:Nat): ∀(t:List D) (d:D),findL l t=some d->sz d<=szL t
 |[],d,e=>by erw[findL] at e;cases e
 |t::ts,d,e=>by
  erw[findL] at e
  erw[szL]
  cases e1:findT l t with
  |some y=>rw[e1] at e;cases e;have:=zcl l t _ e1;lia
  |none=>rw[e1] at e;have:=findL_sz l ts d e;lia
end
section
variable{G:Gx}{F:Fy}{ρ:Nat->Addr}{H:Hp}{σv tv:List (Option V)}{s:Stt}{t:D}{ts ds es:List D}{v:V}{vs xs ys:List V}{l:Nat}{Q:VK}
def z4Y(M:MR G F.toFx ρ H σv tv s)(h:RD G ρ H (.lst l ds) v)(lb: ∀j∈labs (.lst l ds),j<s.n):l∉qq ds:=λhl=>by
 have h0:=h
 erw[RD] at h0
 obtain⟨rfl,xs,q,r⟩:=h0
 have:=findL_some l ds xs r hl
 cases e:findL l ds with
 |none=>rw[e] at this;cases this
 |some d=>
  obtain⟨q1,q2⟩:=findL_rd l ds xs d r e
  have e2:=RD.uniq M.kd M.inj _ _ _ q1 h (λj hj=>lb j (by erw[labs];exact i5 _ (q2 j hj))) lb
  have e3:=findL_sz l ds d e
  rw[e2] at e3
  erw[sz] at e3
  lia
def MR.put2(M:MR G F.toFx ρ H σv tv s)(ln:l<s.n)(ow:F.A0 (ρ l)\/F.H0 (ρ l)=none)(ts:V9 H (upd H (ρ l) o))(k:KD G.K (upd H (ρ l) o))(hd:RD G ρ (upd H (ρ l) o) d (.ref (ρ l)))(hb:LB F.toFx ρ s.n (labs d)):
 MR G F.toFx ρ (upd H (ρ l) o) σv tv (s.put l d):=by
 have step: ∀k,k∈V7 s->ρ k=ρ k/\(match (if k=l then some d else none:Option D) with|some d=>RD G ρ (upd H (ρ l) o) d (.ref (ρ k))|none=> ∀o',H (ρ k)=some o'->upd H (ρ l) o (ρ k)=some o'):=λk hk=>by
  refine⟨rfl, ?_⟩
  by_cases e:k=l
  .rw[qy e];subst e;exact hd
  .rw[qh e]
   intro o' q
   rw[Z5 (λz=>e (M.inj k l (M.lab k hk) ln z))]
   exact q
 have sub: ∀(xs:Qq) (j:Nat),j∈Y0 (rpO (λk=>if k=l then some d else none) xs)->(∀i∈Y0 xs,i∈V7 s)->j<s.n/\(F.A0 (ρ j)\/F.H0 (ρ j)=none):=λxs j h hx=>by
  rcases z3h j xs h with q|⟨k,d',q1,q2,q3⟩
  .exact⟨M.lab j (hx j q),M.own j (hx j q)⟩
  .by_cases e:k=l
   .rw[qy e] at q2;cases q2;exact hb j q3
   .rw[qh e] at q2;cases q2
 have all: ∀j∈V7 (s.put l d),j<s.n/\(F.A0 (ρ j)\/F.H0 (ρ j)=none):=λj h=>by
  rcases l4.mp h with h|h
  .exact sub s.σ j h λi hi=>i8 _ hi
  .exact sub s.tm j h λi hi=>i4 _ hi
 refine⟨Sl.rp ts M.sl λk hk=>step k (i8 _ hk),Sl.rp ts M.tm λk hk=>step k (i4 _ hk),M.inj,λk hk=> ?_,λj h=>(all j h).1,λj h=>(all j h).2,λa o' e=> ?_,k,M.frb,M.bas⟩
 .by_cases e:ρ k=ρ l
  .rw[e];exact⟨o,Z3⟩
  .rw[Z5 e];exact M.dom k hk
 .obtain⟨⟨o1,e1⟩,e2⟩:=M.frm a o' e
  by_cases ea:a=ρ l
  .subst ea
   refine⟨⟨o,Z3⟩,λn=> ?_⟩
   rcases ow with q|q
   .exact absurd q n
   .rw[e] at q;cases q
  .rw[Z5 ea]
   exact⟨⟨o1,e1⟩,e2⟩
def z4z(k:KD G.K H)(e:H a=some o):KD G.K (upd H a o'):=λb ob q=>by
 by_cases h:b=a
 .subst h;rw[k _ _ q] at e;cases e
 .rw[Z5 h];exact k _ _ q
def z6a{o':HO}{a:Addr}{xs:List V}(e:H a=some (.lst xs)):V9 H (upd H a o'):=
 ⟨λb ys q=>by rw[Z5 (z0Z q e (by intro z;cases z))];exact q,λb o u q=>by rw[Z5 (z0Z q e (by intro z;cases z))];exact q⟩
def RDs.upd{a:Addr}(st:V9 H (upd H (ρ l) o))(inj: ∀i j,i<s.n->j<s.n->ρ i=ρ j->i=j)(ln:l<s.n)(r:RDs G ρ H ds xs)(lb: ∀j∈qq ds,j<s.n/\j≠l):RDs G ρ (L2.upd H (ρ l) o) ds xs:=
 RDs.stay st ds xs r λj hj=>⟨rfl,λo' e=>by rw[Z5 (λz=>(lb j hj).2 (inj j l (lb j hj).1 ln z))];exact e⟩
def MR.putL(M:MR G F.toFx ρ H σv tv s)(hl:H (ρ l)=some (.lst xs))(ln:l<s.n)(ow:F.A0 (ρ l)\/F.H0 (ρ l)=none)(r:RDs G ρ H es ys)(lb:LB F.toFx ρ s.n (qq es))(ne:l∉qq es):
 MR G F.toFx ρ (upd H (ρ l) (.lst ys)) σv tv (s.put l (.lst l es)):=by
 refine M.put2 ln ow (z6a hl) (z4z M.kd hl) ?_ λj hj=> ?_
 .erw[RD]
  exact⟨trivial,ys,Z3,RDs.upd (a:=0) (z6a hl) M.inj ln r λj hj=>⟨(lb j hj).1,λz=>ne (z▸hj)⟩⟩
 .erw[labs] at hj
  rcases m3.mp hj with q|q
  .rw[q];exact⟨ln,ow⟩
  .exact lb j q
end
def z1N:D->List D->M D
 | .lst l ds,[y]=>λs=>if ds.length<qg/\l∉labs y then .ok .non (s.put l (.lst l (ds++[y]))) else .no
 |_,_=>fl
def z2k:D->List D->M D
 | .lst l ds,[y]=>λs=>match z9q y with
  |some es=>if ds.length+es.length<=qg/\l∉qq es then .ok .non (s.put l (.lst l (ds++es))) else .no
  |none=> .no
 |_,_=>fl
def zgh:D->List D->M D
 | .lst l ds,[]=>λs=> .ok .non (s.put l (.lst l ds.reverse))
 |_,_=>fl
def isL(x:D):M Unit:=λs=>match zgb x with|some _=> .ok () s|none=> .no
def Q2(mo:M D)(ms:List (M D))(g:D->List D->M D):M D:=bd mo λx=>bd (isL x) λ_=>bd (psh x) λ_=>bd (W8 ms) λys=>bd pop λx'=>g x' ys
section
variable{X:Cx}{G:Gx}{F:Fy}{e o:bi}{es:List bi}{apos cpos:bO}
def zeU(G:Gx)(F:Fy)(r:V->List V->Hp->VK->Prop)(g:D->List D->M D):Prop:= ∀ρ s t ts v vs H σv tv Q,MRL G F.toFx ρ H σv tv s (t::ts) (v::vs)->wM G F σv tv (g t ts s) Q->r v vs H (λw H'=>KD G.K H'->Q w H')
def MRL.hd{s:Stt}(M:MRL G F.toFx ρ H σv tv s (t::ts) (v::vs)):RD G ρ H t v/\RDs G ρ H ts vs/\LB F.toFx ρ s.n (labs t)/\LB F.toFx ρ s.n (qq ts):=by
 have h:=M.rd
 erw[RDs] at h
 obtain⟨_,_,e,h1,h2⟩:=h
 cases e
 exact⟨h1,h2,λl h=>M.lb l (by erw[qq];exact i8 _ h),λl h=>M.lb l (by erw[qq];exact i4 _ h)⟩
def zhB:zeU G F z9S z1N:=by
 intro ρ s t ts v vs H σv tv Q M W
 obtain⟨h1,h2,b1,b2⟩:=M.hd
 delta z1N at W
 split at W
 .rename_i l ds y
  split at W
  .rename_i hc
   have h1':=h1
   erw[RD] at h1
   obtain⟨rfl,xs,hx,r⟩:=h1
   erw[RDs] at h2
   obtain⟨u,q,rfl,h2,rfl⟩:=h2
   have ns:=z4Y M.m h1' λj hj=>(b1 j hj).1
   have bl:=b1 l (by erw[labs];exact l6 ..)
   refine⟨_,xs,u,rfl,rfl,hx,by rw[<-r.length];exact hc.1,λ_=>W.out (M.m.putL hx bl.1 bl.2 (r.append (RDs.one h2)) ?_ ?_) (by erw[RD]) λl h=>by simp[labs] at h⟩
   .intro j hj
    rw[v0] at hj
    rcases l4.mp hj with q|q
    .exact b1 j (by erw[labs];exact i5 _ q)
    .exact b2 j q
   .intro hj
    rw[v0] at hj
    rcases l4.mp hj with q|q
    .exact ns q
    .erw[qq,l7] at q;exact hc.2 q
  .exact False.elim W
 .exact wfl W
def zhC:zeU G F z7W zgh:=by
 intro ρ s t ts v vs H σv tv Q M W
 obtain⟨h1,h2,b1,b2⟩:=M.hd
 delta zgh at W
 split at W
 .rename_i l ds
  have h1':=h1
  erw[RD] at h1
  obtain⟨rfl,xs,hx,r⟩:=h1
  erw[RDs] at h2
  subst h2
  have ns:=z4Y M.m h1' λj hj=>(b1 j hj).1
  have bl:=b1 l (by erw[labs];exact l6 ..)
  have mm: ∀j,j∈qq ds.reverse->j∈qq ds:=λj hj=>by
   obtain⟨d,h1,h2⟩:=K0 hj
   exact qk (List.mem_reverse.mp h1) j h2
  exact⟨_,xs,rfl,rfl,hx,λ_=>W.out (M.m.putL hx bl.1 bl.2 r.reverse (λj hj=>b1 j (by erw[labs];exact i5 _ (mm j hj))) λhj=>ns (mm l hj)) (by erw[RD]) λl h=>by simp[labs] at h⟩
 .exact wfl W
def zhD:zeU G F (zh2 G.K) z2k:=by
 intro ρ s t ts v vs H σv tv Q M W
 obtain⟨h1,h2,b1,b2⟩:=M.hd
 delta z2k at W
 split at W
 .rename_i l ds y
  cases ey:z9q y with
  |none=>erw[ey] at W;exact False.elim W
  |some es=>
   erw[ey] at W
   split at W
   .rename_i hc
    have h1':=h1
    erw[RD] at h1
    obtain⟨rfl,xs,hx,r⟩:=h1
    erw[RDs] at h2
    obtain⟨u,q,rfl,h2,rfl⟩:=h2
    obtain⟨a,ys,rfl,sq,r2,sub⟩:=h2.seq ey
    have ns:=z4Y M.m h1' λj hj=>(b1 j hj).1
    have bl:=b1 l (by erw[labs];exact l6 ..)
    refine⟨_,a,xs,ys,rfl,rfl,hx,sq.symm,by rw[<-r.length,<-r2.length];exact hc.1,λ_=>W.out (M.m.putL hx bl.1 bl.2 (r.append r2) ?_ ?_) (by erw[RD]) λl h=>by simp[labs] at h⟩
    .intro j hj
     rw[v0] at hj
     rcases l4.mp hj with q|q
     .exact b1 j (by erw[labs];exact i5 _ q)
     .exact b2 j (by erw[qq,l7];exact sub j q)
    .intro hj
     rw[v0] at hj
     rcases l4.mp hj with q|q
     .exact ns q
     .exact hc.2 q
   .exact False.elim W
 .exact wfl W
def z8a{r:V->List V->Hp->VK->Prop}(hT:T= "list")(hg:zeU G F r g)(h:tM G F (Q2 mo ms g) σ H Q):
 tM G F mo σ H λx H1=>tyV G.K T x H1/\tML G F (W8 ms) σ H1 λxs H2=>r x xs H2 λw H'=>KD G.K H'->Q w H':=by
 obtain⟨tv,h⟩:=h
 have hs:=h.1
 refine⟨tv,(zah h).mono λv H1 ⟨ρ1,s1,t,M1,W⟩=> ?_⟩
 erw[bd,isL] at W
 cases e1:zgb t with
 |none=>erw[e1] at W;exact False.elim W
 |some ds=>
  erw[e1,psh] at W
  obtain⟨a,xs,rfl,sq,_⟩:=M1.rd1.lstq e1
  refine⟨.inl ⟨hT,xs,sq⟩,some (.ref a)::tv,z82 hs,ρ1,s1.psh t,M1.push, ?_⟩
  cases e2:W8 ms (s1.psh t) with
  |ex d s2=>erw[e2] at W;exact W
  |no=>erw[e2] at W;exact W
  |ok ys s2=>
   erw[e2,pop] at W
   intro ρ2 us H2 M2
   cases e3:s2.tm with
   |nil=>erw[e3] at W;exact False.elim W
   |cons o r=>
    cases o with
    |none=>erw[e3] at W;exact False.elim W
    |some t'=>
     erw[e3] at W
     exact hg _ _ _ _ _ _ _ _ _ _ (M2.down e3) W
def zeV{name:Str}{id:String}{r:V->List V->Hp->VK->Prop}{mo:M D}{ms:List (M D)}{g:D->List D->M D}(hk:X.K=G.K)(slot:Slot "list" name id)(hty:dv (.builtin id)=pure (.type "method_descriptor"))(hm:MtR X id r)(hg:zeU G F r g)(ho:SE X G F o mo)(ha:SA X G F (e::es) (W8 ms))
 (hbase:bR o name X.env (bC o X.env)=bC o X.env:=by rfl)
 (hfew:((bK cpos (bh (e::es) X.env)).all (λx=> !x.1)&&(dR cpos (cK [] X.env)).all (λx=>x.1.isSome)
  &&decide ((e::es).length+([]:List cC).length+(if([]:List cC).isEmpty then 0 else 1)<30))=true:=by rfl)
 (hline:(apos.endLine==cpos.line)=true:=by rfl) (hs:bh (e::es) X.env=(false,bC e X.env)::bh es X.env:=by rfl) (hplain:(bK cpos (bh es X.env)).any (·.1)=false:=by rfl):SE X G F (.Call (.Attribute o name apos) (e::es) [] cpos) (Q2 mo ms g):=by
 refine PE.imp hk (zjZ PySem.F.plainAttrs_list slot hty hm ho ha hbase hfew hline hs hplain) λ σ H Q h=> ?_
 rw[hk]
 exact z8a rfl hg h
def zcm{name:Str}{id:String}{r:V->List V->Hp->VK->Prop}{mo:M D}{g:D->List D->M D}(hk:X.K=G.K)(slot:Slot "list" name id)(hty:dv (.builtin id)=pure (.type "method_descriptor"))(hm:MtR X id r)(hg:zeU G F r g)(ho:SE X G F o mo)
 (hbase:bR o name X.env (bC o X.env)=bC o X.env:=by rfl) (hline:(apos.endLine==cpos.line)=true:=by rfl):SE X G F (.Call (.Attribute o name apos) [] [] cpos) (Q2 mo [] g):=by
 refine PE.imp hk (zgQ PySem.F.plainAttrs_list slot hty hm ho hbase hline) λ σ H Q h=> ?_
 rw[hk]
 obtain⟨tv,h2⟩:=z8a rfl hg h
 refine⟨tv,h2.mono λv H1 ⟨q1,tv1,hs,ρ1,s1,M1,W⟩=>⟨q1, ?_⟩⟩
 exact W ρ1 [] H1 ⟨M1,rfl,λl h=>by simp[qq] at h⟩
def zeW(o i v:D):MS:=λs=>match o,i with
 | .lst l ds, .int k=>match ixN ds.length k with
  |some j=>if l∉labs v then .nx (s.put l (.lst l (ds.set j v))) else .no
  |none=> .no
 |_,_=> .no
def z20(me mo mi:M D)(g:D->D->D->MS):MS:=z1o me λv=>z1o (psh v) λ_=>z1o mo λo=>z1o (psh o) λ_=>z1o mi λi=>z1o pop λo'=>z1o pop λv'=>g o' i v'
def zcn{mo mi:M D}{g:D->D->D->MS}{Dd:Ends}(hs:F.tv0<:+tv)(M1:MRL G F.toFx ρ1 H1 σ tv s1 [t] [v])
 (W:wS G F tv ((z1o (psh t) λ_=>z1o mo λo=>z1o (psh o) λ_=>z1o mi λi=>z1o pop λo'=>z1o pop λv'=>g o' i v') s1) Dd):
 tM G F mo σ H1 λo H2=>tM G F mi σ H2 λi H3=> ∃ρ s t1 t2 t3,MRL G F.toFx ρ H3 σ tv s [t1,t2,t3] [v,o,i]/\wS G F tv (g t2 t3 t1 s) Dd:=by
 refine⟨some v::tv,z82 hs,ρ1,s1.psh t,M1.push, ?_⟩
 erw[z1o,psh] at W
 cases e1:mo (s1.psh t) with
 |ex d s2=>erw[e1] at W;exact W
 |no=>erw[e1] at W;exact W
 |ok o s2=>
  erw[e1] at W
  intro ρ2 u H2 M2
  refine⟨some u::some v::tv,z82 (z82 hs),ρ2,s2.psh o,M2.push, ?_⟩
  cases e2:mi (s2.psh o) with
  |ex d s3=>erw[e2] at W;exact W
  |no=>erw[e2] at W;exact W
  |ok i s3=>
   erw[e2,pop] at W
   intro ρ3 w H3 M3
   cases e3:s3.tm with
   |nil=>erw[e3] at W;exact False.elim W
   |cons o3 r3=>
    cases o3 with
    |none=>erw[e3] at W;exact False.elim W
    |some x3=>
     erw[e3] at W
     cases r3 with
     |nil=>exact False.elim W
     |cons o4 r4=>
      cases o4 with
      |none=>exact False.elim W
      |some x4=>
       have M4:=M3.down e3
       have M5:=M4.down (s':={s3 with tm:=some x4::r4}) rfl
       exact⟨ρ3,_,x4,x3,i,M5,W⟩
def z4Z(h:tSv G F (z20 me mo mi g) tv Dd σ H):
 tM G F me σ H λv H1=>tM G F mo σ H1 λo H2=>tM G F mi σ H2 λi H3=> ∃ρ s t1 t2 t3,MRL G F.toFx ρ H3 σ tv s [t1,t2,t3] [v,o,i]/\wS G F tv (g t2 t3 t1 s) Dd:=
 ⟨tv,(z19 h).mono λv H1 ⟨ρ1,s1,t,M1,W⟩=>zcn h.1 M1 W⟩
def zhE{ρ:Nat->Addr}{s:Stt}{t1 t2 t3:D}{v o i:V}{H:Hp}{σv tv:List (Option V)}{Dd:Ends}(M:MRL G F.toFx ρ H σv tv s [t1,t2,t3] [v,o,i])(W:wS G F tv (zeW t2 t3 t1 s) Dd):zeo o i v H λH'=>Dd.nx σv H':=by
 have h:=M.rd
 erw[RDs] at h
 obtain⟨_,_,e,h1,_,_,e2,h2,_,_,e3,h3,_⟩:=h
 cases e;cases e2;cases e3
 have b1:LB F.toFx ρ s.n (labs t1):=λl h=>M.lb l (by erw[qq];exact i8 _ h)
 have b2:LB F.toFx ρ s.n (labs t2):=λl h=>M.lb l (by erw[qq];exact i4 _ (i8 _ h))
 cases t2 with
 |lst l ds=>
  cases t3 with
  |int k=>
   erw[zeW] at W
   cases ek:ixN ds.length k with
   |none=>erw[ek] at W;exact False.elim W
   |some j=>
    erw[ek] at W
    by_cases hc:l∉labs t1
    .rw[qy hc] at W
     have h2':=h2
     erw[RD] at h2 h3
     obtain⟨rfl,xs,hx,r⟩:=h2
     subst h3
     have ns:=z4Y M.m h2' λj hj=>(b2 j hj).1
     have bl:=b2 l (by erw[labs];exact l6 ..)
     have mm: ∀q,q∈qq (ds.set j t1)->q∈qq ds\/q∈labs t1:=λq hq=>by
      obtain⟨d,h1,h2⟩:=K0 hq
      rcases List.mem_or_eq_of_mem_set h1 with z|z
      .exact .inl (qk z q h2)
      .subst z;exact .inr h2
     refine⟨_,xs,k,j,rfl,rfl,hx,by rw[<-r.length];exact ek,W ρ σv _ (M.m.putL hx bl.1 bl.2 (r.set j h1) (λq hq=> ?_) λhq=> ?_)⟩
     .rcases mm q hq with z|z
      .exact b2 q (by erw[labs];exact i5 _ z)
      .exact b1 q z
     .rcases mm l hq with z|z
      .exact ns z
      .exact hc z
    .rw[qh hc] at W;exact False.elim W
  |_=>exact False.elim W
 |_=>exact False.elim W
variable{a b c:bi}{pos:bO}{ma mb mc m:M D}
structure Cm(X:Cx)(G:Gx)(F:Fy)(op:dM)(g:D->D->M D):Prop where
 h: ∃r,OpR X (bI op) r/\z3y G F r g
def zco:Cm X G F .Lt ltD:=⟨_,zjP,zka⟩
def z91:Cm X G F .Gt gtD:=⟨_,zjQ,zkb⟩
def z2D(hk:X.K=G.K)(hu:X.A.units+64<cLine):Cm X G F .Eq eqD:=⟨_,hk▸zh0 hu,zkc⟩
def z92(hk:X.K=G.K)(hu:X.A.units+64<cLine):Cm X G F .NotEq neD:=⟨_,hk▸zh1 hu,zkd⟩
def zdz:Cm X G F .Is isN:=⟨_,zgI,zhf⟩
def zeX:Cm X G F .IsNot zgc:=⟨_,zed,zeL⟩
structure Cb(X:Cx)(G:Gx)(F:Fy)(f:bc)(g:List D->M D):Prop where
 h: ∃r,CallR X f r/\K4 G F r g
def zhF(hk:X.K=G.K):Cb X G F (.builtin "len") X8:=⟨_,hk▸z5V,zhm⟩
def zhG:Cb X G F (.builtin "abs") zge:=⟨_,zbU,zhn⟩
def zdA(hc:X.calm=true):Cb X G F (.builtin "min") zeR:=⟨_,z9K hc,zho⟩
def zhH(hc:X.calm=true):Cb X G F (.builtin "max") zgf:=⟨_,z9J hc,zhp⟩
def zhI(hk:X.K=G.K)(hd:X.A.handled=none):Cb X G F (.builtin "all") zdv:=⟨_,hk▸za0 hd,zhq⟩
def zhJ(hk:X.K=G.K)(hd:X.A.handled=none):Cb X G F (.builtin "any") zgg:=⟨_,hk▸za1 hd,zhr⟩
def zau:Cb X G F (.type "int") zbJ:=⟨_,z9L,zhs⟩
def z2l(hk:X.K=G.K):Cb X G F (.type "tuple") z68:=⟨_,hk▸za7,zeS⟩
def z7g(hk:X.K=G.K):Cb X G F (.type "list") z4m:=⟨_,hk▸z5W,zcg⟩
structure Cl(X:Cx)(G:Gx)(F:Fy)(id:String)(g:D->List D->M D):Prop where
 h: ∃r,MtR X id r/\zeU G F r g
def G1:Cl X G F "list.append" z1N:=⟨_,z5X,zhB⟩
def V5(hk:X.K=G.K):Cl X G F "list.extend" z2k:=⟨_,hk▸zez,zhD⟩
def z93:Cl X G F "list.reverse" zgh:=⟨_,z8O,zhC⟩
end
def G0(K:W.Frag):Gx:=⟨K,λ_=>none,λ_ _ _ h=>(by cases h),λ_ _ h=>(by cases h)⟩
inductive SEs(X:Cx)(G:Gx)(F:Fy):List bi->List (M D)->Prop
 |nil:SEs X G F [] []
 |cons {e:bi} {m:M D} {es:List bi} {ms:List (M D)}:SE X G F e m->nst e=true->SEs X G F es ms->SEs X G F (e::es) (m::ms)
def sa_of{X:Cx}{G:Gx}(hk:X.K=G.K)(h:SEs X G F es ms):SA X G F es (W8 ms):=by
 induction h with
 |nil=>exact zha hk
 |cons h1 h2 _ ih=>exact zeH hk h1 ih h2
section
variable{X:Cx}{G:Gx}{F:Fy}{a b tg:bi}{pos:bO}
def z4n(lo:Int)(n:Nat):List D:=(D5 n).map λ(k:Nat)=>D.int (lo+(k:Int))
end
open PyProof.Rows (envOfC)
open Classical in
def zlr(r:RF)(ts:List D):M D:=λs=>match r with
 | .ok t ts' n'=>if ts'=ts then .ok t {s with n:=n'} else
  if ∀l∈V7 s,l∈qq ts->(findL l ts').isSome=true then .ok t {σ:=rpO (λl=>findL l ts') s.σ,tm:=rpO (λl=>findL l ts') s.tm,n:=n'} else .no
 | .ex d ts' n'=>if ts'=ts then .ex d {s with n:=n'} else
  if ∀l∈V7 s,l∈qq ts->(findL l ts').isSome=true then .ex d {σ:=rpO (λl=>findL l ts') s.σ,tm:=rpO (λl=>findL l ts') s.tm,n:=n'} else .no
 | .no=> .no
def z0x:D->Option Key
 | .int i=>some (.inl i)
 | .str x=>some (.inr x)
 |_=>none
def z1u:List D->Option (List Key)
 |[]=>some []
 |d::ds=>match z0x d with
  |some k=>match z1u ds with
   |some ks=>some (k::ks)
   |none=>none
  |none=>none
def zdB:D->Option (Key⊕List Key)
 | .tup ds=>match z1u ds with|some ks=>some (.inr ks)|none=>none
 |d=>match z0x d with|some k=>some (.inl k)|none=>none
def z3C:List D->Option NK
 |[]=>some []
 |d::ds=>match zdB d with
  |some k=>match z3C ds with
   |some ks=>some (k::ks)
   |none=>none
  |none=>none
def z1O:D->Option NK
 | .tup ds=>z3C ds
 |_=>none
def isT:List D->Bool
 | .non::_=>false
 |_=>true
section
variable{G:Gx}{ρ:Nat->Addr}{H:Hp}
def z50(h:RD G ρ H d v)(e:z0x d=some k):v=kV k/\d=z1M k:=by
 cases d<;>erw[z0x] at e<;>cases e<;>(erw[RD] at h;exact⟨h,rfl⟩)
theorem z6b: ∀{ds:List D} {xs:List V} {ks:List Key},RDs G ρ H ds xs->z1u ds=some ks->xs=ks.map kV/\ds=ks.map z1M
 |[],xs,ks,h,e=>by erw[RDs] at h;erw[z1u] at e;cases e;exact⟨h,rfl⟩
 |d::ds,xs,ks,h,e=>by
  erw[RDs] at h
  obtain⟨x,r,rfl,h1,h2⟩:=h
  erw[z1u] at e
  cases e1:z0x d with
  |none=>rw[e1] at e;cases e
  |some k=>
   rw[e1] at e
   cases e2:z1u ds with
   |none=>erw[e2] at e;cases e
   |some ks'=>
    erw[e2] at e
    cases e
    obtain⟨a1,a2⟩:=z50 h1 e1
    obtain⟨b1,b2⟩:=z6b h2 e2
    rw[a1,b1,a2,b2]
    exact⟨rfl,rfl⟩
def zeY(h:RD G ρ H d v)(e:zdB d=some k):TKi H k v/\d=nkD k:=by
 have flat: ∀{d:D} {v:V},RD G ρ H d v->(match z0x d with|some k=>some (Sum.inl k:Key⊕List Key)|none=>none)=some k->TKi H k v/\d=nkD k:=by
  intro d v h e
  cases e1:z0x d with
  |none=>rw[e1] at e;cases e
  |some k'=>
   rw[e1] at e
   cases e
   obtain⟨a1,a2⟩:=z50 h e1
   exact⟨a1,a2⟩
 cases d with
 |tup ds=>
  erw[zdB] at e
  cases e1:z1u ds with
  |none=>rw[e1] at e;cases e
  |some ks=>
   rw[e1] at e
   cases e
   erw[RD] at h
   obtain⟨a,xs,e2,s,r⟩:=h
   obtain⟨b1,b2⟩:=z6b r e1
   exact⟨⟨a,e2,b1▸s⟩,by rw[b2];rfl⟩
 |_=>exact flat h e
theorem z8b: ∀{ds:List D} {xs:List V} {ks:NK},RDs G ρ H ds xs->z3C ds=some ks->bx (TKi H) ks xs/\ds=ks.map nkD
 |[],xs,ks,h,e=>by erw[RDs] at h;erw[z3C] at e;cases e;subst h;exact⟨.nil,rfl⟩
 |d::ds,xs,ks,h,e=>by
  erw[RDs] at h
  obtain⟨x,r,rfl,h1,h2⟩:=h
  erw[z3C] at e
  cases e1:zdB d with
  |none=>rw[e1] at e;cases e
  |some k=>
   rw[e1] at e
   cases e2:z3C ds with
   |none=>erw[e2] at e;cases e
   |some ks'=>
    erw[e2] at e
    cases e
    obtain⟨a1,a2⟩:=zeY h1 e1
    obtain⟨b1,b2⟩:=z8b h2 e2
    rw[a2,b2]
    exact⟨.cons a1 b1,rfl⟩
def z21(h:RD G ρ H t v)(e:z1O t=some k): ∃b,v= .ref b/\TK H k b/\t=dkD k:=by
 cases t<;>erw[z1O] at e<;>try cases e
 erw[RD] at h
 obtain⟨a,xs,e1,s,r⟩:=h
 obtain⟨b1,b2⟩:=z8b r e
 exact⟨a,e1,⟨xs,s,b1⟩,by rw[b2];rfl⟩
theorem z4A: ∀k:List Key,z1u (k.map z1M)=some k
 |[]=>rfl
 |k::ks=>by
  erw[i7,z1u]
  have:z0x (z1M k)=some k:=by cases k<;>rfl
  rw[this,z4A ks]
def zeZ(z:Key⊕List Key):zdB (nkD z)=some z:=by
 cases z with
 |inl k=>cases k<;>rfl
 |inr ks=>erw[nkD,zdB,z4A]
theorem z6c: ∀k:NK,z3C (k.map nkD)=some k
 |[]=>rfl
 |k::ks=>by erw[i7,z3C,zeZ,z6c ks]
def z51(k:NK):z1O (dkD k)=some k:=z6c k
theorem z7h: ∀k:List Key,RDs G ρ H (k.map z1M) (k.map kV)
 |[]=>by erw[t7,RDs]
 | .inl i::k=>by erw[i7,RDs];exact⟨_,_,rfl,by erw[z1M,RD];rfl,z7h k⟩
 | .inr i::k=>by erw[i7,RDs];exact⟨_,_,rfl,by erw[z1M,RD];rfl,z7h k⟩
theorem zav: ∀{k:NK} {xs:List V},bx (TKi H) k xs->RDs G ρ H (k.map nkD) xs
 |_,_, .nil=>by erw[t7,RDs]
 | .inl i::k,_, .cons a b=>by
  have e:=(show _=kV i from a)
  erw[i7,RDs]
  refine⟨_,_,rfl, ?_,zav b⟩
  rw[e]
  cases i<;>(erw[nkD,z1M,RD];rfl)
 | .inr ks::k,_, .cons a b=>by
  obtain⟨c,e,hc⟩:=a
  erw[i7,RDs]
  refine⟨_,_,rfl, ?_,zav b⟩
  erw[nkD,RD]
  exact⟨c,_,e,hc,z7h ks⟩
def zkg(h:TK H k b):RD G ρ H (dkD k) (.ref b):=by
 obtain⟨xs,h1,h2⟩:=h
 erw[dkD,RD]
 exact⟨b,xs,rfl,h1,zav h2⟩
def rdD:D->Option (List D×List D)
 | .dct _ ks vs=>if isT ks=true then some (ks,vs) else none
 | .fdc ks vs=>if isT ks=true then some (ks,vs) else none
 |_=>none
def RD.rdq(h:RD G ρ H t v)(e:rdD t=some (ks,vs)): ∃a kvs,v= .ref a/\Rd H a (.dT kvs)/\ks=kvs.map (λp:NK×V=>dkD p.1)/\RDs G ρ H vs (kvs.map (·.2))/\∀l∈qq vs,l∈labs t:=by
 cases t<;>erw[rdD] at e<;>try cases e
 .rename_i l ks' vs'
  by_cases hT:isT ks'=true
  .rw[qy hT] at e;cases e
   erw[RD] at h
   obtain⟨e,⟨kvs,s,s2,r⟩|⟨kvs,s,s2,r⟩⟩:=h
   .rw[s2] at hT;cases hT
   .exact⟨ρ l,kvs,e, .inl s,s2,r,λj hj=>by erw[labs];exact i5 _ (i4 _ hj)⟩
  .rw[qh hT] at e;cases e
 .rename_i ks' vs'
  by_cases hT:isT ks'=true
  .rw[qy hT] at e;cases e
   erw[RD] at h
   obtain⟨a,o,u,xs,e,s,⟨kvs,rfl,s2,rfl⟩|⟨kvs,rfl,s2,rfl⟩,r⟩:=h
   .rw[s2] at hT;cases hT
   .exact⟨a,kvs,e, .inr ⟨o,s⟩,s2,r,λj hj=>by erw[labs];exact hj⟩
  .rw[qh hT] at e;cases e
def RD.dctq{l:Nat}(h:RD G ρ H (.dct l ks vs) v)(hn:isT ks=true):v= .ref (ρ l)/\∃kvs:List (NK×V),H (ρ l)=some (.dT kvs)/\ks=kvs.map (λp=>dkD p.1)/\RDs G ρ H vs (kvs.map (·.2)):=by
 erw[RD] at h
 obtain⟨e,⟨kvs,s,s2,r⟩|h⟩:=h
 .rw[s2] at hn;cases hn
 .exact⟨e,h⟩
def findK:List D->List D->NK->Option D
 |d::ks,v::vs,k=>if z1O d=some k then some v else findK ks vs k
 |_,_,_=>none
theorem z1H: ∀(kvs:List (NK×V)) (vs:List D) (t:D),RDs G ρ H vs (kvs.map (·.2))->findK (kvs.map λp=>dkD p.1) vs k=some t->∃v,valV kvs k=some v/\RD G ρ H t v/\t∈vs
 |[],_,_,_,e=>by erw[t7,findK] at e;cases e
 |p::kvs,[],_,_,e=>by erw[i7,findK] at e;cases e
 |p::kvs,w::vs,t,h,e=>by
  erw[i7,RDs] at h
  obtain⟨x,r,e1,h1,h2⟩:=h
  cases e1
  erw[i7,findK,z51,Option.some.injEq] at e
  by_cases hk:p.1=k
  .rw[qy hk] at e;cases e
   exact⟨_,z3g hk,h1,l6 ..⟩
  .rw[qh hk] at e
   obtain⟨v,a,b,c⟩:=z1H kvs vs t h2 e
   exact⟨v,by rw[z2f hk];exact a,b,i5 _ c⟩
theorem z2E: ∀(kvs:List (NK×V)) (vs:List D),RDs G ρ H vs (kvs.map (·.2))->findK (kvs.map λp=>dkD p.1) vs k=none->valV kvs k=none
 |[],_,_,_=>rfl
 |p::kvs,[],h,_=>by erw[i7,RDs] at h;cases h
 |p::kvs,w::vs,h,e=>by
  erw[i7,RDs] at h
  obtain⟨x,r,e1,h1,h2⟩:=h
  cases e1
  erw[i7,findK,z51,Option.some.injEq] at e
  by_cases hk:p.1=k
  .rw[qy hk] at e;cases e
  .rw[qh hk] at e
   rw[z2f hk];exact z2E kvs vs h2 e
def z3D(ks:List D)(k:NK):List D:=if(ks.any λd=>decide (z1O d=some k))=true then ks else ks++[dkD k]
def z1P(ks vs:List D)(k:NK)(v:D):List D:=if(ks.any λd=>decide (z1O d=some k))=true then P8 (λd w=>if z1O d=some k then v else w) ks vs else vs++[v]
def zhK(kvs:List (NK×V)):((kvs.map λp=>dkD p.1).any λd=>decide (z1O d=some k))=kvs.any λkv=>decide (kv.1=k):=by
 rw[S7]
 congr 1
 funext p
 erw[Function.comp,z51,Option.some.injEq]
theorem z7i{k:NK}(h:RD G ρ H t v): ∀(kvs:List (NK×V)) (vs:List D),RDs G ρ H vs (kvs.map (·.2))->
 RDs G ρ H (P8 (λd w=>if z1O d=some k then t else w) (kvs.map λp=>dkD p.1) vs) ((kvs.map (λkv=>if kv.1=k then(kv.1,v) else kv)).map (·.2))
 |[],[],_=>by simp[RDs]
 |[],_::_,h=>by erw[t7,RDs] at h;obtain⟨_,_,e,_⟩:=h;cases e
 |p::kvs,[],h=>by erw[i7,RDs] at h;cases h
 |p::kvs,w::vs,h'=>by
  erw[i7,RDs] at h'
  obtain⟨x,r,e1,h1,h2⟩:=h'
  cases e1
  erw[i7,E6,RDs,z51,Option.some.injEq]
  by_cases hk:p.1=k
  .rw[qy hk,qy hk];exact⟨_,_,rfl,h,z7i h kvs vs h2⟩
  .rw[qh hk,qh hk];exact⟨_,_,rfl,h1,z7i h kvs vs h2⟩
def zdC{k:NK}{kvs:List (NK×V)}(h:RD G ρ H t v)(r:RDs G ρ H vs (kvs.map (·.2))):
 z3D (kvs.map λp=>dkD p.1) k=(z3f kvs k v).map (λp=>dkD p.1)/\RDs G ρ H (z1P (kvs.map λp=>dkD p.1) vs k t) ((z3f kvs k v).map (·.2)):=by
 delta z3D z1P z3f
 rw[zhK]
 cases e:kvs.any λkv=>decide (kv.1=k) with
 |true=>
  erw[if_true]
  refine⟨?_,z7i h kvs vs r⟩
  rw[B7]
  refine D2 λp _=> ?_
  erw[Function.comp]
  split<;>rfl
 |false=>
  erw[t8,if_false,t5,i7,t7]
  exact⟨trivial,r.append (RDs.one h)⟩
variable{X:Cx}{F:Fy}{a b e:bi}{ma mb:M D}{pos:bO}
def z08(o t:D):M D:=match rdD o with
 |some (ks,vs)=>match z1O t with
  |some k=>(match findK ks vs k with|some d=>rt d|none=>fl)
  |none=>fl
 |none=>fl
def zhL:zaj G F (λx y H Q=> ∃a v,x= .ref a/\DGet H a y (some v)/\Q v H) z08:=by
 intro ρ s t t' v u H σv tv Q M W
 obtain⟨h1,h2⟩:=M.rd2
 obtain⟨l1,l2⟩:=M.lb2
 delta z08 at W
 cases er:rdD t with
 |none=>rw[er] at W;exact False.elim W
 |some p=>
  obtain⟨ks,vs⟩:=p
  rw[er] at W
  dsimp only at W
  cases ek:z1O t' with
  |none=>rw[ek] at W;exact False.elim W
  |some k=>
   rw[ek] at W
   dsimp only at W
   obtain⟨a,kvs,rfl,hx,rfl,r,sub⟩:=h1.rdq er
   obtain⟨b,rfl,hb,_⟩:=z21 h2 ek
   cases ef:findK (kvs.map λp=>dkD p.1) vs k with
   |none=>rw[ef] at W;exact False.elim W
   |some d=>
    rw[ef] at W
    obtain⟨w,hv,hd,hm⟩:=z1H kvs vs d r ef
    exact⟨a,w,rfl, .inr ⟨kvs,k,b,hx,rfl,hb,hv.symm⟩,λ_=>W.out M.m hd λj hj=>l1 j (sub j (qk hm j hj))⟩
def z0c(t o:D):M D:=match rdD o with
 |some (ks,vs)=>match z1O t with
  |some k=>rt (.bool (!(findK ks vs k).isSome))
  |none=>fl
 |none=>fl
def zkh{kvs:List (NK×V)}(r:RDs G ρ H vs (kvs.map (·.2))):(findK (kvs.map λp=>dkD p.1) vs k).isSome=(valV kvs k).isSome:=by
 cases ef:findK (kvs.map λp=>dkD p.1) vs k with
 |none=>rw[z2E kvs vs r ef];rfl
 |some d=>obtain⟨w,hv,_⟩:=z1H kvs vs d r ef;rw[hv];rfl
def zf0:z3y G F (λy x H Q=> ∃a o,x= .ref a/\DGet H a y o/\Q (.bl (!o.isSome)) H) z0c:=by
 intro ρ s t t' v u H σv tv Q M W
 obtain⟨h1,h2⟩:=M.rd2
 delta z0c at W
 cases er:rdD t' with
 |none=>rw[er] at W;exact False.elim W
 |some p=>
  obtain⟨ks,vs⟩:=p
  rw[er] at W
  dsimp only at W
  cases ek:z1O t with
  |none=>rw[ek] at W;exact False.elim W
  |some k=>
   rw[ek] at W
   dsimp only at W
   obtain⟨a,kvs,rfl,hx,rfl,r,sub⟩:=h2.rdq er
   obtain⟨b,rfl,hb,_⟩:=z21 h1 ek
   refine⟨a,_,rfl, .inr ⟨kvs,k,b,hx,rfl,hb,rfl⟩, ?_⟩
   rw[<-zkh r]
   exact W.flat M.m rfl
def zf1(hu:X.A.units+64<cLine):OpR X (bI .NotIn) (λy x H Q=> ∃a o,x= .ref a/\DGet H a y o/\Q (.bl (!o.isSome)) H):=by
 intro qx s σ H y x iv u Q I ry rx h
 obtain⟨a,o,rfl,g,q⟩:=h
 obtain rfl:u=Value.ref a:=rx
 exact zes (show X.A.units+2<cLine by lia) I g ry λs3 I3=>⟨.bl (!o.isSome),H,I3,rfl,q⟩
def z2F(hu:X.A.units+64<cLine):Cm X G F .NotIn z0c:=⟨_,zf1 hu,zf0⟩
def z2G:M D:=λs=> .ok (.dct s.n [] []) s.nxt
def z00(o i v:D):MS:=λs=>match o with
 | .dct l ks vs=>match z1O i with
  |some k=>if isT ks=true/\ks.length<qg/\labs v=[]/\qq vs=[] then .nx (s.put l (.dct l (z3D ks k) (z1P ks vs k v))) else .no
  |none=> .no
 |_=> .no
def z7j(k:NK):labs (dkD k)=[]:=by
 have h: ∀k:NK,qq (k.map nkD)=[]:=λk=>by
  induction k with
  |nil=>rfl
  |cons z k ih=>erw[i7,qq,z7e,ih,l7]
 erw[dkD,labs,h]
theorem z3k: ∀kvs:List (NK×V),qq (kvs.map λp=>dkD p.1)=[]
 |[]=>rfl
 |p::kvs=>by
  have e:labs (dkD p.1)=[]:=z7j p.1
  erw[i7,qq,e,z3k kvs];rfl
theorem Q6: ∀{ds:List D},(∀d∈ds,labs d=[])->qq ds=[]
 |[],_=>rfl
 |d::ds,h=>by erw[qq,h d (l6 ..),Q6 λx hx=>h x (i5 _ hx)];rfl
def z31(h:qq ds=[]): ∀d∈ds,labs d=[]:=λd hd=>by
 cases e:labs d with
 |nil=>rfl
 |cons l r=>exact absurd (qk hd l (by rw[e];exact l6 ..)) (by rw[h];exact m8)
def z8c(hv:labs v=[])(h:qq vs=[]):qq (z1P ks vs k v)=[]:=by
 have h':=z31 h
 delta z1P
 split
 .refine Q6 λd hd=> ?_
  obtain⟨i,hi,e⟩:=N0 hd
  rw[O5] at e
  subst e
  split
  .exact hv
  .exact h' _ (A9 _)
 .refine Q6 λd hd=> ?_
  rcases l4.mp hd with q|q
  .exact h' d q
  .rw[m4.mp q];exact hv
def zf2{ρ:Nat->Addr}{s:Stt}{t1 t2 t3:D}{v o i:V}{H:Hp}{σv tv:List (Option V)}{Dd:Ends}(M:MRL G F.toFx ρ H σv tv s [t1,t2,t3] [v,o,i])(W:wS G F tv (z00 t2 t3 t1 s) Dd): ∃a H4,o= .ref a/\z9p H a i v H4/\Dd.nx σv H4:=by
 have h:=M.rd
 erw[RDs] at h
 obtain⟨_,_,e,h1,_,_,e2,h2,_,_,e3,h3,_⟩:=h
 cases e;cases e2;cases e3
 have b2:LB F.toFx ρ s.n (labs t2):=λl h=>M.lb l (by erw[qq];exact i4 _ (i8 _ h))
 delta z00 at W
 cases t2 with
 |dct l ks vs=>
  dsimp only at W
  cases ek:z1O t3 with
  |none=>rw[ek] at W;exact False.elim W
  |some k=>
   rw[ek] at W
   dsimp only at W
   by_cases hc:isT ks=true/\ks.length<qg/\labs t1=[]/\qq vs=[]
   .rw[qy hc] at W
    obtain⟨hT,hz,hv,hvs⟩:=hc
    obtain⟨rfl,kvs,hx,rfl,r⟩:=h2.dctq hT
    obtain⟨b,rfl,hb,_⟩:=z21 h3 ek
    have bl:=b2 l (by erw[labs];exact l6 ..)
    have st:V9 H (upd H (ρ l) (.dT (z3f kvs k v))):=
     ⟨λb ys q=>by rw[Z5 (z0Z q hx (by intro z;cases z))];exact q,λb o u q=>by rw[Z5 (z0Z q hx (by intro z;cases z))];exact q⟩
    have pr:=zdC (k:=k) h1 r
    refine⟨ρ l,_,rfl,z9p.t hx hb (by simpa using hz),W ρ σv _ (M.m.put2 bl.1 bl.2 st (z4z M.m.kd hx) ?_ λj hj=> ?_)⟩
    .erw[RD]
     refine⟨trivial, .inr ⟨z3f kvs k v,Z3,pr.1, ?_⟩⟩
     exact RDs.stay st _ _ pr.2 λj hj=>by rw[z8c hv hvs] at hj;cases hj
    .erw[labs,pr.1,z3k,z8c hv hvs,l7,m4] at hj
     rw[hj];exact bl
   .rw[qh hc] at W;exact False.elim W
 |_=>exact False.elim W
end
def zhM(i:Nat):Qq->Option (Option D)
 |some (.fdc ks _)::_=>some ks[i]?
 |_=>none
def zhN:Qq->Nat
 |some (.fdc ks _)::_=>ks.length
 |_=>0
def kDct:ItK:=⟨1,zhM,zhN⟩
def z01(m:M D):M ItK:=bd m λd s=>match d with
 | .dct l ks vs=>if isT ks=true/\qq vs=[] then .ok kDct ((s.put l (.fdc ks vs)).psh (.fdc ks vs)) else .no
 |_=> .no
def Fy.frz(F:Fy)(a:Addr)(o:HO)(ha:F.A0 a\/F.H0 a=none)(hz: ¬F.Z a):Fy where
 A0:=λx=>F.A0 x/\x≠a
 H0:=upd F.H0 a o
 Z:=F.Z
 zA:=λx z=>by
  have hn:x≠a:=λe=>hz (e▸z)
  obtain⟨⟨o',e⟩,n⟩:=F.zA x z
  exact⟨⟨o',by rw[Z5 hn];exact e⟩,λq=>n q.1⟩
 aH:=λx q=>by
  obtain⟨o',e⟩:=F.aH x q.1
  exact⟨o',by rw[Z5 q.2];exact e⟩
 n0:=F.n0
 ρ0:=F.ρ0
 tv0:=F.tv0
 xw:=F.xw
section
variable{G:Gx}{F:Fy}{ρ:Nat->Addr}{H:Hp}{σv tv:List (Option V)}{s:Stt}{a:Addr}{o:HO}{ha:F.A0 a\/F.H0 a=none}{hz: ¬F.Z a}
theorem z4B: ∀{os:Qq} {vs:List (Option V)},Sl G ρ H os vs->∀l∈Y0 os,∃o,H (ρ l)=some o/\(∀xs,o≠ .tup xs)/\∀u w,o≠ .frz u w
 |[],_,_,l,hl=>by erw[Y0] at hl;cases hl
 |none::os,_,h,l,hl=>by
  erw[Sl,Y0] at h hl
  obtain⟨_,_,_,h⟩:=h
  exact z4B h l hl
 |some d::os,_,h,l,hl=>by
  erw[Sl,Y0] at h hl
  obtain⟨v,_,_,h1,h2⟩:=h
  rcases l4.mp hl with q|q
  .exact zar d v h1 l q
  .exact z4B h2 l q
def MR.frzIn(M:MR G F.toFx ρ H σv tv s)(h:H a=some o)(hm: ∃u w,o= .frz u w):MR G (F.frz a o ha hz).toFx ρ H σv tv s:=by
 have ne: ∀l∈V7 s,ρ l≠a:=λl hl e=>by
  obtain⟨u,w,rfl⟩:=hm
  have: ∃o,H (ρ l)=some o/\(∀xs,o≠ .tup xs)/\∀u w,o≠ .frz u w:=by
   rcases l4.mp hl with q|q
   .exact z4B M.sl l q
   .exact z4B M.tm l q
  obtain⟨o',e1,_,e3⟩:=this
  rw[e,h] at e1
  cases e1
  exact e3 _ _ rfl
 refine⟨M.sl,M.tm,M.inj,M.dom,M.lab,λl hl=> ?_,λx o' e=> ?_,M.kd,M.frb,M.bas⟩
 .rcases M.own l hl with q|q
  .exact .inl ⟨q,ne l hl⟩
  .exact .inr (by show upd F.H0 a o (ρ l)=none;rw[Z5 (ne l hl)];exact q)
 .have e:upd F.H0 a o x=some o':=e
  by_cases hx:x=a
  .subst hx
   rw[Z3] at e
   cases e
   exact⟨⟨o,h⟩,λ_=>h⟩
  .rw[Z5 hx] at e
   obtain⟨q1,q2⟩:=M.frm x o' e
   exact⟨q1,λn=>q2 λz=>n ⟨z,hx⟩⟩
def MR.frzOut(M:MR G (F.frz a o ha hz).toFx ρ H σv tv s):MR G F.toFx ρ H σv tv s:=by
 refine⟨M.sl,M.tm,M.inj,M.dom,M.lab,λl hl=> ?_,λx o' e=> ?_,M.kd,M.frb,M.bas⟩
 .rcases M.own l hl with q|q
  .exact .inl q.1
  .have q:upd F.H0 a o (ρ l)=none:=q
   by_cases hx:ρ l=a
   .rw[hx,Z3] at q;cases q
   .rw[Z5 hx] at q;exact .inr q
 .by_cases hx:x=a
  .subst hx
   have q:=(M.frm x o Z3).1
   refine⟨q,λn=> ?_⟩
   rcases ha with z|z
   .exact absurd z n
   .rw[z] at e;cases e
  .obtain⟨q1,q2⟩:=M.frm x o' (by show upd F.H0 a o x=some o';rw[Z5 hx];exact e)
   exact⟨q1,λn=>q2 λz=>n z.1⟩
def MRL.frzOut(M:MRL G (F.frz a o ha hz).toFx ρ H σv tv s ts vs):MRL G F.toFx ρ H σv tv s ts vs:=by
 refine⟨M.m.frzOut,M.rd,λl hl=> ?_⟩
 obtain⟨q1,q⟩:=M.lb l hl
 refine⟨q1, ?_⟩
 rcases q with q|q
 .exact .inl q.1
 .have q:upd F.H0 a o (ρ l)=none:=q
  by_cases hx:ρ l=a
  .rw[hx,Z3] at q;cases q
  .rw[Z5 hx] at q;exact .inr q
def MR.frzAt(M:MR G (F.frz a o ha hz).toFx ρ H σv tv s):H a=some o:=(M.frm a o Z3).2 λz=>z.2 rfl
def MR.frzAt'{hf:(F.frz a o ha hz).H0 A1=none}(M:MR G ((F.frz a o ha hz).prot A1 ys hf).toFx ρ H σv tv s):H a=some o:=by
 have hne:a≠A1:=λe=>by
  have:upd F.H0 a o A1=none:=hf
  rw[e,Z3] at this;cases this
 exact(M.frm a o (by show upd (upd F.H0 a o) A1 (.lst ys) a=some o;rw[Z5 hne,Z3])).2 λz=>z.2 rfl
def zaw{tvp:List (Option V)}(M:MR G F' ρ H σv (tvp++([some (.ref a)]++tv)) s)(h:H a=some (.frz u (.dT kvs)))(i:Nat):match kDct.at' i (s.tm.drop tvp.length) with
 |none=>True
 |some none=>(ItD a u kvs).stop i H
 |some (some d)=>(ItD a u kvs).go i H/\∀x H',(ItD a u kvs).yld i H x H'->MRL G F' ρ H' σv (tvp++([some (.ref a)]++tv)) s [d] [x]:=by
 dsimp only[kDct]
 cases e:s.tm.drop tvp.length with
 |nil=>trivial
 |cons c0 r=>
  cases c0 with
  |none=>trivial
  |some c=>
   obtain⟨hc,lb⟩:=MR.head (s:=s.popn tvp.length) M.popn e
   cases c with
   |fdc ks vs=>
    erw[zhM]
    erw[RD] at hc
    obtain⟨a',u',w',xs',ea,hx,fz,_⟩:=hc
    cases ea
    rw[h] at hx
    cases hx
    obtain⟨kvs',e0,hk,hxs⟩|⟨kvs',e0,hk,hxs⟩:=fz
    .cases e0
    cases e0
    subst hk hxs
    cases e2:(kvs.map λp=>dkD p.1)[i]? with
    |none=>
     refine⟨?_,h⟩
     have:=List.getElem?_eq_none_iff.mp e2
     simpa using this
    |some d=>
     rw[List.getElem?_map] at e2
     cases e3:kvs[i]? with
     |none=>rw[e3] at e2;cases e2
     |some p=>
      rw[e3] at e2
      cases e2
      refine⟨⟨(List.getElem?_eq_some_iff.mp e3).1,h⟩, ?_⟩
      rintro x H' ⟨rfl,b,k,v,rfl,hk,hb⟩
      rw[hk] at e3
      cases e3
      refine⟨M,RDs.one ?_,λl hl=> ?_⟩
      .exact zkg hb
      .have e:qq [dkD k]=[]:=by erw[qq,l7];exact z7j k
       rw[e] at hl;cases hl
   |_=>trivial
variable{X:Cx}{tg iter elt:bi}{pos:bO}
def zax{K:W.Frag}{k:Nat}{ix:List Nat}{m0:M D}{g:Tg}{mt:M Bool}{me:M D}{σ:L2.St}{H:Hp}{Q:VK}(hk:K=G.K)(h:tM G F (V4 (z01 m0) g mt me k ix) σ H Q):z81 K (zh3 (tM G F m0)) (tGx G g) (tBx G mt) (tMx G me) k ix σ H Q:=by
 obtain⟨tv,hsf,ρ,s,M,W⟩:=h
 refine⟨tv,hsf,ρ,s,M, ?_⟩
 unfold V4 z01 bd at W
 cases em:m0 s with
 |ex d s1=>rw[em] at W;exact W
 |no=>rw[em] at W;exact W
 |ok t s0=>
  rw[em] at W
  dsimp only at W
  intro ρ1 v H1 M0
  cases t with
  |dct l ks vs=>
   dsimp only at W
   by_cases hc:isT ks=true/\qq vs=[]
   .rw[qy hc] at W
    dsimp only at W
    obtain⟨hT,hvs⟩:=hc
    have rd0:=M0.rd1
    obtain⟨rfl,kvs,hx,hks,r⟩:=rd0.dctq hT
    have bl:=M0.lb1 l (by erw[labs];exact l6 ..)
    refine⟨ρ1 l,kvs,rfl,hx,λu A1 hA1 kd=> ?_⟩
    have st:V9 H1 (upd H1 (ρ1 l) (.frz u (.dT kvs))):=
     ⟨λb ys q=>by rw[Z5 (z0Z q hx (by intro z;cases z))];exact q,λb o w q=>by rw[Z5 (z0Z q hx (by intro z;cases z))];exact q⟩
    have rdF:RD G ρ1 (upd H1 (ρ1 l) (.frz u (.dT kvs))) (.fdc ks vs) (.ref (ρ1 l)):=by
     erw[RD]
     exact⟨ρ1 l,u,_,_,rfl,Z3, .inr ⟨kvs,rfl,hks,rfl⟩,RDs.stay st _ _ r λj hj=>by rw[hvs] at hj;cases hj⟩
    have lbF: ∀j∈labs (.fdc ks vs),j<s0.n/\(F.A0 (ρ1 j)\/F.H0 (ρ1 j)=none):=λj hj=>by erw[labs,hvs] at hj;cases hj
    have M2:MR G F.toFx ρ1 (upd H1 (ρ1 l) (.frz u (.dT kvs))) σ tv (s0.put l (.fdc ks vs)):=M0.m.put2 bl.1 bl.2 st (z4z M0.m.kd hx) rdF lbF
    have M3:MR G F.toFx ρ1 (upd H1 (ρ1 l) (.frz u (.dT kvs))) σ (some (.ref (ρ1 l))::tv) ((s0.put l (.fdc ks vs)).psh (.fdc ks vs)):=
     MRL.push ⟨M2,RDs.one rdF,λj hj=>by erw[qq,l7] at hj;exact lbF j hj⟩
    have M1:MR G (F.frz (ρ1 l) (.frz u (.dT kvs)) bl.2 (M0.m.frb l bl.1)).toFx ρ1 (upd H1 (ρ1 l) (.frz u (.dT kvs))) σ ([some (.ref (ρ1 l))]++tv) ((s0.put l (.fdc ks vs)).psh (.fdc ks vs)):=M3.frzIn Z3 ⟨_,_,rfl⟩
    generalize hs1:(s0.put l (.fdc ks vs)).psh (.fdc ks vs)=s1 at M1 W
    generalize hF1:F.frz (ρ1 l) (.frz u (.dT kvs)) bl.2 (M0.m.frb l bl.1)=F1 at M1
    have out: ∀{ρ H s ts vs},MRL G F1.toFx ρ H σ tv s ts vs->MRL G F.toFx ρ H σ tv s ts vs:=by subst hF1;exact λh=>h.frzOut
    subst hk
    have kd:KD G.K (upd (upd H1 (ρ1 l) (.frz u (.dT kvs))) A1 (.lst [])):=kd
    have hf:=M1.fresh0 hA1
    refine⟨λi m ys σ' H'=> ∃ρ s,MR G (F1.prot A1 ys hf).toFx ρ H' σ' ((ys.reverse.map some)++(σ++([some (.ref (ρ1 l))]++tv))) s/\wM G F σ tv (z1t kDct g mt me s1.σ.length m i ys.length s) Q,⟨_,ρ1,_,M1.enter hA1 kd k ix,W⟩, ?_⟩
    rintro i m ys σ' H' ⟨ρ2,s2,M2',W2⟩
    have hD:=(MR.turnD (ys':=ys) M2').1
    refine⟨hD, ?_⟩
    have ol:s1.σ.length=σ.length:=M1.sl.length
    have hfz:H' (ρ1 l)=some (.frz u (.dT kvs)):=by subst hF1;exact MR.frzAt' M2'
    have ok:=zaw (tvp:=(ys.reverse.map some)++σ) (a:=ρ1 l) (tv:=tv) (by rw[A3];exact M2') hfz i
    simp only[m5,l0,M8,<-ol,A3] at ok
    unfold z1t at W2
    cases e:kDct.at' i (s2.tm.drop (ys.length+s1.σ.length)) with
    |none=>erw[e] at W2;exact False.elim W2
    |some o=>
     rw[e] at ok
     cases o with
     |none=>
      erw[e] at W2 ok
      refine .inl ⟨ok, ?_⟩
      cases ea:Q5 (s2.tm.take ys.length).reverse with
      |none=>erw[ea] at W2;exact False.elim W2
      |some ds=>
       erw[ea] at W2
       exact W2 _ _ _ (out (MR.leave M2' (kk:=kDct.k) rfl _ ol.symm ea))
     |some d=>
      erw[e] at W2 ok
      cases m with
      |zero=>exact False.elim W2
      |succ f=>
       dsimp only at W2
       cases e2:asg g d s2.σ with
       |none=>erw[e2] at W2;exact False.elim W2
       |some σ3=>
        erw[e2] at W2
        refine .inr ⟨ok.1,λx H2 y=> ?_⟩
        have hx:=ok.2 x H2 y
        refine⟨F1.prot A1 ys hf,_,ρ2,s2,d,hx,σ3,e2,λ σv' M3=>⟨F1.prot A1 ys hf,_,O9,ρ2,_,M3, ?_⟩⟩
        cases e3:mt {s2 with σ:=σ3} with
        |ex d s4=>erw[e3] at W2;exact False.elim W2
        |no=>erw[e3] at W2;exact False.elim W2
        |ok b s4=>
         intro ρ4 H4 M4
         cases b with
         |false=>
          erw[e3] at W2
          rw[qh C6]
          exact⟨f,B2 _,ρ4,s4,M4,W2⟩
         |true=>
          erw[e3] at W2
          rw[qy rfl]
          by_cases hz:ys.length<qg
          .rw[qy hz] at W2
           refine⟨F1.prot A1 ys hf,_,O9,ρ4,s4,M4, ?_⟩
           cases e5:me s4 with
           |ex d s5=>erw[e5] at W2;exact False.elim W2
           |no=>erw[e5] at W2;exact False.elim W2
           |ok y s5=>
            erw[e5] at W2
            intro ρ5 v H5 M5
            obtain⟨hD5,M6⟩:=MR.turnD (ys':=ys++[v]) M5.push
            refine⟨hD5,hz,f,B2 _,ρ5,s5.psh y, ?_, ?_⟩
            .rw[P4,C3,O0,B0,t5]
             exact M6
            .rw[m5];exact W2
          .rw[qh hz] at W2;exact False.elim W2
   .rw[qh hc] at W;exact False.elim W
  |_=>exact False.elim W
variable{kx vx:bi}
def dp1(d k v:D):M D:=λs=>match d with
 | .dct l [] []=>match z1O k with
  |some ks=>if labs v=[] then .ok (.dct l [dkD ks] [v]) (s.put l (.dct l [dkD ks] [v])) else .no
  |none=> .no
 |_=> .no
def K6(mk mv:M D):M D:=λs=>match mk (s.nxt.psh (.dct s.n [] [])) with
 | .ok k s2=>(match mv (s2.psh k) with
  | .ok v s3=>(match s3.tm with
   |some k'::some d'::r=>dp1 d' k' v {s3 with tm:=r}
   |_=> .no)
  | .ex d s'=> .ex d s'
  | .no=> .no)
 | .ex d s'=> .ex d s'
 | .no=> .no
def zcp{mk mv:M D}{σ:L2.St}{H:Hp}{Q:VK}(h:tM G F (K6 mk mv) σ H Q):za9 G.K (tM G F mk) (tM G F mv) σ H (λv H'=>KD G.K H'->Q v H'):=by
 obtain⟨tv,hs,ρ,s,M,W⟩:=h
 intro p hp kd
 have rd:RD G (ext ρ s.n p) (upd H p (.dT [])) (.dct s.n [] []) (.ref p):=by
  erw[RD]
  rw[g9]
  exact⟨rfl, .inr ⟨[],Z3,rfl,by simp[RDs]⟩⟩
 have M1:MR G F.toFx (ext ρ s.n p) (upd H p (.dT [])) σ (some (.ref p)::tv) (s.nxt.psh (.dct s.n [] [])):=MRL.push ⟨M.new hp kd,RDs.one rd,λl hl=>by
  erw[labs,qq,l7,m4] at hl
  rw[hl]
  exact⟨B2 _,by rw[g9];exact .inr (M.fresh0 hp)⟩⟩
 unfold K6 at W
 show tM G F mk σ _ λx H1=>tM G F mv σ H1 λy H2=>_
 refine⟨some (.ref p)::tv,z82 hs,_,_,M1, ?_⟩
 cases e1:mk (s.nxt.psh (.dct s.n [] [])) with
 |ex d s'=>rw[e1] at W;exact W
 |no=>rw[e1] at W;exact W
 |ok k s2=>
  rw[e1] at W
  dsimp only at W
  intro ρ2 x H2 M2
  refine⟨some x::some (.ref p)::tv,z82 (z82 hs),ρ2,s2.psh k,M2.push, ?_⟩
  cases e2:mv (s2.psh k) with
  |ex d s'=>rw[e2] at W;exact W
  |no=>rw[e2] at W;exact W
  |ok v s3=>
   rw[e2] at W
   dsimp only at W
   intro ρ3 y H3 M3
   cases e3:s3.tm with
   |nil=>erw[e3] at W;exact False.elim W
   |cons o3 r3=>
    cases o3 with
    |none=>erw[e3] at W;exact False.elim W
    |some x3=>
     erw[e3] at W
     cases r3 with
     |nil=>exact False.elim W
     |cons o4 r4=>
      cases o4 with
      |none=>exact False.elim W
      |some x4=>
       dsimp only at W
       have M4:=M3.down e3
       have M5:=M4.down (s':={s3 with tm:=some x4::r4}) rfl
       show ∃b y' ks,_
       have h:=M5.rd
       erw[RDs] at h
       obtain⟨_,_,ee,h1,_,_,ee2,h2,_,_,ee3,h3,_⟩:=h
       cases ee;cases ee2;cases ee3
       unfold dp1 at W
       cases x4 with
       |dct l ks vs=>
        cases ks with
        |cons _ _=>exact False.elim W
        |nil=>
         cases vs with
         |cons _ _=>exact False.elim W
         |nil=>
          dsimp only at W
          cases ek:z1O x3 with
          |none=>rw[ek] at W;exact False.elim W
          |some kk=>
           rw[ek] at W
           dsimp only at W
           by_cases hv:labs v=[]
           .rw[qy hv] at W
            obtain⟨ep,kvs,hx,hks,r⟩:=h1.dctq rfl
            have e0:kvs=[]:=by cases kvs with|nil=>rfl|cons _ _=>simp at hks
            subst e0
            obtain⟨b,rfl,hb,_⟩:=z21 h2 ek
            have ep:p=ρ3 l:=by cases ep;rfl
            subst ep
            refine⟨b,_,kk,rfl,hx,hb,λkd'=> ?_⟩
            have bl:l<s3.n/\(F.A0 (ρ3 l)\/F.H0 (ρ3 l)=none):=M5.lb l (by erw[qq,labs];exact i8 _ (l6 ..))
            have st:V9 H3 (upd H3 (ρ3 l) (.dT [(kk,y)])):=
             ⟨λb ys q=>by rw[Z5 (z0Z q hx (by intro z;cases z))];exact q,λb o u q=>by rw[Z5 (z0Z q hx (by intro z;cases z))];exact q⟩
            have rd2:RD G ρ3 (upd H3 (ρ3 l) (.dT [(kk,y)])) (.dct l [dkD kk] [v]) (.ref (ρ3 l)):=by
             erw[RD]
             refine⟨trivial, .inr ⟨[(kk,y)],Z3,rfl, ?_⟩⟩
             refine RDs.stay st _ _ (RDs.one h3) λj hj=> ?_
             erw[qq,hv,l7] at hj;cases hj
            have lb2: ∀j∈labs (.dct l [dkD kk] [v]),j<s3.n/\(F.A0 (ρ3 j)\/F.H0 (ρ3 j)=none):=λj hj=>by
             have e:labs (dkD kk)=[]:=z7j kk
             erw[labs,qq,e,hv,l7,m4] at hj
             rw[hj];exact bl
            exact W.out (M5.m.put2 bl.1 bl.2 st kd' rd2 lb2) rd2 lb2
           .rw[qh hv] at W;exact False.elim W
       |_=>exact False.elim W
def z6d(k:Key):z0x (z1M k)=some k:=by cases k<;>rfl
theorem RDs.at': ∀{ds:List D} {xs:List V} {i:Nat} {d:D},RDs G ρ H ds xs->ds[i]? =some d->∃x,xs[i]? =some x/\RD G ρ H d x
 |[],xs,i,d,h,e=>by simp at e
 |d::ds,xs,0,d',h,e=>by erw[RDs] at h;obtain⟨x,q,rfl,h1,_⟩:=h;simp at e;subst e;exact⟨x,rfl,h1⟩
 |d::ds,xs,i+1,d',h,e=>by
  erw[RDs] at h
  obtain⟨x,q,rfl,h1,h2⟩:=h
  erw[List.getElem?_cons_succ] at e⊢
  exact RDs.at' h2 e
theorem RDs.perm{ds:List D}{xs:List V}(h:RDs G ρ H ds xs): ∀q:List Nat,(∀i∈q,i<ds.length)->RDs G ρ H (q.map λi=>ds.getD i .non) (q.map λi=>xs.getD i .non)
 |[],_=>by erw[t7,RDs]
 |i::q,hq=>by
  erw[i7,RDs]
  refine⟨_,_,rfl, ?_,RDs.perm h q λj hj=>hq j (i5 _ hj)⟩
  have hi:=hq i l6
  obtain⟨x,ex,rx⟩:=RDs.at' (i:=i) (d:=ds.getD i .non) h (by simp[hi])
  rw[show xs.getD i .non=x by rw[List.getD_eq_getElem?_getD,ex];rfl]
  exact rx
theorem z6e{ds:List D}(h:qq ds=[]): ∀q:List Nat,qq (q.map λi=>ds.getD i .non)=[]
 |[]=>by erw[t7,qq]
 |i::q=>by
  erw[i7,qq]
  rw[z6e h q,l7]
  have gen: ∀(ds:List D) (i:Nat),qq ds=[]->labs (ds.getD i .non)=[]:=by
   intro ds
   induction ds with
   |nil=>intro i _;simp[labs]
   |cons d ds ih=>
    intro i h
    erw[qq,N7] at h
    cases i with
    |zero=>simpa using h.1
    |succ i=>simpa using ih i h.2
  exact gen ds i h
variable{e:bi}{pos':bO}
def zhO(i:Nat)(a:Int):D->MS
 | .int b=>λs=> .nx {s with σ:=s.σ.set i (some (.int (a+b)))}
 |_=>λ_=> .no
def z94(i:Nat)(m:M D):MS:=λs=>match s.σ[i]? with
 |some (some (.int a))=>z1o m (zhO i a) s
 |_=> .no
def z1S:List D->Option (List Int)
 |[]=>some []
 | .int i::ds=>match z1S ds with|some ns=>some (i::ns)|none=>none
 |_=>none
def RD.dctp{l:Nat}(h:RD G ρ H (.dct l (.non::ks) vs) v):v= .ref (ρ l)/\∃kvs:List (Key×V),H (ρ l)=some (.dK kvs)/\ks=kvs.map (λp=>z1M p.1)/\RDs G ρ H vs (kvs.map (·.2)):=by
 erw[RD] at h
 obtain⟨e,⟨kvs,s,s2,r⟩|⟨kvs,s,s2,r⟩⟩:=h
 .injection s2 with _ s2
  exact⟨e,kvs,s,s2,r⟩
 .cases kvs with
  |nil=>cases s2
  |cons p kvs=>erw[i7,dkD] at s2;injection s2 with s2 _;cases s2
def zay(ks:List D)(k:Key):List D:=if(ks.any λd=>decide (z0x d=some k))=true then ks else ks++[z1M k]
def z7k(ks vs:List D)(k:Key)(v:D):List D:=if(ks.any λd=>decide (z0x d=some k))=true then P8 (λd w=>if z0x d=some k then v else w) ks vs else vs++[v]
def zhP(kvs:List (Key×V)):((kvs.map λp=>z1M p.1).any λd=>decide (z0x d=some k))=kvs.any λkv=>decide (kv.1=k):=by
 rw[S7]
 congr 1
 funext p
 erw[Function.comp,z6d,Option.some.injEq]
theorem z52{k:Key}(h:RD G ρ H t v): ∀(kvs:List (Key×V)) (vs:List D),RDs G ρ H vs (kvs.map (·.2))->
 RDs G ρ H (P8 (λd w=>if z0x d=some k then t else w) (kvs.map λp=>z1M p.1) vs) ((kvs.map (λkv=>if kv.1=k then(kv.1,v) else kv)).map (·.2))
 |[],[],_=>by simp[RDs]
 |[],_::_,h=>by erw[t7,RDs] at h;obtain⟨_,_,e,_⟩:=h;cases e
 |p::kvs,[],h=>by erw[i7,RDs] at h;cases h
 |p::kvs,w::vs,h'=>by
  erw[i7,RDs] at h'
  obtain⟨x,r,e1,h1,h2⟩:=h'
  cases e1
  erw[i7,E6,RDs,z6d,Option.some.injEq]
  by_cases hk:p.1=k
  .rw[qy hk,qy hk];exact⟨_,_,rfl,h,z52 h kvs vs h2⟩
  .rw[qh hk,qh hk];exact⟨_,_,rfl,h1,z52 h kvs vs h2⟩
def zf3{k:Key}{kvs:List (Key×V)}(h:RD G ρ H t v)(r:RDs G ρ H vs (kvs.map (·.2))):
 zay (kvs.map λp=>z1M p.1) k=(z3f kvs k v).map (λp=>z1M p.1)/\RDs G ρ H (z7k (kvs.map λp=>z1M p.1) vs k t) ((z3f kvs k v).map (·.2)):=by
 delta zay z7k z3f
 rw[zhP]
 cases e:kvs.any λkv=>decide (kv.1=k) with
 |true=>
  erw[if_true]
  refine⟨?_,z52 h kvs vs r⟩
  rw[B7]
  refine D2 λp _=> ?_
  erw[Function.comp]
  split<;>rfl
 |false=>
  erw[t8,if_false,t5,i7,t7]
  exact⟨trivial,r.append (RDs.one h)⟩
theorem z6f: ∀kvs:List (Key×V),qq (kvs.map λp=>z1M p.1)=[]
 |[]=>rfl
 |p::kvs=>by
  have e:labs (z1M p.1)=[]:=by cases p.1<;>rfl
  erw[i7,qq,e,z6f kvs];rfl
def z6g(hv:labs v=[])(h:qq vs=[]):qq (z7k ks vs k v)=[]:=by
 have h':=z31 h
 delta z7k
 split
 .refine Q6 λd hd=> ?_
  obtain⟨i,hi,e⟩:=N0 hd
  rw[O5] at e
  subst e
  split
  .exact hv
  .exact h' _ (A9 _)
 .refine Q6 λd hd=> ?_
  rcases l4.mp hd with q|q
  .exact h' d q
  .rw[m4.mp q];exact hv
end
section
variable{X:Cx}{G:Gx}{F:Fy}{e o a b:bi}{pos apos cpos:bO}{mo mi mx:M D}
def zcq:M D:=λs=> .ok (.dct s.n [.non] []) s.nxt
def z6h(o i v:D):MS:=λs=>match o with
 | .dct l (.non::ks) vs=>match z0x i with
  |some k=>if ks.length<qg/\labs v=[]/\qq vs=[] then .nx (s.put l (.dct l (.non::zay ks k) (z7k ks vs k v))) else .no
  |none=> .no
 |_=> .no
def zcr{ρ:Nat->Addr}{s:Stt}{t1 t2 t3:D}{v o i:V}{H:Hp}{σv tv:List (Option V)}{Dd:Ends}(M:MRL G F.toFx ρ H σv tv s [t1,t2,t3] [v,o,i])(W:wS G F tv (z6h t2 t3 t1 s) Dd): ∃a H4,o= .ref a/\z9p H a i v H4/\Dd.nx σv H4:=by
 have h:=M.rd
 erw[RDs] at h
 obtain⟨_,_,e,h1,_,_,e2,h2,_,_,e3,h3,_⟩:=h
 cases e;cases e2;cases e3
 have b2:LB F.toFx ρ s.n (labs t2):=λl h=>M.lb l (by erw[qq];exact i4 _ (i8 _ h))
 delta z6h at W
 split at W
 .rename_i l ks vs
  cases ek:z0x t3 with
  |none=>rw[ek] at W;exact False.elim W
  |some k=>
   rw[ek] at W
   dsimp only at W
   by_cases hc:ks.length<qg/\labs t1=[]/\qq vs=[]
   .rw[qy hc] at W
    obtain⟨hz,hv,hvs⟩:=hc
    obtain⟨rfl,kvs,hx,rfl,r⟩:=h2.dctp
    obtain⟨rfl,_⟩:=z50 h3 ek
    have bl:=b2 l (by erw[labs];exact l6 ..)
    have st:V9 H (upd H (ρ l) (.dK (z3f kvs k v))):=
     ⟨λb ys q=>by rw[Z5 (z0Z q hx (by intro z;cases z))];exact q,λb o u q=>by rw[Z5 (z0Z q hx (by intro z;cases z))];exact q⟩
    have pr:=zf3 (k:=k) h1 r
    refine⟨ρ l,_,rfl,z9p.k hx (by simpa using hz),W ρ σv _ (M.m.put2 bl.1 bl.2 st (z4z M.m.kd hx) ?_ λj hj=> ?_)⟩
    .erw[RD]
     refine⟨trivial, .inl ⟨z3f kvs k v,Z3,by rw[pr.1], ?_⟩⟩
     exact RDs.stay st _ _ pr.2 λj hj=>by rw[z6g hv hvs] at hj;cases hj
    .erw[labs,qq,pr.1,z6f,z6g hv hvs,l7,m4] at hj
     rw[hj];exact bl
   .rw[qh hc] at W;exact False.elim W
 .exact False.elim W
variable{tg:bi}
def zjv(o:D):M Unit:=λs=>match o with
 | .dct l ks vs=>if isT ks=true then .ok () (s.psh (.dct l ks vs)) else .no
 |_=> .no
def zhQ(o i x:D):M D:=match o with
 | .dct _ ks vs=>if isT ks=true then(match z1O i with
  |some k=>rt ((findK ks vs k).getD x)
  |none=>fl) else fl
 |_=>fl
def z53(mo mi mx:M D):M D:=bd mo λo=>bd (zjv o) λ_=>bd mi λi=>bd (psh i) λ_=>bd mx λx=>bd pop λi'=>bd pop λo'=>zhQ o' i' x
def zcs(h:tM G F (z53 mo mi mx) σ H Q):zdm (tM G F mo) (tM G F mi) (tM G F mx) σ H (λv H'=>KD G.K H'->Q v H'):=by
 obtain⟨tv,hs,ρ,s,M,W⟩:=h
 refine⟨tv,hs,ρ,s,M, ?_⟩
 delta z53 at W
 erw[bd] at W
 cases e0:mo s with
 |ex d s1=>erw[e0] at W;exact W
 |no=>erw[e0] at W;exact W
 |ok o s1=>
  erw[e0] at W
  intro ρ1 v H1 M1
  cases o with
  |dct l ks vs=>
   by_cases hT:isT ks=true
   .erw[zjv,qy hT] at W
    have h1:=M1.rd1
    obtain⟨rfl,kvs,hx,rfl,r⟩:=h1.dctq hT
    refine⟨ρ1 l,rfl, .inr ⟨kvs, .inl hx⟩, ?_⟩
    refine⟨some (.ref (ρ1 l))::tv,z82 hs,ρ1,_,M1.push, ?_⟩
    cases e2:mi (s1.psh (.dct l (kvs.map λp=>dkD p.1) vs)) with
    |ex d s3=>erw[e2] at W;exact W
    |no=>erw[e2] at W;exact W
    |ok i s2=>
     erw[e2,psh] at W
     intro ρ2 y H2 M2
     refine⟨some y::some (.ref (ρ1 l))::tv,z82 (z82 hs),ρ2,s2.psh i,M2.push, ?_⟩
     cases e3:mx (s2.psh i) with
     |ex d s4=>erw[e3] at W;exact W
     |no=>erw[e3] at W;exact W
     |ok x s3=>
      erw[e3,pop] at W
      intro ρ3 z H3 M3
      cases e4:s3.tm with
      |nil=>erw[e4] at W;exact False.elim W
      |cons o3 r3=>
       cases o3 with
       |none=>erw[e4] at W;exact False.elim W
       |some x3=>
        erw[e4] at W
        cases r3 with
        |nil=>exact False.elim W
        |cons o4 r4=>
         cases o4 with
         |none=>exact False.elim W
         |some x4=>
          have M4:=M3.down e4
          have M5:=M4.down (s':={s3 with tm:=some x4::r4}) rfl
          have h:=M5.rd
          erw[RDs] at h
          obtain⟨_,_,e,g1,_,_,e2,g2,_,_,e3,g3,_⟩:=h
          cases e;cases e2;cases e3
          have b1:LB F.toFx ρ3 s3.n (labs x4):=λl h=>M5.lb l (by erw[qq];exact i8 _ h)
          have b3:LB F.toFx ρ3 s3.n (labs x):=λl h=>M5.lb l (by erw[qq,l7];exact i4 _ (i4 _ h))
          cases x4 with
          |dct l' ks' vs'=>
           by_cases hT':isT ks'=true
           .cases ek:z1O x3 with
            |none=>erw[zhQ,qy hT',ek] at W;exact False.elim W
            |some k=>
             erw[zhQ,qy hT',ek] at W
             obtain⟨el,kvs',hx',rfl,r'⟩:=g1.dctq hT'
             injection el with el
             obtain⟨b,rfl,hb,_⟩:=z21 g2 ek
             refine⟨valV kvs' k, .inr ⟨kvs',k,b, .inl (by rw[el];exact hx'),rfl,hb,rfl⟩,λ_=> ?_⟩
             cases ef:findK (kvs'.map λp=>dkD p.1) vs' k with
             |none=>
              rw[ef] at W
              rw[z2E kvs' vs' r' ef]
              exact wM.out (s:={s3 with tm:=r4}) W M5.m g3 b3
             |some d=>
              rw[ef] at W
              obtain⟨w,hv,hd,hm⟩:=z1H kvs' vs' d r' ef
              rw[hv]
              exact wM.out (s:={s3 with tm:=r4}) W M5.m hd λj hj=>b1 j (by erw[labs];exact i5 _ (i4 _ (qk hm j hj)))
           .erw[zhQ,qh hT'] at W;exact False.elim W
          |_=>exact False.elim W
   .erw[zjv,qh hT] at W;exact False.elim W
  |_=>exact False.elim W
def z7l(ds:List D):List D:=(So.permS ds.length (z6T (erL ds))).map λi=>ds.getD i .non
end
def zct ds:erL ds=ds.map er:=by
 induction ds with
 |nil=>rfl
 |cons d ds ih=>erw[erL,i7,ih]
end Mi
namespace So
open PySem PySem.W PyProof.Rows
variable{n:Nat}{cmp:Nat->Nat->Bool}
end So
namespace Mi
open PySem L2
def ltE(a b:D):Bool:=(So.ltD (er a) (er b)).getD false
structure Lin(ds:List D):Prop where
 a: ∀x∈ds,∀y∈ds,ltE x y=true->ltE y x=false
 t: ∀x∈ds,∀y∈ds,∀z∈ds,ltE x y=false->ltE y z=false->ltE x z=false
 e: ∀x∈ds,∀y∈ds,ltE x y=false->ltE y x=false->x=y
def zgi{ds:List D}{i j:Nat}(hi:i<ds.length)(hj:j<ds.length):z6T (erL ds) i j=ltE ds[i] ds[j]:=by
 rw[zct]
 unfold z6T ltE
 erw[List.getD_eq_getElem?_getD,List.getElem?_map,List.getElem?_eq_getElem hi,List.getElem?_eq_getElem hj,i9,B4]
def zf4(h:Lin ds):(z7l ds).Perm ds/\(z7l ds).Pairwise λa b=>ltE b a=false:=by
 have o:So.Od (z6T (erL ds)) ds.length:=⟨λi j hi hj e=>by
  rw[zgi hi hj] at e
  rw[zgi hj hi]
  exact h.a _ (A9 hi) _ (A9 hj) e,λi j k hi hj hk e1 e2=>by
  rw[zgi hi hj] at e1
  rw[zgi hj hk] at e2
  rw[zgi hi hk]
  exact h.t _ (A9 hi) _ (A9 hj) _ (A9 hk) e1 e2⟩
 have pl:(So.permS ds.length (z6T (erL ds))).length=ds.length:=So.permS_len
 have pt:=So.permS_lt (n:=ds.length) (cmp:=z6T (erL ds))
 have pp:=So.permS_pm (n:=ds.length) (cmp:=z6T (erL ds))
 have ps:=So.permS_srt (n:=ds.length) (cmp:=z6T (erL ds)) o
 unfold z7l
 generalize So.permS ds.length (z6T (erL ds))=P at pl pt pp ps
 constructor
 .have e:(D5 ds.length).map (λi=>ds.getD i .non)=ds:=by
   apply List.ext_getElem?
   intro i
   by_cases hi:i<ds.length
   .simp[hi]
   .simp[hi]
  have:=pp.map λi=>ds.getD i .non
  rw[e] at this
  exact this
 .rw[E3]
  intro i j hi hj hij
  erw[l0] at hi hj
  have q:=ps i j ⋯ ⋯
  have gi:P.getD i 0=P[i]:=by simp[hi]
  have gj:P.getD j 0=P[j]:=by simp[hj]
  have hi':=pt _ (A9 hi)
  have hj':=pt _ (A9 hj)
  rw[gi,gj,zgi hj' hi'] at q
  erw[List.getElem_map]
  have ei:ds.getD P[i] .non=ds[P[i]]:=by simp[hi']
  have ej:ds.getD P[j] .non=ds[P[j]]:=by simp[hj']
  rw[ei,ej]
  exact q
open PySem.Spec PyProof.Rows
section
variable{X:Cx}{G:Gx}{F:Fy}{e:bi}
def zcu{s:Stt}{l:Nat}(M:MR G F.toFx ρ H σv tv s)(h:RD G ρ H (.dct l ks ds) v)(r:RDs G ρ H ds xs)(lb: ∀j∈labs (.dct l ks ds),j<s.n):l∉qq ds:=λhl=>by
 have e0:v= .ref (ρ l):=by erw[RD] at h;exact h.1
 subst e0
 have:=findL_some l ds xs r hl
 cases e:findL l ds with
 |none=>rw[e] at this;cases this
 |some d=>
  obtain⟨q1,q2⟩:=findL_rd l ds xs d r e
  have e2:=RD.uniq M.kd M.inj _ _ _ q1 h (λj hj=>lb j (by erw[labs];exact i5 _ (i4 _ (q2 j hj)))) lb
  have e3:=findL_sz l ds d e
  rw[e2] at e3
  erw[sz] at e3
  lia
theorem z6i{j:Nat}: ∀{ds:List D},j∈qq ds->∃d∈ds,j∈labs d
 |[],h=>by erw[qq] at h;cases h
 |d::ds,h=>by
  erw[qq] at h
  rcases l4.mp h with q|q
  .exact⟨d,l6 ..,q⟩
  .obtain⟨e,he,hj⟩:=z6i q
   exact⟨e,i5 _ he,hj⟩
def zaz{j:Nat}(h:j∈qq (z1P ks vs k v)):j∈labs v\/j∈qq vs:=by
 obtain⟨d,hd,hj⟩:=z6i h
 delta z1P at hd
 split at hd
 .obtain⟨i,hi,e⟩:=N0 hd
  rw[O5] at e
  subst e
  split at hj
  .exact .inl hj
  .exact .inr (qk (A9 _) j hj)
 .rcases l4.mp hd with q|q
  .exact .inr (qk q j hj)
  .rw[m4.mp q] at hj;exact .inl hj
def z54(o i v:D):MS:=λs=>match o with
 | .dct l ks vs=>match z1O i with
  |some k=>if isT ks=true/\ks.length<qg/\l∉labs v then .nx (s.put l (.dct l (z3D ks k) (z1P ks vs k v))) else .no
  |none=> .no
 |_=> .no
def zcv{ρ:Nat->Addr}{s:Stt}{t1 t2 t3:D}{v o i:V}{H:Hp}{σv tv:List (Option V)}{Dd:Ends}(M:MRL G F.toFx ρ H σv tv s [t1,t2,t3] [v,o,i])(W:wS G F tv (z54 t2 t3 t1 s) Dd): ∃a H4,o= .ref a/\z9p H a i v H4/\Dd.nx σv H4:=by
 have h:=M.rd
 erw[RDs] at h
 obtain⟨_,_,e,h1,_,_,e2,h2,_,_,e3,h3,_⟩:=h
 cases e;cases e2;cases e3
 have b1:LB F.toFx ρ s.n (labs t1):=λl h=>M.lb l (by erw[qq];exact i8 _ h)
 have b2:LB F.toFx ρ s.n (labs t2):=λl h=>M.lb l (by erw[qq];exact i4 _ (i8 _ h))
 delta z54 at W
 cases t2 with
 |dct l ks vs=>
  dsimp only at W
  cases ek:z1O t3 with
  |none=>rw[ek] at W;exact False.elim W
  |some k=>
   rw[ek] at W
   dsimp only at W
   by_cases hc:isT ks=true/\ks.length<qg/\l∉labs t1
   .rw[qy hc] at W
    obtain⟨hT,hz,hv⟩:=hc
    have h2':=h2
    obtain⟨rfl,kvs,hx,rfl,r⟩:=h2.dctq hT
    have ns:=zcu M.m h2' r λj hj=>(b2 j hj).1
    obtain⟨b,rfl,hb,_⟩:=z21 h3 ek
    have bl:=b2 l (by erw[labs];exact l6 ..)
    have bv:LB F.toFx ρ s.n (qq vs):=λj hj=>b2 j (by erw[labs];exact i5 _ (i4 _ hj))
    have st:V9 H (upd H (ρ l) (.dT (z3f kvs k v))):=
     ⟨λb ys q=>by rw[Z5 (z0Z q hx (by intro z;cases z))];exact q,λb o u q=>by rw[Z5 (z0Z q hx (by intro z;cases z))];exact q⟩
    have pr:=zdC (k:=k) h1 r
    have lbp: ∀j∈qq (z1P (kvs.map λp=>dkD p.1) vs k t1),(j<s.n/\(F.A0 (ρ j)\/F.H0 (ρ j)=none))/\j≠l:=λj hj=>by
     rcases zaz hj with q|q
     .exact⟨b1 j q,λz=>hv (z▸q)⟩
     .exact⟨bv j q,λz=>ns (z▸q)⟩
    refine⟨ρ l,_,rfl,z9p.t hx hb (by simpa using hz),W ρ σv _ (M.m.put2 bl.1 bl.2 st (z4z M.m.kd hx) ?_ λj hj=> ?_)⟩
    .erw[RD]
     refine⟨trivial, .inr ⟨z3f kvs k v,Z3,pr.1, ?_⟩⟩
     exact RDs.upd (a:=0) st M.m.inj bl.1 pr.2 λj hj=>⟨(lbp j hj).1.1,(lbp j hj).2⟩
    .erw[labs,pr.1,z3k,B0] at hj
     rcases m3.mp hj with q|q
     .rw[q];exact bl
     .exact(lbp j q).1
   .rw[qh hc] at W;exact False.elim W
 |_=>exact False.elim W
def zdD(ts:List D):M D:=λs=>match ts with
 |[.dct _ (.non::ks) _]=>match z1S ks with
  |some ns=>if ns.length<64 then .ok (.lst s.n (z7l (ns.map D.int))) s.nxt else .no
  |none=> .no
 |_=> .no
theorem z6j: ∀{kvs:List (Key×V)} {ns:List Int},z1S (kvs.map λp=>z1M p.1)=some ns->kvs.map (·.1)=ns.map Sum.inl
 |[],ns,e=>by erw[t7,z1S] at e;cases e;rfl
 |p::kvs,ns,e=>by
  obtain⟨k,v⟩:=p
  cases k with
  |inr x=>simp[z1S,z1M] at e
  |inl i=>
   have e:(match z1S (kvs.map λp=>z1M p.1) with|some ns=>some (i::ns)|none=>none)=some ns:=e
   cases e1:z1S (kvs.map λp=>z1M p.1) with
   |none=>rw[e1] at e;cases e
   |some ms=>
    rw[e1] at e
    cases e
    erw[i7,z6j e1]
theorem z8d: ∀ns:List Int,RDs G ρ H (ns.map D.int) (ns.map V.int)
 |[]=>by simp[RDs]
 |n::ns=>by erw[i7,RDs];exact⟨_,_,rfl,by erw[RD],z8d ns⟩
theorem z6k: ∀ns:List Int,qq (ns.map D.int)=[]
 |[]=>rfl
 |n::ns=>by erw[i7,qq,labs,z6k ns];rfl
theorem z8e: ∀ns:List Int,erL (ns.map D.int)=ns.map PyData.int
 |[]=>rfl
 |n::ns=>by erw[i7,erL,er,z8e ns]
def zf5:K4 G F zh7 zdD:=by
 intro ρ s ts vs H σv tv Q M W
 unfold zdD at W
 split at W
 .rename_i l ks ws
  cases e0:z1S ks with
  |none=>rw[e0] at W;exact False.elim W
  |some ns=>
   rw[e0] at W
   dsimp only at W
   by_cases h64:ns.length<64
   .rw[qy h64] at W
    obtain⟨v,rfl,h,_⟩:=M.one
    obtain⟨rfl,kvs,hx,rfl,r⟩:=h.dctp
    refine⟨ρ l,kvs,ns,rfl, .inl hx,z6j e0,h64,λq hq k=> ?_⟩
    have W':wM G F σv tv (.ok (.lst s.n ((So.permS ns.length (z6T (ns.map PyData.int))).map λi=>(ns.map D.int).getD i .non)) s.nxt) Q:=by
     have e:z7l (ns.map D.int)=(So.permS ns.length (z6T (ns.map PyData.int))).map λi=>(ns.map D.int).getD i .non:=by unfold z7l;rw[z8e,l0]
     rw[<-e];exact W
    exact z2A W' M.m (RDs.perm (z8d ns) _ λi hi=>by rw[l0];exact So.permS_lt i hi) (λj hj=>by rw[z6e (z6k ns)] at hj;cases hj) hq k
   .rw[qh h64] at W;exact False.elim W
 .exact False.elim W
def zf6(hk:X.K=G.K)(hh:X.A.handled=none):Cb X G F (.builtin "sorted") zdD:=⟨_,zac hh,zf5⟩
variable{tg iter:bi}{pos:bO}
def tSx(G:Gx)(mb:MS):TS:=λD σ H=> ∃F:Fy,tS G F mb D σ H
end
def Fy.frw(F:Fy)(a:Addr)(o:HO):Fy where
 A0:=λx=>F.A0 x/\x≠a
 H0:=upd F.H0 a o
 Z:=F.Z
 zA:=λx z=>by
  obtain⟨⟨o',e⟩,n⟩:=F.zA x z
  refine⟨?_,λq=>n q.1⟩
  by_cases hx:x=a
  .exact⟨o,by rw[hx,Z3]⟩
  .exact⟨o',by rw[Z5 hx];exact e⟩
 aH:=λx q=>by
  obtain⟨o',e⟩:=F.aH x q.1
  exact⟨o',by rw[Z5 q.2];exact e⟩
 n0:=F.n0
 ρ0:=F.ρ0
 tv0:=F.tv0
 xw:=F.xw
section
variable{G:Gx}{F:Fy}{ρ:Nat->Addr}{H:Hp}{σv tv:List (Option V)}{s:Stt}{a:Addr}{o:HO}
def MR.frwIn(M:MR G F.toFx ρ H σv tv s)(h:H a=some o)(hm: ∃u w,o= .frz u w):MR G (F.frw a o).toFx ρ H σv tv s:=by
 have ne: ∀l∈V7 s,ρ l≠a:=λl hl e=>by
  obtain⟨u,w,rfl⟩:=hm
  have: ∃o,H (ρ l)=some o/\(∀xs,o≠ .tup xs)/\∀u w,o≠ .frz u w:=by
   rcases l4.mp hl with q|q
   .exact z4B M.sl l q
   .exact z4B M.tm l q
  obtain⟨o',e1,_,e3⟩:=this
  rw[e,h] at e1
  cases e1
  exact e3 _ _ rfl
 refine⟨M.sl,M.tm,M.inj,M.dom,M.lab,λl hl=> ?_,λx o' e=> ?_,M.kd,M.frb,M.bas⟩
 .rcases M.own l hl with q|q
  .exact .inl ⟨q,ne l hl⟩
  .exact .inr (by show upd F.H0 a o (ρ l)=none;rw[Z5 (ne l hl)];exact q)
 .have e:upd F.H0 a o x=some o':=e
  by_cases hx:x=a
  .subst hx
   rw[Z3] at e
   cases e
   exact⟨⟨o,h⟩,λ_=>h⟩
  .rw[Z5 hx] at e
   obtain⟨q1,q2⟩:=M.frm x o' e
   exact⟨q1,λn=>q2 λz=>n ⟨z,hx⟩⟩
def MR.frwOut(w:F.A0 a\/F.H0 a=none\/F.H0 a=some o)(M:MR G (F.frw a o).toFx ρ H σv tv s):MR G F.toFx ρ H σv tv s:=by
 refine⟨M.sl,M.tm,M.inj,M.dom,M.lab,λl hl=> ?_,λx o' e=> ?_,M.kd,M.frb,M.bas⟩
 .rcases M.own l hl with q|q
  .exact .inl q.1
  .have q:upd F.H0 a o (ρ l)=none:=q
   by_cases hx:ρ l=a
   .rw[hx,Z3] at q;cases q
   .rw[Z5 hx] at q;exact .inr q
 .by_cases hx:x=a
  .subst hx
   obtain⟨q,q2⟩:=M.frm x o Z3
   refine⟨q,λn=> ?_⟩
   rcases w with z|z|z
   .exact absurd z n
   .rw[z] at e;cases e
   .rw[z] at e;cases e;exact q2 λz=>z.2 rfl
  .obtain⟨q1,q2⟩:=M.frm x o' (by show upd F.H0 a o x=some o';rw[Z5 hx];exact e)
   exact⟨q1,λn=>q2 λz=>n z.1⟩
def MRL.frwOut(w:F.A0 a\/F.H0 a=none\/F.H0 a=some o)(M:MRL G (F.frw a o).toFx ρ H σv tv s ts vs):MRL G F.toFx ρ H σv tv s ts vs:=by
 refine⟨M.m.frwOut w,M.rd,λl hl=> ?_⟩
 obtain⟨q1,q⟩:=M.lb l hl
 refine⟨q1, ?_⟩
 rcases q with q|q
 .exact .inl q.1
 .have q:upd F.H0 a o (ρ l)=none:=q
  by_cases hx:ρ l=a
  .rw[hx,Z3] at q;cases q
  .rw[Z5 hx] at q;exact .inr q
def MR.frwAt(M:MR G (F.frw a o).toFx ρ H σv tv s):H a=some o:=(M.frm a o Z3).2 λz=>z.2 rfl
variable{X:Cx}
def zcw(d:D):Option (NK×D):=match d with
 | .tup [k,v]=>match z1O k with
  |some y=>some (y,v)
  |none=>none
 |_=>none
def z2m:List D->Option (List (NK×D))
 |[]=>some []
 |d::ds=>match zcw d,z2m ds with
  |some p,some ps=>some (p::ps)
  |_,_=>none
def z7m:List D->M D
 |[.lst _ ds]=>λs=>match z2m ds with
  |some ps=>if(ps.map (·.1)).Nodup then .ok (.dct s.n (ps.map λp=>dkD p.1) (ps.map (·.2))) s.nxt else .no
  |none=> .no
 |_=>fl
theorem z6l: ∀{ds:List D} {xs:List V} {ps:List (NK×D)},RDs G ρ H ds xs->z2m ds=some ps->
 ∃kvs:List (NK×V),bx (λ(p:NK×V) (v:V)=> ∃t b,v= .ref t/\H t=some (.tup [.ref b,p.2])/\TK H p.1 b) kvs xs/\kvs.map (·.1)=ps.map (·.1)/\RDs G ρ H (ps.map (·.2)) (kvs.map (·.2))/\∀j∈qq (ps.map (·.2)),j∈qq ds
 |[],xs,ps,r,e=>by
  erw[z2m,Option.some.injEq] at e
  subst e
  erw[RDs] at r
  subst r
  exact⟨[], .nil,rfl,by simp[RDs],λj h=>by cases h⟩
 |d::ds,xs,ps,r,e=>by
  erw[RDs] at r
  obtain⟨v,ys,rfl,h,t⟩:=r
  erw[z2m] at e
  cases e1:zcw d with
  |none=>rw[e1] at e;cases e
  |some p=>
   cases e2:z2m ds with
   |none=>rw[e1,e2] at e;cases e
   |some qs=>
    rw[e1,e2] at e
    cases e
    obtain⟨kvs,h1,h2,h3,h4⟩:=z6l t e2
    obtain⟨q,a,b,rfl,hq,rfl⟩: ∃q:NK,∃a b,d= .tup [a,b]/\z1O a=some q/\p=(q,b):=by
     delta zcw at e1
     split at e1
     .rename_i a b
      cases e3:z1O a with
      |none=>rw[e3] at e1;cases e1
      |some q=>rw[e3] at e1;cases e1;exact⟨q,a,b,rfl,e3,rfl⟩
     .cases e1
    erw[RD] at h
    obtain⟨t1,xs1,rfl,ht,r1⟩:=h
    erw[RDs] at r1
    obtain⟨v1,_,rfl,g1,v2,_,rfl,g2,rfl⟩:=r1
    obtain⟨c,rfl,hc,_⟩:=z21 g1 hq
    refine⟨(q,v2)::kvs, .cons ⟨t1,c,rfl,ht,hc⟩ h1,by simp[h2], ?_,λj hj=> ?_⟩
    .erw[i7,RDs]
     exact⟨_,_,rfl,g2,h3⟩
    .erw[i7,qq] at hj
     erw[qq,labs,l7]
     rcases l4.mp hj with z|z
     .exact i8 _ (i4 _ z)
     .exact i4 _ (h4 j z)
def zcx:K4 G F zdp z7m:=by
 intro ρ s ts vs H σv tv Q M W
 delta z7m at W
 split at W
 .rename_i l ds
  obtain⟨v,rfl,h,lb⟩:=M.one
  erw[RD] at h
  obtain⟨rfl,xs,sq,r⟩:=h
  cases e:z2m ds with
  |none=>rw[e] at W;exact False.elim W
  |some ps=>
   rw[e] at W
   dsimp only at W
   by_cases hn:(ps.map (·.1)).Nodup
   .rw[qy hn] at W
    obtain⟨kvs,h1,h2,h3,h4⟩:=z6l r e
    refine⟨ρ l,kvs,xs,rfl, .inl sq,h1,by rw[h2];exact hn,λa ha k=> ?_⟩
    have lb2:LB F.toFx ρ s.n (qq (ps.map (·.2))):=λj hj=>lb j (by erw[labs];exact i5 _ (h4 j hj))
    have ek:kvs.map (λp=>dkD p.1)=ps.map λp=>dkD p.1:=by
     have:=congrArg (u0l dkD) h2
     rw[B7,B7] at this
     exact this
    refine W.out (M.m.new ha k) ?_ λj hj=> ?_
    .erw[RD]
     rw[g9]
     exact⟨rfl, .inr ⟨kvs,Z3,ek.symm,RDs.ext M.m h3 lb2 ha⟩⟩
    .erw[labs] at hj
     rw[<-ek,z3k,B0] at hj
     rcases m3.mp hj with q|q
     .rw[q]
      exact⟨B2 _,by rw[g9];exact .inr (M.m.fresh0 ha)⟩
     .obtain⟨g1,g2⟩:=lb2 j q
      exact⟨L5 g1,by rw[j9 g1];exact g2⟩
   .rw[qh hn] at W;exact False.elim W
 .exact wfl W
def zcy(hu:X.A.units+64<cLine)(hd:X.A.handled=none):Cb X G F (.type "dict") z7m:=⟨_,z8U ⋯ hd,zcx⟩
end
end Mi
namespace My
open PySem L2 PySem.Spec PyProof.Rows Mi
@[irreducible] def SE(X:Cx)(G:Gx)(F:Fy)(e:bi)(m:M D):Prop:=Mi.SE X G F e m
def eSE X G F e m:SE X G F e m=Mi.SE X G F e m:=by delta SE;rfl
@[irreducible] def SA(X:Cx)(G:Gx)(F:Fy)(e:List bi)(m:M (List D)):Prop:=Mi.SA X G F e m
def eSA X G F e m:SA X G F e m=Mi.SA X G F e m:=by delta SA;rfl
@[irreducible] def SB(X:Cx)(G:Gx)(F:Fy)(e:bi)(m:M Bool):Prop:=Mi.SB X G F e m
def eSB X G F e m:SB X G F e m=Mi.SB X G F e m:=by delta SB;rfl
@[irreducible] def SW(X:Cx)(G:Gx)(F:Fy)(e:bi)(m:M Bool):Prop:=Mi.SW X G F e m
def eSW X G F e m:SW X G F e m=Mi.SW X G F e m:=by delta SW;rfl
@[irreducible] def SS(X:Cx)(G:Gx)(F:Fy)(e:Stmt)(m:MS):Prop:=Mi.SS X G F e m
def eSS X G F(e:Stmt)(m:MS):SS X G F e m=Mi.SS X G F e m:=by delta SS;rfl
@[irreducible] def SSs(X:Cx)(G:Gx)(F:Fy)(e:List Stmt)(m:MS):Prop:=Mi.SSs X G F e m
def zhR X G F e(m:MS):SSs X G F e m=Mi.SSs X G F e m:=by delta SSs;rfl
@[irreducible] def SG(X:Cx)(G:Gx)(F:Fy)(e:bi)(m:Tg):Prop:=Mi.SG X G F e m
def eSG X G F e(m:Tg):SG X G F e m=Mi.SG X G F e m:=by delta SG;rfl
@[irreducible] def SGs(X:Cx)(G:Gx)(F:Fy)(e:List bi)(m:List Tg):Prop:=Mi.SGs X G F e m
def zhS X G F e m:SGs X G F e m=Mi.SGs X G F e m:=by delta SGs;rfl
@[irreducible] def SI(X:Cx)(G:Gx)(F:Fy)(tg e:bi)(m:M ItK):Prop:=Mi.SI X G F tg e m
def eSI X G F tg e m:SI X G F tg e m=Mi.SI X G F tg e m:=by delta SI;rfl
@[irreducible] def SO(X:Cx)(G:Gx)(F:Fy)(e:Option bi)(m:Option (M D)):Prop:=Mi.SO X G F e m
def eSO X G F e m:SO X G F e m=Mi.SO X G F e m:=by delta SO;rfl
@[irreducible] def STs(X:Cx)(G:Gx)(F:Fy)(e:List bi)(m:M Bool):Prop:=Mi.STs X G F e m
def zdE X G F e m:STs X G F e m=Mi.STs X G F e m:=by delta STs;rfl
local macro_rules | `(tactic| walk_at "go") => `(tactic| (simp only [eSE, eSA, eSB, eSW, eSS, zhR, eSG, zhS, eSI, eSO, zdE] at *))
section
variable{X:Cx}{G:Gx}{F:Fy}{e a b c:bi}{pos:bO}
def zhT i{x:Str}(hk:X.K=G.K)(h:PE X (.Name x pos) (zjA i)):SE X G F (.Name x pos) (y0 i):=by
 walk_at "go"
 refine PE.imp hk h ?_
 rintro σ H Q ⟨tv,hs,ρ,s,M,W⟩
 delta y0 at W
 cases e:s.σ[i]? with
 |none=>rw[e] at W;exact W.elim
 |some o=>
  cases o with
  |none=>rw[e] at W;exact W.elim
  |some t=>
   rw[e] at W
   obtain⟨v,h1,h2⟩:=M.sl.get i t e
   refine⟨v,h1,λ_=>W ρ v H ⟨M,RDs.one h2,λl hl=> ?_⟩⟩
   erw[qq,l7] at hl
   have:=z2i e l hl
   exact⟨M.lab l (i8 _ this),M.own l (i8 _ this)⟩
def zki(hk:X.K=G.K)(h:PE X e (tC v))(hd:cV d=some v:=by rfl):SE X G F e (mC d):=by
 walk_at "go"
 refine PE.imp hk h λ σ H Q ⟨tv,hs,ρ,s,M,W⟩ _=>W ρ v H ⟨M,RDs.one (zcc hd).1,λl hl=> ?_⟩
 erw[qq,(zcc (G:=G) (ρ:=ρ) (H:=H) hd).2] at hl
 cases hl
def k5:SO X G F none none:=by
 walk_at "go"
 intro qx s σ H Q I ⟨tv,hs,ρ,ms,M,W⟩
 exact zej qx s σ H Q I (W ρ H M)
def v3(h:SE X G F e m):SO X G F (some e) (some m):=by
 walk_at "go"
 intro qx s σ H Q I ⟨tv,hs,ρ,ms,M,W⟩
 refine zek h qx s σ H Q I ⟨tv,hs,ρ,ms,M, ?_⟩
 erw[z4l,bd] at W
 cases e1:m ms with
 |ok d s1=>
  rw[e1] at W
  intro ρ' v H' M'
  cases d with
  |int i=>
   have h:=M'.rd1
   erw[RD] at h
   exact⟨i,h,W ρ' H' M'.m⟩
  |_=>exact False.elim W
 |ex d s1=>rw[e1] at W;exact W
 |no=>rw[e1] at W;exact W
def G9{lo hi:Option bi}{p2:bO}{m:M D}{ml mh:Option (M D)}(hk:X.K=G.K)(he:SE X G F e m)(hl:SO X G F lo ml)(hh:SO X G F hi mh):SE X G F (.Subscript e (.Slice lo hi none p2) pos) (mSl m ml mh):=by
 walk_at "go"
 refine PE.imp hk (zbW (r:=λx lo hi H Q=>zk6 X.K x lo hi H Q\/zjY X.K x lo hi H Q) (SlR.or zeB zep) he hl hh) λ σ H Q ⟨tv,h⟩=>⟨tv, ?_⟩
 obtain⟨hs,ρ,s,M,W⟩:=zah h
 refine⟨hs,ρ,s,M,W.mono λv H1 ⟨ρ1,s1,t,M1,W1⟩=>⟨some v::tv,z82 hs,ρ1,s1.psh t,M1.push, ?_⟩⟩
 erw[bd,psh] at W1
 cases e1:z4l ml (s1.psh t) with
 |ex d s2=>rw[e1] at W1;exact W1
 |no=>rw[e1] at W1;exact W1
 |ok l s2=>
  rw[e1] at W1
  intro ρ2 H2 M2
  refine⟨some v::tv,z82 hs,ρ2,s2,M2, ?_⟩
  dsimp only at W1
  cases e2:z4l mh s2 with
  |ex d s3=>rw[e2] at W1;exact W1
  |no=>rw[e2] at W1;exact W1
  |ok h s3=>
   rw[e2] at W1
   intro ρ3 H3 M3
   erw[pop] at W1
   cases e3:s3.tm with
   |nil=>rw[e3] at W1;exact W1.elim
   |cons o r=>
    cases o with
    |none=>rw[e3] at W1;exact W1.elim
    |some t'=>
     rw[e3] at W1
     have M4:MRL G F.toFx ρ3 H3 σ tv {s3 with tm:=r} [t'] [v]:=MRL.down (ts:=[]) (vs:=[]) ⟨M3,rfl,λl h=>by simp[qq] at h⟩ e3
     rw[hk]
     exact zkf M4 W1
def Y4{x1}(hk:X.K=G.K)(h:SA X G F es (W8 ms)):SE X G F (.Tuple es x1 pos) (mCB ms j3):=by
 walk_at "go"
 exact PE.imp hk (zgK h) λ_ _ _ h=>z3i zhi h
def W7(hk:X.K=G.K)(h:SA X G F es (W8 ms)):SE X G F (.List es pos) (mCB ms lstM):=by
 walk_at "go"
 exact PE.imp hk (zgL h) λ_ _ _ h=>z3i zhj h
def z1b(hk:X.K=G.K)(ha:SE X G F a m)(he: ∀whole,dU a X.env whole=(do let v<-whole;standAt a.pos;cM [v] (truthy v)):=by intro _;rfl):SB X G F a (z1r m):=by
 walk_at "go"
 refine PT.imp hk (zbT ha he) λ σ H Q h=> ?_
 rw[hk]
 obtain⟨tv,h'⟩:=zce h
 exact⟨tv,h'.mono λv H1 ⟨k,q1,q2⟩=>⟨k,q1,λ_=>q2⟩⟩
def SW.sb(h:SW X G F e m):SB X G F e m:=by
 walk_at "go"
 exact PW.pt h
def z3E(h:SB X G F a m):SW X G F (.BoolOp .And [a] pos) m:=by
 walk_at "go"
 exact ze7 h
def zaA(h:SB X G F a m):SW X G F (.BoolOp .Or [a] pos) m:=by
 walk_at "go"
 exact zgr h
def z6m(ha:SB X G F a m)(hb:SW X G F (.BoolOp .And (b::rest) pos) m'):SW X G F (.BoolOp .And (a::b::rest) pos) (z9r m m'):=by
 walk_at "go"
 refine PW.imp0 (zgs ha hb) λ σ H Q ⟨tv,h⟩=>⟨tv,(zeQ h).mono λb H1 ⟨ρ1,s1,M1,W⟩=> ?_⟩
 cases b with
 |true=>rw[qy rfl];exact⟨tv,h.1,ρ1,s1,M1,W⟩
 |false=>rw[qh C6];exact W ρ1 H1 M1
def zf7(ha:SB X G F a m)(hb:SW X G F (.BoolOp .Or (b::rest) pos) m'):SW X G F (.BoolOp .Or (a::b::rest) pos) (mOr m m'):=by
 walk_at "go"
 refine PW.imp0 (zjB ha hb) λ σ H Q ⟨tv,h⟩=>⟨tv,(zeQ h).mono λb H1 ⟨ρ1,s1,M1,W⟩=> ?_⟩
 cases b with
 |true=>rw[qy rfl];exact W ρ1 H1 M1
 |false=>rw[qh C6];exact⟨tv,h.1,ρ1,s1,M1,W⟩
def z6n(ha:SB X G F a m):SB X G F (.UnaryOp .Not a pos) (z9s m):=by
 walk_at "go"
 refine PT.imp0 (zgt ha) λ σ H Q ⟨tv,h⟩=>⟨tv,(zeQ h).mono λb H1 ⟨ρ1,s1,M1,W⟩=>W ρ1 H1 M1⟩
def zdF{op}(h:SE X G F a m):SE X G F (.BoolOp op [a] pos) m:=by
 walk_at "go"
 exact zgu h
def zdG{rest:List bi}{m m':M D}(ha:SE X G F a m)(hb:SE X G F (.BoolOp .And (b::rest) pos) m'):SE X G F (.BoolOp .And (a::b::rest) pos) (z8W m m'):=by
 walk_at "go"
 refine PE.imp0 (zgv ha hb) λ σ H Q h=>(zdu h).mono λx H1 ⟨k,e,ρ1,s1,tv,hs,M1,W⟩=>⟨k,e, ?_⟩
 cases k with
 |true=>rw[qy rfl];exact⟨tv,hs,ρ1,s1,M1,W⟩
 |false=>rw[qh C6];exact W.flat M1 rfl
def zhU{m:M D}(ha:SE X G F a m):SE X G F (.UnaryOp .Not a pos) (zcf m):=by
 walk_at "go"
 refine PE.imp0 (zgw ha) λ σ H Q h=>(zdu h).mono λx H1 ⟨k,e,ρ1,s1,tv,hs,M1,W⟩=>⟨k,e,W.flat M1 rfl⟩
def zaB{p:bO}(hk:X.K=G.K)(hT:T= "int" \/T= "bool" \/T= "tuple" \/T= "list" \/T= "str")(hgl:Gl X "isinstance")(hm:X.mg "isinstance" =none)(ha:SE X G F x m)(hy:PE X y (tC (.ty T)))
 (he:bh [x,y] X.env=(false,bC x X.env)::bh [y] X.env:=by rfl) (he2:bh [y] X.env=(false,bC y X.env)::bh [] X.env:=by rfl) (hpl:(bK pos (bh [y] X.env)).any (·.1)=false:=by rfl):SE X G F (.Call (.Name "isinstance" p) [x,y] [] pos) (zeT T m):=by
 walk_at "go"
 refine PE.imp hk (z7U zc5 hgl hm PyProof.Rows.Boot.«isinstance» (z70 ha (z70 hy zdj he2) he) (by decide) (by decide) he hpl) λ σ H Q ⟨tv,h⟩=>⟨tv,(zah h).mono λv H1 ⟨ρ1,s1,t,M1,W⟩=> ?_⟩
 cases e:isiD T t with
 |none=>erw[e] at W;exact False.elim W
 |some b=>
  erw[e] at W
  rw[hk]
  exact⟨v,T,b,rfl,hT,zht M1.rd1 e,λ_=>W.flat M1.m rfl⟩
variable{st:Stmt}{sts rest:List Stmt}
def v5:SSs X G F [] sNx:=by
 walk_at "go"
 exact PSs.imp0 ze8 λD σ H ⟨tv,hs,ρ,s,M,W⟩=>W ρ σ H M
def y1(h1:SS X G F st m)(h2:SSs X G F rest m'):SSs X G F (st::rest) (Z1 m m'):=by
 walk_at "go"
 refine PSs.imp0 (zbP h1 h2) λD σ H ⟨tv,hs,ρ,s,M,W⟩=>⟨tv,hs,ρ,s,M, ?_⟩
 delta Z1 at W
 cases e:m s with
 |nx s'=>rw[e] at W;exact λ ρ' σv' H' M'=>⟨tv,hs,ρ',s',M',W⟩
 |rt d s'=>rw[e] at W;exact W
 |bk s'=>rw[e] at W;exact W
 |ct s'=>rw[e] at W;exact W
 |ex d s'=>rw[e] at W;exact W
 |no=>rw[e] at W;exact W
def y8(h1:SS X G F st m):SSs X G F [st] m:=by
 walk_at "go"
 exact ze9 h1
def j7(he:SE X G F e m)(hs:bQ e none pos.line X.env=pure false:=by rfl):SS X G F (.Expr e pos) (Q8 m):=by
 walk_at "go"
 exact PS.imp0 (zea he hs) λD σ H ⟨tv,h⟩=>⟨tv,(z19 h).mono λv H1 ⟨ρ1,s1,t,M1,W⟩=>W ρ1 σ H1 M1.m⟩
def Q7(he:SE X G F e m):SS X G F (.Return (some e) pos) (K5 m):=by
 walk_at "go"
 exact PS.imp0 (zgx he) λD σ H ⟨tv,h⟩=>⟨tv,(z19 h).mono λv H1 ⟨ρ1,s1,t,M1,W⟩=>W ρ1 σ v H1 M1⟩
def z0d(hc:SB X G F c mc)(ha:SSs X G F x m)(hb:SSs X G F y m'):SS X G F (.If c x y pos) (sIf mc m m'):=by
 walk_at "go"
 refine PS.imp0 (zjG hc ha hb) λD σ H ⟨tv,h⟩=>⟨tv,(z69 h).mono λk H1 ⟨ρ1,s1,M1,W⟩=> ?_⟩
 cases k with
 |true=>rw[qy rfl];exact⟨tv,h.1,ρ1,s1,M1,W⟩
 |false=>rw[qh C6];exact⟨tv,h.1,ρ1,s1,M1,W⟩
def z0J{i:Nat}(h:PG X (.Name x p) (z9C i)):SG X G F (.Name x p) (.nm i):=by
 walk_at "go"
 intro qx s σ H v u Q I r ⟨tv,ρ,ms,t,M,σ',e,k⟩
 erw[asg,Option.some.injEq] at e
 subst e
 exact h qx s σ H v u Q I r (k _ (M.setS i).m)
def J0:SGs X G F [] []:=by
 walk_at "go"
 intro qx s σ H vs us Q I r ⟨tv,ρ,ms,ts,M,σ',e,k⟩
 cases ts with
 |nil=>
  erw[asgL,Option.some.injEq] at e
  subst e
  have h:=M.rd
  erw[RDs] at h
  exact zeb qx s σ H vs us Q I r ⟨h,k _ M.m⟩
 |cons d ds=>erw[asgL] at e;cases e
def y6(h1:SG X G F e g)(h2:SGs X G F es gs)(hs:(bw (e::es) X.env).map (·.2)=cc e X.env::(bw es X.env).map (·.2):=by rfl):SGs X G F (e::es) (g::gs):=by
 walk_at "go"
 refine PGs.imp0 (zbQ h1 h2 hs) ?_
 rintro vs σv H Q ⟨tv,ρ,s,ts,M,σ',e,k⟩
 cases ts with
 |nil=>erw[asgL] at e;cases e
 |cons d ds=>
  erw[asgL] at e
  cases e1:asg g d s.σ with
  |none=>rw[e1] at e;cases e
  |some σ1=>
   rw[e1] at e
   obtain⟨v,r,rfl,M1,h2,lb⟩:=M.cons_inv
   exact⟨v,r,rfl,tv,ρ,s,d,M1,σ1,e1,λ σv1 M2=>⟨tv,ρ,{s with σ:=σ1},ds,⟨M2,h2,lb⟩,σ',e,k⟩⟩
def V2{k:Nat}{gs:List Tg}(hk:X.K=G.K)(hc:X.calm=true)(h:SGs X G F es gs)(hn:(bw es X.env).length=gs.length:=by rfl)(hst:(bw es X.env).findIdx? (·.1)=none:=by rfl):SG X G F (.Tuple es k pos) (.tp gs):=by
 walk_at "go"
 refine PG.imp0 (zh6 hc h hn hst) ?_
 rintro v σv H Q ⟨tv,ρ,s,t,M,σ',e,kk⟩
 have len: ∀{gs:List Tg} {ds:List D} {σ σ':Qq},asgL gs ds σ=some σ'->ds.length=gs.length:=by
  intro gs
  induction gs with
  |nil=>intro ds σ σ' e;cases ds with
   |nil=>rfl
   |cons _ _=>erw[asgL] at e;cases e
  |cons g gs ih=>intro ds σ σ' e;cases ds with
   |nil=>erw[asgL] at e;cases e
   |cons d ds=>
    erw[asgL] at e
    cases e1:asg g d σ with
    |none=>rw[e1] at e;cases e
    |some σ1=>rw[e1] at e;rw[A4,A4,ih e]
 cases t with
 |tup ds=>
  erw[asg] at e
  obtain⟨a,xs,rfl,sq,r⟩:=M.rd1.tupq
  refine⟨a,xs,rfl, .inl (hk▸sq),by rw[<-r.length];exact len e,tv,ρ,s,ds,⟨M.m,r,λl h=>M.lb1 l (by erw[labs];exact h)⟩,σ',e,kk⟩
 |lst l ds=>
  erw[asg] at e
  obtain⟨a,xs,rfl,sq,r,sub⟩:=M.rd1.lstq (ds:=ds) rfl
  refine⟨a,xs,rfl, .inr (hk▸sq),by rw[<-r.length];exact len e,tv,ρ,s,ds,⟨M.m,r,λl h=>M.lb1 l (sub l h)⟩,σ',e,kk⟩
 |_=>erw[asg] at e;cases e
def z1v(he:SE X G F e m)(hg:SG X G F tg g)(hs:cR [tg] e pos.line X.env=pure false:=by rfl)(hw:cS [tg] e X.env=pure none:=by rfl)
 (h1:(bw [tg] X.env).map (·.2)=[cc tg X.env]:=by rfl):SS X G F (.Assign [tg] e pos) (Y1 g m):=by
 walk_at "go"
 refine PS.imp0 (zdg he hg hs hw h1) λD σ H ⟨tv,h⟩=>⟨tv,(z19 h).mono λv H1 ⟨ρ1,s1,t,M1,W⟩=> ?_⟩
 cases e:asg g t s1.σ with
 |none=>erw[e] at W;exact False.elim W
 |some σ'=>
  erw[e] at W
  exact⟨tv,ρ1,s1,t,M1,σ',e,λ σv' M2=>W ρ1 σv' H1 M2⟩
def ss_set{i:Nat}(h: ∀{te:TE},PE X e te->PS X (.Assign [.Name x p] e pos) (zjr te (z9C i)))(he:SE X G F e m):SS X G F (.Assign [.Name x p] e pos) (Y1 (.nm i) m):=by
 walk_at "go"
 exact Mi.ss_set h he
def z0B(hp:cw (bj X.prog X.w) X.A X.env X.xe)(hc:SB X G F c mc)(hb:SSs X G F body mb):SS X G F (.While c body [] pos) (z0A fuel mc mb):=by
 walk_at "go"
 refine PS.imp0 (zbR hp hc hb) ?_
 rintro D σ H ⟨tv,hs,ρ,s,M,W⟩
 refine⟨λm σ H=>tSv G F (Y5 mc mb m) tv D σ H,⟨fuel s,hs,ρ,s,M,W⟩,λm σ H h=> ?_⟩
 cases m with
 |zero=>obtain⟨_,_,_,_,W⟩:=h;exact False.elim W
 |succ f=>
  refine⟨tv,(z69 h).mono λk H1 ⟨ρ1,s1,M1,W1⟩=> ?_⟩
  cases k with
  |false=>rw[qh C6];exact W1 ρ1 σ H1 M1
  |true=>
   rw[qy rfl]
   refine⟨λ σ' H'=>tSv G F (Y5 mc mb f) tv D σ' H',λ σ' H' q=>⟨f,B2 _,q⟩,tv,hs,ρ1,s1,M1, ?_⟩
   erw[zdw] at W1
   cases e:mb s1 with
   |nx s'=>rw[e] at W1;exact λ ρ' σv' H' M'=>⟨hs,ρ',s',M',W1⟩
   |ct s'=>rw[e] at W1;exact λ ρ' σv' H' M'=>⟨hs,ρ',s',M',W1⟩
   |bk s'=>rw[e] at W1;exact W1
   |rt d s'=>rw[e] at W1;exact W1
   |ex d s'=>rw[e] at W1;exact W1
   |no=>rw[e] at W1;exact W1
variable{tg iter:bi}
def X9(hk:X.K=G.K)(h:SE X G F e m):SI X G F tg e (j6 m):=by
 walk_at "go"
 refine PI.imp0 (zhx h) λ σ H R ⟨tv,hs,ρ,s,M,W⟩=>⟨tv,hs,ρ,s,M, ?_⟩
 unfold j6 bd at W
 cases e:m s with
 |ex d s1=>rw[e] at W;exact W
 |no=>rw[e] at W;exact W
 |ok t s1=>
  rw[e] at W
  intro ρ1 v H1 M1
  rw[hk]
  cases t with
  |tup ds=>
   obtain⟨a,xs,rfl,sq,r⟩:=M1.rd1.tupq
   exact⟨a,rfl, .inr ⟨⟨xs,sq⟩,W ρ1 H1 [some (.ref a)] _ rfl M1.push zch⟩⟩
  |lst n ds=>
   obtain⟨a,xs,rfl,sq,r,_⟩:=M1.rd1.lstq (ds:=ds) rfl
   exact⟨a,rfl, .inl ⟨⟨xs,sq⟩,W ρ1 H1 [some (.ref a)] _ rfl M1.push z85⟩⟩
  |ro ds=>
   obtain⟨a,xs,rfl,sq,r,_⟩:=M1.rd1.lstq (ds:=ds) rfl
   exact⟨a,rfl, .inl ⟨⟨xs,sq⟩,W ρ1 H1 [some (.ref a)] _ rfl M1.push z85⟩⟩
  |_=>exact False.elim W
def z02{p:bO}(hg:Gl X "range")(hm:X.mg "range" =none)(ha:SA X G F [a] (W8 ms))(hs:bh [a] X.env=[(false,bC a X.env)]:=by rfl):SI X G F tg (.Call (.Name "range" p) [a] [] pos) (X4 ms):=by
 walk_at "go"
 refine PI.imp0 (z9F hg hm ha hs) λ σ H R ⟨tv,hs,ρ,s,M,W⟩=>⟨tv,hs,ρ,s,M, ?_⟩
 unfold X4 bd at W
 cases e:W8 ms s with
 |ex d s1=>rw[e] at W;exact W
 |no=>rw[e] at W;exact W
 |ok ts s1=>
  rw[e] at W
  intro ρ1 vs H1 M1
  unfold zhy at W
  dsimp only at W
  split at W
  .rename_i ts' j K s' hh
   split at hh
   .split at hh
    .rename_i j' hc
     cases hh
     obtain⟨v,rfl,h,_⟩:=M1.one
     erw[RD] at h
     subst h
     exact⟨j',rfl,hc.1,hc.2,W ρ1 H1 [] _ rfl M1.m z86⟩
    .cases hh
   .cases hh
  .rename_i hh
   split at hh
   .split at hh<;>cases hh
   .cases hh
  .exact False.elim W
def zf8{p:bO}(hg:Gl X "range")(hm:X.mg "range" =none)(ha:SA X G F [a,b] (W8 ms))(hs:bh [a,b] X.env=[(false,bC a X.env),(false,bC b X.env)]:=by rfl)(hs2:bh [b] X.env=[(false,bC b X.env)]:=by rfl):SI X G F tg (.Call (.Name "range" p) [a,b] [] pos) (z8X ms):=by
 walk_at "go"
 refine PI.imp0 (z9G hg hm ha hs hs2) λ σ H R ⟨tv,hs,ρ,s,M,W⟩=>⟨tv,hs,ρ,s,M, ?_⟩
 unfold z8X bd at W
 cases e:W8 ms s with
 |ex d s1=>rw[e] at W;exact W
 |no=>rw[e] at W;exact W
 |ok ts s1=>
  rw[e] at W
  intro ρ1 vs H1 M1
  unfold zhz at W
  dsimp only at W
  split at W
  .rename_i ts' j K s' hh
   split at hh
   .split at hh
    .rename_i i' j' hc
     cases hh
     obtain⟨v,u,rfl,h,h'⟩:=M1.two
     erw[RD] at h h'
     subst h h'
     exact⟨i',j',rfl,hc,W ρ1 H1 [] _ rfl M1.m z86⟩
    .cases hh
   .cases hh
  .rename_i hh
   split at hh
   .split at hh<;>cases hh
   .cases hh
  .exact False.elim W
def U3{body:List Stmt}{mi:M ItK}{g:Tg}{mb:MS}(hp:cw (bj X.prog X.w) X.A X.env X.xe)(hc:X.calm=true)(hi:SI X G F tg iter mi)(hg:SG X G F tg g)(hb:SSs X G F body mb)(hst: ∀x,br iter X.env x=pure x:=by intro _;rfl):SS X G F (.For tg iter body [] pos) (V8 mi g mb):=by
 walk_at "go"
 refine PS.imp0 (z9I hp hc hi hg hb hst) λD σ H ⟨tv,h⟩=>zan h λK ρ' H' tvs J s' hl M' hok W=> ?_
 have hs:=h.1
 refine⟨λi m σ H=> ∃ρ s,MR G F.toFx ρ H σ (tvs++tv) s/\wS G F tv (forGo K g mb m i s) D,⟨_,ρ',s',M',W⟩, ?_⟩
 rintro i m σ H ⟨ρ,s,M,W⟩
 have ok:=hok F.toFx ρ H σ [] tv s i M
 erw[C8,L7,B0] at ok
 unfold forGo at W
 cases e:K.at' i s.tm with
 |none=>erw[e] at W;exact False.elim W
 |some o=>
  cases o with
  |none=>
   erw[e] at W ok
   refine .inl ⟨ok,W ρ σ H ?_⟩
   rw[<-hl]
   exact M.popn
  |some d=>
   erw[e] at W ok
   cases m with
   |zero=>exact False.elim W
   |succ f=>
    dsimp only at W
    cases e2:asg g d s.σ with
    |none=>erw[e2] at W;exact False.elim W
    |some σ'=>
     erw[e2] at W
     refine .inr ⟨ok.1,λ σ H=> ∃ρ s,MR G F.toFx ρ H σ (tvs++tv) s/\wS G F tv (forGo K g mb f (i+1) s) D,λ σ' H' q=>⟨f,B2 _,q⟩,λx H2 y=> ?_⟩
     refine⟨tvs++tv,ρ,s,d,ok.2 x H2 y,σ',e2,λ σv' M2=>⟨tvs++tv,zlU hs,ρ,_,M2, ?_⟩⟩
     cases e3:mb {s with σ:=σ'} with
     |nx s2=>erw[e3] at W;exact λ ρ3 σ3 H3 M3=>⟨ρ3,s2,M3,W⟩
     |ct s2=>erw[e3] at W;exact λ ρ3 σ3 H3 M3=>⟨ρ3,s2,M3,W⟩
     |bk s2=>erw[e3] at W;exact λ ρ3 σ3 H3 M3=>W ρ3 σ3 H3 (by rw[<-hl];exact M3.popn)
     |rt t s2=>erw[e3] at W;exact λ ρ3 σ3 v H3 M3=>W ρ3 σ3 v H3 (by rw[<-hl];exact M3.popn)
     |ex d s2=>erw[e3] at W;exact W
     |no=>erw[e3] at W;exact W
variable{elt:bi}
def z22:STs X G F [] (rt true):=by
 walk_at "go"
 exact λqx s σ H Q I ⟨tv,hs,ρ,ms,M,W⟩=>zeE qx s σ H Q I (W ρ H M)
def zf9(h:SB X G F c m):STs X G F [c] m:=by
 walk_at "go"
 exact zeF h
variable{ρ:Nat->Addr}{H:Hp}
section
variable(k:KD G.K H){n:Nat}(inj: ∀i j,i<n->j<n->ρ i=ρ j->i=j)
include k inj
end
variable{ρ':Nat->Addr}{H':Hp}
section
variable(k:KD G.K H){n:Nat}(inj: ∀i j,i<n->j<n->ρ i=ρ j->i=j){ts:List D}{vs:List V}(r:RDs G ρ H ts vs)(lb: ∀l∈qq ts,l<n)
include k inj r lb
end
variable{F:Fy}{σv tv:List (Option V)}{s:Stt}{np:Nat}
def zfa{X:Cx}{e:bi}{es:List bi}{pos p:bO}{k:Nat}{ps:List Str}{ms:List (M D)}(hk:X.K=G.K)(Fn:z0F X.prog X.w X.K X.mg X.base CX k fa fd ps (spM G ps.length f))(hr:z4h k X.A)(hg:Gl X x)(hm:X.mg x=some (.ref fa))(hkp:W.keepIn X.K (.ref fa)=true)(hb:z71 X.K fd ps [])(hx:z5O CX X E)
 (ha:SA X G F (e::es) (W8 ms)) (hln:ms.length=ps.length) (hdb:(x==("__debug__" :Str))=false:=by decide) (he:bh (e::es) X.env=(false,bC e X.env)::bh es X.env:=by rfl) (hpl:(bK pos (bh es X.env)).any (·.1)=false:=by rfl):
 SE X G F (.Call (.Name x p) (e::es) [] pos) (Z2 f ms):=by
 walk_at "go"
 refine PE.imp0 (zeh Fn hr hg hm hkp hb .nil hx ha hdb he hpl) λ σ H Q ⟨tv,hs,ρ,s,M,W⟩=>⟨tv,hs,ρ,s,M, ?_⟩
 delta Z2 bd at W
 cases e1:W8 ms s with
 |ex d s1=>rw[e1] at W;exact W
 |no=>rw[e1] at W;exact W
 |ok ts s1=>
  rw[e1] at W
  intro ρ1 vs H1 M1
  rw[l7]
  exact zas (by rw[<-M1.rd.length,zat ms s ts s1 e1,hln]) M1 W
def zlV{P:bm}{w:bo}{K:W.Frag}{mg:Str->Option bc}{base:Heap}{x qual:Str}{st:Stmt}{fa:Addr}{fd:bB}{N ps:List Str}{k:Nat}{mb:MS}(Fn:Fun K x qual st fa fd)(S:Y9 N ps (Z4 st))(hG:G.K=K)
 (hb: ∀(cdv:bc) (A:bu) (outer:List cY) (s:be) (H:Hp) (E:XK) (F:Fy),z4h k (A.deeper (envOfC qual (Z4 st) s.heap.objs.size fa cdv))->SSs (zdk CX0 P w K mg base N qual (Z4 st) fa cdv A outer s H E).nox G F (z0G st) mb):
 z0F P w K mg base CX0 (k+1) fa fd ps (spM G ps.length (z2c N.length mb)):=by
 walk_at "go"
 refine Fn.ok S (λvs H Q E h=>h.1) λcdv A outer s H vs Q E hr h=> ?_
 obtain⟨hl,ρ,n,ts,r,inj,dom,lb,kd,W⟩:=h
 refine⟨_,hb cdv A outer s H E (zck G ρ n ts vs H lb dom) hr,vs.map some,List.suffix_refl _,ρ,{σ:=ts.map some++B8 (N.length -ts.length) none,tm:=ts.map some,n:=n}, ?_, ?_⟩
 .obtain⟨r1,r2⟩:=RDs.sl r
  have hlen:=r.length
  have sub: ∀l∈V7 {σ:=ts.map some++B8 (N.length -ts.length) none,tm:=ts.map some,n:=n},l∈qq ts:=λl h=>by
   rcases l4.mp h with h|h
   .have h:l∈Y0 (ts.map some++B8 (N.length -ts.length) none):=h
    rw[Q4] at h
    rcases l4.mp h with h|h
    .rw[<-r2];exact h
    .exact absurd h (z3A _)
   .rw[<-r2];exact h
  refine⟨?_,r1,inj,dom,λl h=>lb l (sub l h),λl h=> .inl ⟨l,sub l h,rfl⟩,λa o e=>⟨⟨o,e⟩,λ_=>e⟩,kd,λl hl z=>z.2 l hl rfl,⟨i6 _,λl _=>rfl⟩⟩
  show Sl G ρ H _ (vs.map some++B8 (N.length -vs.length) none)
  rw[<-hlen]
  exact r1.append (Sl.none_map _)
 .delta z2c at W
  cases e:mb {σ:=ts.map some++B8 (N.length -ts.length) none,tm:=ts.map some,n:=n} with
  |nx s'=>
   erw[e] at W
   cases ea:Q5 s'.tm with
   |none=>erw[ea] at W
   |some ts'=>
    erw[ea] at W
    intro ρ' σv' H' M
    obtain⟨P,_⟩:=z89 inj M ea
    exact W ρ' .non H' P (by erw[RD]) λl h=>by simp[labs] at h
  |rt t s'=>
   erw[e] at W
   cases ea:Q5 s'.tm with
   |none=>erw[ea] at W
   |some ts'=>
    erw[ea] at W
    intro ρ' σv' v H' M
    obtain⟨P,own⟩:=z89 inj M.m ea
    exact W ρ' v H' P M.rd1 λl h=>⟨(M.lb1 l h).1,own l (M.lb1 l h).1 (M.lb1 l h).2⟩
  |bk s'=>erw[e] at W
  |ct s'=>erw[e] at W
  |ex d s'=>
   erw[e] at W
   cases ea:Q5 s'.tm with
   |none=>erw[ea] at W
   |some ts'=>erw[ea] at W
  |no=>erw[e] at W
variable{o:bi}{es:List bi}{apos cpos:bO}
def zaC{ob ix:bi}{pos tpos:bO}{mo mi me:M D}(he:SE X G F e me)(ho:SE X G F ob mo)(hi:SE X G F ix mi)(hg: ∀{to ti:TE},PE X ob to->PE X ix ti->PG X (.Subscript ob ix tpos) (zlj to ti zeo))(hs:cR [.Subscript ob ix tpos] e pos.line X.env=pure false:=by rfl)(hw:cS [.Subscript ob ix tpos] e X.env=pure none:=by rfl)
 (h1:(bw [.Subscript ob ix tpos] X.env).map (·.2)=[cc (.Subscript ob ix tpos) X.env]:=by rfl):SS X G F (.Assign [.Subscript ob ix tpos] e pos) (z20 me mo mi zeW):=by
 walk_at "go"
 refine PS.imp0 (zdg he (hg ho hi) hs hw h1) ?_
 rintro Dd σ H ⟨tv,h⟩
 exact(z4Z h).mono λv H1 h1=>h1.mono λo H2 h2=>h2.mono λi H3 ⟨ρ,s,t1,t2,t3,M,W⟩=>zhE M W
variable{ma mb mc m:M D}
def G7(hk:X.K=G.K)(ha:SE X G F a ma)(hb:SE X G F b mb):SE X G F (.BinOp a .Add b pos) (y4 ma mb K1):=by
 walk_at "go"
 exact z8V hk (r:=λx y H Q=>rI0 (λi j=> .int (i+j)) x y H Q\/zeC G.K x y H Q\/zk0 x y H Q\/∃i j,x= .str i/\y= .str j/\i.length+j.length<=qg/\Q (.str (i++j)) H) (hk▸OpR.or zgC (OpR.or zeD (OpR.or zgR z8K))) zhb ha hb
def zhV(hk:X.K=G.K)(ha:SE X G F a ma)(hb:SE X G F b mb):SE X G F (.BinOp a .Sub b pos) (y4 ma mb zdr):=by
 walk_at "go"
 exact z8V hk zgD zhc ha hb
def z7n(hk:X.K=G.K)(ha:SE X G F a ma)(hb:SE X G F b mb):SE X G F (.BinOp a .FloorDiv b pos) (y4 ma mb z4W):=by
 walk_at "go"
 exact z8V hk zec zeK ha hb
def z1p(hk:X.K=G.K)(ha:SE X G F a ma)(hb:SE X G F b mb):SE X G F (.BinOp a .Mod b pos) (y4 ma mb z3j):=by
 walk_at "go"
 exact z8V hk zgF zhd ha hb
def zaD(hk:X.K=G.K)(ha:SE X G F a ma)(hb:SE X G F b mb):SE X G F (.BinOp a .Pow b pos) (y4 ma mb zds):=by
 walk_at "go"
 exact z8V hk zgG zhe ha hb
def zhW(hk:X.K=G.K)(ha:SE X G F a ma):SE X G F (.UnaryOp .USub a pos) (bd ma zcd):=by
 walk_at "go"
 exact zk8 hk zgH zhh ha
def z6o(hc:Cm X G F op g)(ha:SE X G F a ma)(hb:SE X G F b mb)(hm:bL op b=false):SE X G F (.Compare a [op] [b] pos) (y4 ma mb g):=by
 walk_at "go"
 obtain⟨r,h1,h2⟩:=hc.h
 exact zeG h1 h2 ha hb hm
def j4(hc:Cm X G F op g)(ha:SE X G F a ma)(hb:SE X G F b mb)(hm:bL op b=false):SB X G F (.Compare a [op] [b] pos) (J4 (y4 ma mb g)):=by
 walk_at "go"
 obtain⟨r,h1,h2⟩:=hc.h
 exact zeP h1 h2 ha hb hm
def zdH(hk:X.K=G.K)(ha:SE X G F a ma)(hb:SE X G F b mb)(hs:z2y b):SE X G F (.Subscript a b pos) (y4 ma mb ixD):=by
 walk_at "go"
 exact zk9 hk (hk▸IxR.or zen zgP) zke ha hb hs
def z6p{x:Str}{p:bO}{es:List bi}{ms:List (M D)}{g:List D->M D}{id:String}(hk:X.K=G.K)(hc:Cb X G F (.builtin id) g)(hgl:Gl X x)(hm:X.mg x=none)(hv:bF x=some (.builtin id))(ha:SA X G F (e::es) (W8 ms))(hn:x≠ "__name__" :=by decide)(hdb:(x==("__debug__" :Str))=false:=by decide)
 (he:bh (e::es) X.env=(false,bC e X.env)::bh es X.env:=by rfl) (hpl:(bK pos (bh es X.env)).any (·.1)=false:=by rfl):SE X G F (.Call (.Name x p) (e::es) [] pos) (mCB ms g):=by
 walk_at "go"
 obtain⟨r,h1,h2⟩:=hc.h
 exact zcb hk h1 h2 hgl hm hv ha hn hdb he hpl
def z38{p:bO}(hk:X.K=G.K)(hc:Cb X G F (.type T) g)(hgl:Gl X x)(hm:X.mg x=none)(hv:bF x=some (.type T))(ha:SA X G F (e::es) (W8 ms))(hn:x≠ "__name__" :=by decide)(hdb:(x==("__debug__" :Str))=false:=by decide)
 (he:bh (e::es) X.env=(false,bC e X.env)::bh es X.env:=by rfl) (hpl:(bK pos (bh es X.env)).any (·.1)=false:=by rfl):SE X G F (.Call (.Name x p) (e::es) [] pos) (mCB ms g):=by
 walk_at "go"
 obtain⟨r,h1,h2⟩:=hc.h
 exact zam hk h1 h2 hgl hm hv ha hn hdb he hpl
def z0e{name:Str}{id:String}{mo:M D}{ms:List (M D)}{g:D->List D->M D}(hk:X.K=G.K)(slot:Slot "list" name id)(hty:dv (.builtin id)=pure (.type "method_descriptor"))(hm:Cl X G F id g)(ho:SE X G F o mo)(ha:SA X G F (e::es) (W8 ms))
 (hbase:bR o name X.env (bC o X.env)=bC o X.env:=by rfl)
 (hfew:((bK cpos (bh (e::es) X.env)).all (λx=> !x.1)&&(dR cpos (cK [] X.env)).all (λx=>x.1.isSome)
  &&decide ((e::es).length+([]:List cC).length+(if([]:List cC).isEmpty then 0 else 1)<30))=true:=by rfl)
 (hline:(apos.endLine==cpos.line)=true:=by rfl) (hs:bh (e::es) X.env=(false,bC e X.env)::bh es X.env:=by rfl) (hplain:(bK cpos (bh es X.env)).any (·.1)=false:=by rfl):SE X G F (.Call (.Attribute o name apos) (e::es) [] cpos) (Q2 mo ms g):=by
 walk_at "go"
 obtain⟨r,h1,h2⟩:=hm.h
 exact zeV hk slot hty h1 h2 ho ha hbase hfew hline hs hplain
def zhX{name:Str}{id:String}{mo:M D}{g:D->List D->M D}(hk:X.K=G.K)(slot:Slot "list" name id)(hty:dv (.builtin id)=pure (.type "method_descriptor"))(hm:Cl X G F id g)(ho:SE X G F o mo)
 (hbase:bR o name X.env (bC o X.env)=bC o X.env:=by rfl) (hline:(apos.endLine==cpos.line)=true:=by rfl):SE X G F (.Call (.Attribute o name apos) [] [] cpos) (Q2 mo [] g):=by
 walk_at "go"
 obtain⟨r,h1,h2⟩:=hm.h
 exact zcm hk slot hty h1 h2 ho hbase hline
def z1q(hk:X.K=G.K)(hu:X.A.units+64<cLine)(ha:SE X G F a ma)(hb:SE X G F b mb)(hs:z2y b):SE X G F (.Subscript a b pos) (y4 ma mb z08):=by
 walk_at "go"
 exact PE.imp hk (zeu (show X.A.units+2<cLine by lia) ha hb hs) λ_ _ _ h=>zak zhL h
def z55(hk:X.K=G.K):SE X G F (.Dict [] [] pos) z2G:=by
 walk_at "go"
 exact PE.imp hk zc0 λ σ H Q ⟨tv,hs,ρ,s,M,W⟩ p hp k=>by
  refine wM.out (ρ:=ext ρ s.n p) W (M.new hp k) ?_ λl hl=> ?_
  .erw[RD]
   rw[g9]
   exact⟨rfl, .inr ⟨[],Z3,rfl,by simp[RDs]⟩⟩
  .erw[labs,qq,l7,m4] at hl
   rw[hl]
   exact⟨B2 _,by rw[g9];exact .inr (M.fresh0 hp)⟩
def z23{ob ix:bi}{pos tpos:bO}{mo mi me:M D}(hu:X.A.units+64<cLine)(he:SE X G F e me)(ho:SE X G F ob mo)(hi:SE X G F ix mi)(hs:bQ e (some (.Subscript ob ix tpos)) pos.line X.env=pure false:=by rfl):
 SS X G F (.Assign [.Subscript ob ix tpos] e pos) (z20 me mo mi z00):=by
 walk_at "go"
 refine PS.imp0 (z76 (show X.A.units+2<cLine by lia) ho hi he hs) ?_
 rintro Dd σ H ⟨tv,h⟩
 exact(z4Z h).mono λv H1 h1=>h1.mono λo H2 h2=>h2.mono λi H3 ⟨ρ,s,t1,t2,t3,M,W⟩=>zf2 M W
variable{kx vx:bi}
def z56(hK:X.K=G.K)(hu:X.A.units+64<cLine)(hk:SE X G F kx mk)(hv:SE X G F vx mv):SE X G F (.Dict [some kx] [vx] pos) (K6 mk mv):=by
 walk_at "go"
 exact PE.imp hK (zaa (show X.A.units+2<cLine by lia) hk hv) λ_ _ _ h=>hK▸zcp h
def zfb{i:Nat}(hN:X.N.Nodup)(hi:X.N[i]? =some x)(hx:Loc X.env.scope x)(hf:X.fn x=true\/X.env.scope.names.lookup x=some .local)(he:SE X G F e m)(hs:bQ e (some (.Name x p)) pos.line X.env=pure false:=by rfl):SS X G F (.Assign [.Name x p] e pos) (Y1 (.nm i) m):=by
 walk_at "go"
 exact Mi.ss_set (λ{te} h=>z2e hN hi hx h hs hf) he
end
inductive SEs(X:Cx)(G:Gx)(F:Fy):List bi->List (M D)->Prop
 |nil:SEs X G F [] []
 |cons {e:bi} {m:M D} {es:List bi} {ms:List (M D)}:SE X G F e m->nst e=true->SEs X G F es ms->SEs X G F (e::es) (m::ms)
def zlW(h:SEs X G F es ms):Mi.SEs X G F es ms:=by
 induction h with
 |nil=>exact .nil
 |cons h n _ ih=>rw[eSE] at h;exact .cons h n ih
def sa_of{X:Cx}{G:Gx}(hk:X.K=G.K)(h:SEs X G F es ms):SA X G F es (W8 ms):=by
 rw[eSA];exact Mi.sa_of hk (zlW h)
section
variable{X:Cx}{G:Gx}{F:Fy}{e:bi}{pos pos' tpos:bO}
def zfc{i:Nat}(hN:X.N.Nodup)(hi:X.N[i]? =some x)(hx:Loc X.env.scope x)(hf:X.fn x=true\/X.env.scope.names.lookup x=some .local)(he:SE X G F e m):SS X G F (.AugAssign (.Name x pos') .Add e pos) (z94 i m):=by
 rw[eSS];rw[eSE] at he
 refine PS.imp0 (zgz hN hi hx he zgA hf) ?_
 rintro D σ H ⟨tv,hs,ρ,s,M,W⟩
 delta z94 at W
 split at W
 .rename_i a ea
  obtain⟨v,h1,h2⟩:=M.sl.get i _ ea
  erw[RD] at h2
  subst h2
  refine⟨.int a,h1,tv,(z19 (m:=m) (f:=zhO i a) ⟨hs,ρ,s,M,W⟩).mono λv H1 ⟨ρ1,s1,t,M1,W1⟩=> ?_⟩
  delta zhO at W1
  split at W1
  .rename_i b
   obtain⟨v',e',h,_⟩:=M1.one
   cases e'
   erw[RD] at h
   subst h
   have M2:MRL G F.toFx ρ1 H1 σ tv s1 [.int (a+b)] [.int (a+b)]:=⟨M1.m,RDs.one (by erw[RD]),λl hl=>by simp[qq,labs] at hl⟩
   exact⟨a,b,rfl,rfl,W1 ρ1 _ H1 (M2.setS i).m⟩
  .exact False.elim W1
 .exact False.elim W
variable{a b c d:bi}{p:bO}{m ma mb mc md:M D}
def sv i{x:Str}(hk:X.K=G.K:=by rfl)(hN:X.N[i]? =some x:=by rfl)(hv:Vis X.env.scope x:=by first|exact Or.inl rfl|exact Or.inr (Or.inl rfl)|exact Or.inr (Or.inr rfl))(hd:(x==("__debug__" :Str))=false:=by decide)(hcd:(x==("__classdict__" :Str))=false:=by decide):SE X G F (.Name x pos) (y0 i):=zhT i hk (pv i hN hv hd hcd)
def s1(h:SE X G F a ma)(n:nst a=true:=by rfl)(hk:X.K=G.K:=by rfl):SA X G F [a] (W8 [ma]):=sa_of hk (.cons h n .nil)
def s2(h:SE X G F a ma)(h2:SE X G F b mb)(n:nst a=true:=by rfl)(n2:nst b=true:=by rfl)(hk:X.K=G.K:=by rfl):SA X G F [a,b] (W8 [ma,mb]):=sa_of hk (.cons h n (.cons h2 n2 .nil))
def s3(h:SE X G F a ma)(h2:SE X G F b mb)(h3:SE X G F c mc)(n:nst a=true:=by rfl)(n2:nst b=true:=by rfl)(n3:nst c=true:=by rfl)(hk:X.K=G.K:=by rfl):SA X G F [a,b,c] (W8 [ma,mb,mc]):=sa_of hk (.cons h n (.cons h2 n2 (.cons h3 n3 .nil)))
def s4(h:SE X G F a ma)(h2:SE X G F b mb)(h3:SE X G F c mc)(h4:SE X G F d md)(n:nst a=true:=by rfl)(n2:nst b=true:=by rfl)(n3:nst c=true:=by rfl)(n4:nst d=true:=by rfl)(hk:X.K=G.K:=by rfl):SA X G F [a,b,c,d] (W8 [ma,mb,mc,md]):=sa_of hk (.cons h n (.cons h2 n2 (.cons h3 n3 (.cons h4 n4 .nil))))
def sst i{x:Str}(hN:X.N.Nodup)(he:SE X G F e m)(hi:X.N[i]? =some x:=by rfl)(hx:Loc X.env.scope x:=by exact Or.inl rfl)(hs:bQ e (some (.Name x p)) pos.line X.env=pure false:=by rfl)(hf:X.fn x=true\/X.env.scope.names.lookup x=some .local:=by first|exact .inl rfl|exact .inr rfl|assumption):SS X G F (.Assign [.Name x p] e pos) (Y1 (.nm i) m):=
 ss_set (λ{te} h=>z2e hN hi hx h hs hf) he
def sgn i{x:Str}(hN:X.N.Nodup)(hi:X.N[i]? =some x:=by rfl)(hx:Loc X.env.scope x:=by exact Or.inl rfl)(hf:X.fn x=true\/X.env.scope.names.lookup x=some .local:=by first|exact .inl rfl|exact .inr rfl|assumption):SG X G F (.Name x pos) (.nm i):=z0J (z0E hN hi hx hf)
def sln(hm:X.mg "len" =none)(ha:SA X G F (e::es) (W8 ms))(hgl:Gl X "len" :=by rfl)(he:bh (e::es) X.env=(false,bC e X.env)::bh es X.env:=by rfl)(hpl:(bK pos (bh es X.env)).any (·.1)=false:=by rfl)(hk:X.K=G.K:=by rfl):SE X G F (.Call (.Name "len" p) (e::es) [] pos) (mCB ms X8):=
 z6p hk (zhF hk) hgl hm PyProof.Rows.Boot.«len» ha (by decide) (by decide) he hpl
def sc0{v:V}{d:D}(h:PE X e (tC v))(hd:cV d=some v:=by rfl)(hk:X.K=G.K:=by rfl):SE X G F e (mC d):=zki hk h hd
def sxc(ha:SE X G F a ma)(h:PE X b (tC v))(hd:cV q=some v:=by rfl)(hs:z2y b:=by exact λ_ _=>rfl)(hk:X.K=G.K:=by rfl):SE X G F (.Subscript a b pos) (y4 ma (mC q) ixD):=zdH hk ha (zki hk h hd) hs
def sxx(ha:SE X G F a ma)(hb:SE X G F b mb)(hs:z2y b:=by exact λ_ _=>rfl)(hk:X.K=G.K:=by rfl):SE X G F (.Subscript a b pos) (y4 ma mb ixD):=zdH hk ha hb hs
variable{P:bm}{w:bo}{K:W.Frag}{mg:Str->Option bc}{base:Heap}{x qual:Str}{st:Stmt}{fa:Addr}{fd:bB}{N ps:List Str}{k np:Nat}{f:FM}
def okM(mb:MS)(Fn:Fun K x qual st fa fd)(S:Y9 N ps (Z4 st))(hb: ∀cdv A outer s H (E:XK) F,z4h k (A.deeper (envOfC qual (Z4 st) s.heap.objs.size fa cdv))->SSs (zdk CX0 P w K mg base N qual (Z4 st) fa cdv A outer s H E).nox G F (z0G st) mb)(hG:G.K=K:=by rfl)(hf:f=z2c N.length mb:=by rfl)(hn:np=ps.length:=by rfl):
 z0F P w K mg base CX0 (k+1) fa fd ps (spM G np f):=by
 subst hf hn;exact zlV Fn S hG hb
variable{o:bi}{apos cpos:bO}{mo mi mx:M D}
def zcz(hk:X.K=G.K):SE X G F (.Dict [] [] pos) zcq:=by
 rw[eSE]
 exact PE.imp hk zbZ λ σ H Q ⟨tv,hs,ρ,s,M,W⟩ p hp k=>by
  refine wM.out (ρ:=ext ρ s.n p) W (M.new hp k) ?_ λl hl=> ?_
  .erw[RD]
   rw[g9]
   exact⟨rfl, .inl ⟨[],Z3,rfl,by simp[RDs]⟩⟩
  .erw[labs,qq,l7,m4] at hl
   rw[hl]
   exact⟨B2 _,by rw[g9];exact .inr (M.fresh0 hp)⟩
def zcA{ob ix:bi}{pos tpos:bO}{me:M D}(hu:X.A.units+64<cLine)(he:SE X G F e me)(ho:SE X G F ob mo)(hi:SE X G F ix mi)(hs:bQ e (some (.Subscript ob ix tpos)) pos.line X.env=pure false:=by rfl):
 SS X G F (.Assign [.Subscript ob ix tpos] e pos) (z20 me mo mi z6h):=by
 rw[eSS];rw[eSE] at he ho hi
 refine PS.imp0 (z76 (show X.A.units+2<cLine by lia) ho hi he hs) ?_
 rintro Dd σ H ⟨tv,h⟩
 exact(z4Z h).mono λv H1 h1=>h1.mono λo H2 h2=>h2.mono λi H3 ⟨ρ,s,t1,t2,t3,M,W⟩=>zcr M W
variable{tg iter elt:bi}
def zfd(hk:X.K=G.K)(hu:X.A.units+64<cLine)(ho:SE X G F o mo)(ha:SE X G F a mi)(hb:SE X G F b mx)(m:M2 X o "get" apos a b cpos):SE X G F (.Call (.Attribute o "get" apos) [a,b] [] cpos) (z53 mo mi mx):=by
 rw[eSE];rw[eSE] at ho ha hb
 exact PE.imp hk (zc2 (show X.A.units+2<cLine by lia) ho ha hb m) λ_ _ _ h=>zcs h
def z8f{ob ix:bi}{pos tpos:bO}{mo mi me:M D}(hu:X.A.units+64<cLine)(he:SE X G F e me)(ho:SE X G F ob mo)(hi:SE X G F ix mi)(hs:bQ e (some (.Subscript ob ix tpos)) pos.line X.env=pure false:=by rfl):
 SS X G F (.Assign [.Subscript ob ix tpos] e pos) (z20 me mo mi z54):=by
 erw[eSE,eSA,eSB,eSW,eSS,zhR,eSG,zhS,eSI,eSO,zdE] at*
 refine PS.imp0 (z76 (show X.A.units+2<cLine by lia) ho hi he hs) ?_
 rintro Dd σ H ⟨tv,h⟩
 exact(z4Z h).mono λv H1 h1=>h1.mono λo H2 h2=>h2.mono λi H3 ⟨ρ,s,t1,t2,t3,M,W⟩=>zcv M W
def zaE{body:List Stmt}{m0:M D}{g:Tg}{mb:MS}(hp:cw (bj X.prog X.w) X.A X.env X.xe)(hc:X.calm=true)(hl:SE X G F iter m0)(hg: ∀F:Fy,SG X G F tg g)(hb: ∀F:Fy,SSs X G F body mb)
 (hst: ∀x,br iter X.env x=pure x:=by intro _;rfl):SS X G F (.For tg iter body [] pos) (V8 (z01 m0) g mb):=by
 erw[eSE,eSA,eSB,eSW,eSS,zhR,eSG,zhS,eSI,eSO,zdE] at*
 refine PS.imp0 (z9I (g:=tGx G g) (tb:=tSx G mb) hp hc (za5 hl) (λqx s σ H v u Q I r ⟨F',q⟩=>hg F' qx s σ H v u Q I r q) (λqx s σ H D I ⟨F',q⟩=>hb F' qx s σ H D I q) hst) λD σ H h=> ?_
 obtain⟨tv,hs,ρ,s,M,W⟩:=h
 refine⟨tv,hs,ρ,s,M, ?_⟩
 unfold V8 z1o z01 bd at W
 cases em:m0 s with
 |ex d s1=>rw[em] at W;exact W
 |no=>rw[em] at W;exact W
 |ok t s0=>
  rw[em] at W
  dsimp only at W
  intro ρ1 v H1 M0
  cases t with
  |dct l ks vs=>
   dsimp only at W
   by_cases hc:isT ks=true/\qq vs=[]
   .rw[qy hc] at W
    dsimp only at W
    obtain⟨hT,hvs⟩:=hc
    have rd0:=M0.rd1
    obtain⟨rfl,kvs,hx,hks,r⟩:=rd0.dctq hT
    have bl:=M0.lb1 l (by erw[labs];exact l6 ..)
    refine⟨ρ1 l,kvs,rfl,hx,λu=> ?_⟩
    have st:V9 H1 (upd H1 (ρ1 l) (.frz u (.dT kvs))):=
     ⟨λb ys q=>by rw[Z5 (z0Z q hx (by intro z;cases z))];exact q,λb o w q=>by rw[Z5 (z0Z q hx (by intro z;cases z))];exact q⟩
    have rdF:RD G ρ1 (upd H1 (ρ1 l) (.frz u (.dT kvs))) (.fdc ks vs) (.ref (ρ1 l)):=by
     erw[RD]
     exact⟨ρ1 l,u,_,_,rfl,Z3, .inr ⟨kvs,rfl,hks,rfl⟩,RDs.stay st _ _ r λj hj=>by rw[hvs] at hj;cases hj⟩
    have lbF: ∀j∈labs (.fdc ks vs),j<s0.n/\(F.A0 (ρ1 j)\/F.H0 (ρ1 j)=none):=λj hj=>by erw[labs,hvs] at hj;cases hj
    have M2:MR G F.toFx ρ1 (upd H1 (ρ1 l) (.frz u (.dT kvs))) σ tv (s0.put l (.fdc ks vs)):=M0.m.put2 bl.1 bl.2 st (z4z M0.m.kd hx) rdF lbF
    have M3:MR G F.toFx ρ1 (upd H1 (ρ1 l) (.frz u (.dT kvs))) σ (some (.ref (ρ1 l))::tv) ((s0.put l (.fdc ks vs)).psh (.fdc ks vs)):=
     MRL.push ⟨M2,RDs.one rdF,λj hj=>by erw[qq,l7] at hj;exact lbF j hj⟩
    have M1:MR G (F.frz (ρ1 l) (.frz u (.dT kvs)) bl.2 (M0.m.frb l bl.1)).toFx ρ1 (upd H1 (ρ1 l) (.frz u (.dT kvs))) σ ([some (.ref (ρ1 l))]++tv) ((s0.put l (.fdc ks vs)).psh (.fdc ks vs)):=M3.frzIn Z3 ⟨_,_,rfl⟩
    generalize hs1:(s0.put l (.fdc ks vs)).psh (.fdc ks vs)=s1 at M1 W
    generalize hF1:F.frz (ρ1 l) (.frz u (.dT kvs)) bl.2 (M0.m.frb l bl.1)=F1 at M1
    have out: ∀{ρ H σ s},MR G F1.toFx ρ H σ tv s->MR G F.toFx ρ H σ tv s:=by subst hF1;exact λh=>h.frzOut
    have outL: ∀{ρ H σ s ts vs},MRL G F1.toFx ρ H σ tv s ts vs->MRL G F.toFx ρ H σ tv s ts vs:=by subst hF1;exact λh=>h.frzOut
    have at': ∀{ρ H σ tv s},MR G F1.toFx ρ H σ tv s->H (ρ1 l)=some (.frz u (.dT kvs)):=by subst hF1;exact λh=>h.frzAt
    have exw:F1.xw=F.xw:=by subst hF1;rfl
    have et:F1.tv0=F.tv0:=by subst hF1;rfl
    refine⟨λi m σ H=> ∃ρ s,MR G F1.toFx ρ H σ ([some (.ref (ρ1 l))]++tv) s/\wS G F tv (forGo kDct g mb m i s) D,⟨_,ρ1,s1,M1,W⟩, ?_⟩
    rintro i m σ2 H2 ⟨ρ2,s2,M2',W2⟩
    have ok:=zaw (tvp:=[]) (a:=ρ1 l) (tv:=tv) M2' (at' M2') i
    erw[C8,L7,B0] at ok
    unfold forGo at W2
    cases e:kDct.at' i s2.tm with
    |none=>erw[e] at W2;exact False.elim W2
    |some o=>
     cases o with
     |none=>
      erw[e] at W2 ok
      exact .inl ⟨ok,W2 ρ2 σ2 H2 (out (MR.popn M2'))⟩
     |some d=>
      erw[e] at W2 ok
      cases m with
      |zero=>exact False.elim W2
      |succ f=>
       dsimp only at W2
       cases e2:asg g d s2.σ with
       |none=>erw[e2] at W2;exact False.elim W2
       |some σ'=>
        erw[e2] at W2
        refine .inr ⟨ok.1,λ σ H=> ∃ρ s,MR G F1.toFx ρ H σ ([some (.ref (ρ1 l))]++tv) s/\wS G F tv (forGo kDct g mb f (i+1) s) D,λ σ' H' q=>⟨f,B2 _,q⟩,λx H3 y=> ?_⟩
        refine⟨F1,[some (.ref (ρ1 l))]++tv,ρ2,s2,d,ok.2 x H3 y,σ',e2,λ σv' M3=>⟨F1,[some (.ref (ρ1 l))]++tv,by rw[et];exact hs.trans (R3 _ _),ρ2,_,M3, ?_⟩⟩
        cases e3:mb {s2 with σ:=σ'} with
        |nx s4=>erw[e3] at W2;exact λ ρ3 σ3 H3 M4=>⟨ρ3,s4,M4,W2⟩
        |ct s4=>erw[e3] at W2;exact λ ρ3 σ3 H3 M4=>⟨ρ3,s4,M4,W2⟩
        |bk s4=>erw[e3] at W2;exact λ ρ3 σ3 H3 M4=>W2 ρ3 σ3 H3 (out (MR.popn M4))
        |rt d s4=>erw[e3] at W2;exact λ ρ3 σ3 v H3 M4=>W2 ρ3 σ3 v H3 (outL (MRL.popn (tvs:=[some (.ref (ρ1 l))]) M4))
        |ex d s4=>erw[e3] at W2;show F1.xw d s4;rw[exw];exact W2
        |no=>erw[e3] at W2;exact W2
   .rw[qh hc] at W;exact False.elim W
  |_=>exact False.elim W
end
end My
namespace Mi
open PySem L2
section
variable{X:Cx}{G:Gx}{F:Fy}{a b tg:bi}{pos:bO}
def z9t:D->D->M D
 | .int i, .int j=>if zdh i j then rt (.int (i*j)) else fl
 |_,_=>fl
def zfe:zaj G F (rI zdh λi j=> .int (i*j)) z9t:=by
 intro ρ s t t' v u H σv tv Q M W
 delta z9t at W
 split at W
 .split at W
  .rename_i hc
   obtain⟨rfl,rfl⟩:=z66 M
   exact⟨_,_,rfl,rfl,hc,λ_=>W.flat M.m rfl⟩
  .exact wfl W
 .exact wfl W
def z6q{i j:Int}(h:zdh i j):z9t (.int i) (.int j) s= .ok (.int (i*j)) s:=by erw[z9t,qy h];rfl
end
end Mi
namespace My
open PySem L2 PySem.Spec PyProof.Rows Mi
section
variable{X:Cx}{G:Gx}{F:Fy}{a b:bi}{pos:bO}
def z3F(hk:X.K=G.K)(ha:SE X G F a ma)(hb:SE X G F b mb):SE X G F (.BinOp a .Mult b pos) (y4 ma mb z9t):=by
 erw[eSE,eSA,eSB,eSW,eSS,zhR,eSG,zhS,eSI,eSO,zdE] at*
 exact z8V hk zgE zfe ha hb
variable{tg iter elt ke ve:bi}{scope:Scope}{own qj:List Str}{ix:List Nat}{ifs:List bi}{mi:M ItK}{g:Tg}{mt:M Bool}{me mk mv:M D}
def cmQ(hi:SI X G F tg iter mi)
 (hg: ∀F cl C s₀ H₀ fp pn,SG (U6 X scope own qj cl C s₀ H₀ fp pn) G F tg g) (ht: ∀F cl C s₀ H₀ fp pn,STs (U6 X scope own qj cl C s₀ H₀ fp pn) G F ifs mt) (he: ∀F cl C s₀ H₀ fp pn,SE (U6 X scope own qj cl C s₀ H₀ fp pn) G F elt me)
 (S:z15 X.env.scope scope own qj X.N ix=true:=by kernel_rfl) (hk:X.K=G.K:=by rfl) (hc:X.calm=true:=by rfl) (hs: ∀x,br iter X.env x=pure x:=by intro _;rfl):SE X G F (.ListComp elt [⟨tg,iter,ifs,0⟩] scope pos) (V4 mi g mt me own.length ix):=by
 erw[eSE,eSG,eSI,zdE] at*
 exact PE.imp0 (zdq (g:=tGx G g) (tt:=tBx G mt) (te:=tMx G me) hc (z15.sc S) hi (λcl C s₀ H₀ fp pn qx s σ H v u Q I r ⟨F',q⟩=>hg F' cl C s₀ H₀ fp pn qx s σ H v u Q I r q)
  (λcl C s₀ H₀ fp pn qx s σ H Q I ⟨F',q⟩=>ht F' cl C s₀ H₀ fp pn qx s σ H Q I q) (λcl C s₀ H₀ fp pn qx s σ H Q I ⟨F',q⟩=>he F' cl C s₀ H₀ fp pn qx s σ H Q I q) hs) λ σ H Q h=>z87 hk h
def csQ{y:Str}{py spos:bO} i(hN:X.N.Nodup)(hi:SI X G F tg iter mi)
 (hg: ∀F cl C s₀ H₀ fp pn,SG (U6 X scope own qj cl C s₀ H₀ fp pn) G F tg g) (ht: ∀F cl C s₀ H₀ fp pn,STs (U6 X scope own qj cl C s₀ H₀ fp pn) G F ifs mt) (he: ∀F cl C s₀ H₀ fp pn,SE (U6 X scope own qj cl C s₀ H₀ fp pn) G F elt me)
 (hy:X.N[i]? =some y:=by rfl) (hx:Loc X.env.scope y:=by exact Or.inl rfl) (hfn:X.fn y=true\/X.env.scope.names.lookup y=some .local:=by exact Or.inl rfl) (hsw:bQ (.ListComp elt [⟨tg,iter,ifs,0⟩] scope pos) (some (.Name y py)) spos.line X.env=pure true:=by rfl)
 (S:z15 X.env.scope scope own qj X.N ix=true:=by kernel_rfl) (hk:X.K=G.K:=by rfl) (hc:X.calm=true:=by rfl) (hs: ∀x,br iter X.env x=pure x:=by intro _;rfl):SS X G F (.Assign [.Name y py] (.ListComp elt [⟨tg,iter,ifs,0⟩] scope pos) spos) (Y1 (.nm i) (V4 mi g mt me own.length ix)):=by
 erw[eSE,eSG,eSI,zdE,eSS] at*
 refine PS.imp0 (zh8 (i:=i) (g:=tGx G g) (tt:=tBx G mt) (te:=tMx G me) hN hy hx hfn hsw hc (z15.sc S) hi (λcl C s₀ H₀ fp pn qx s σ H v u Q I r ⟨F',q⟩=>hg F' cl C s₀ H₀ fp pn qx s σ H v u Q I r q)
  (λcl C s₀ H₀ fp pn qx s σ H Q I ⟨F',q⟩=>ht F' cl C s₀ H₀ fp pn qx s σ H Q I q) (λcl C s₀ H₀ fp pn qx s σ H Q I ⟨F',q⟩=>he F' cl C s₀ H₀ fp pn qx s σ H Q I q) hs) λDd σ H ⟨tv,h⟩=> ?_
 refine z87 hk ⟨tv,(z19 h).mono λv H1 ⟨ρ1,s1,t,M1,W⟩=> ?_⟩
 erw[asg] at W
 exact W ρ1 _ H1 (M1.setS i).m
def zls(hi:SE X G F iter m0)
 (hg: ∀F cl C s₀ H₀ fp pn,SG (U6 X scope own qj cl C s₀ H₀ fp pn) G F tg g) (ht: ∀F cl C s₀ H₀ fp pn,STs (U6 X scope own qj cl C s₀ H₀ fp pn) G F ifs mt) (he: ∀F cl C s₀ H₀ fp pn,SE (U6 X scope own qj cl C s₀ H₀ fp pn) G F elt me)
 (S:z15 X.env.scope scope own qj X.N ix=true:=by kernel_rfl) (hk:X.K=G.K:=by rfl) (hc:X.calm=true:=by rfl) (hs: ∀x,br iter X.env x=pure x:=by intro _;rfl):SE X G F (.ListComp elt [⟨tg,iter,ifs,0⟩] scope pos) (V4 (z01 m0) g mt me own.length ix):=by
 erw[eSE,eSG,zdE] at*
 exact PE.imp0 (zdq (g:=tGx G g) (tt:=tBx G mt) (te:=tMx G me) hc (z15.sc S) (za5 hi) (λcl C s₀ H₀ fp pn qx s σ H v u Q I r ⟨F',q⟩=>hg F' cl C s₀ H₀ fp pn qx s σ H v u Q I r q)
  (λcl C s₀ H₀ fp pn qx s σ H Q I ⟨F',q⟩=>ht F' cl C s₀ H₀ fp pn qx s σ H Q I q) (λcl C s₀ H₀ fp pn qx s σ H Q I ⟨F',q⟩=>he F' cl C s₀ H₀ fp pn qx s σ H Q I q) hs) λ σ H Q h=>zax hk h
end
end My
namespace L2
open PySem PySem.Spec PyProof.Rows
section
variable{X:Cx}{tg:bi}
def zkj(td:TE):TI:=λ σ H R=>td σ H λx H1=> ∃a kvs o,x= .ref a/\H1 a=some (.frz o (.dT kvs))/\R (ItD a o kvs) H1
def zff(hl:PE X l tl):PI X tg l (zkj tl):=by
 intro qx s σ H R I h
 refine thn (hl qx s σ H _ I h) ?_
 rintro v s1 ⟨x,H1,I1,r1,a,kvs,o,e,ha,q⟩
 subst e
 cases r1
 obtain⟨ho,hy,hc,es,ep,hd,hsz,_⟩:=za4 I1.hok ha
 refine z1s hy ho hc hd ?_
 have I3:Inv X qx σ H1 {s1 with heap:=s1.heap.push {cls:= .type "dict_keyiterator",data:= .fields #[.ref a, .int 0 0, .int es.size 0, .int ep 0]}}:=
  I1.kept (t':=s1.toks) λb u q=>Heap.get?_push_of_some _ q
 refine⟨s1.heap.objs.size,[s1.heap.objs.size],_,ItD a o kvs,_,rfl,I3,z61 a _ o es ep hd kvs,⟨_,Heap.get?_push_size _ rfl,rfl,rfl⟩,λb hb=> ?_,q⟩
 have e:b=s1.heap.objs.size:=by simpa using hb
 subst e
 exact I1.fpOk (i6 _) I1.fresh
end
end L2
namespace Mi
open PySem L2 PySem.Spec PyProof.Rows
section
variable{X:Cx}{G:Gx}{F:Fy}{tg iter:bi}{pos:bO}
def z39(m:M D):M ItK:=bd m λd s=>match d with
 | .fdc ks vs=>if isT ks=true then .ok kDct (s.psh (.fdc ks vs)) else .no
 |_=> .no
end
end Mi
namespace My
open PySem L2 PySem.Spec PyProof.Rows Mi
section
variable{X:Cx}{G:Gx}{F:Fy}{tg iter:bi}{pos:bO}
def zaF(hp:cw (bj X.prog X.w) X.A X.env X.xe)(hc:X.calm=true)(hl:SE X G F iter m0)(hg: ∀F:Fy,SG X G F tg g)(hb: ∀F:Fy,SSs X G F body mb)
 (hst: ∀x,br iter X.env x=pure x:=by intro _;rfl):SS X G F (.For tg iter body [] pos) (V8 (z39 m0) g mb):=by
 erw[eSE,eSA,eSB,eSW,eSS,zhR,eSG,zhS,eSI,eSO,zdE] at*
 refine PS.imp0 (z9I (g:=tGx G g) (tb:=tSx G mb) hp hc (zff hl) (λqx s σ H v u Q I r ⟨F',q⟩=>hg F' qx s σ H v u Q I r q) (λqx s σ H D I ⟨F',q⟩=>hb F' qx s σ H D I q) hst) λD σ H h=> ?_
 obtain⟨tv,hs,ρ,s,M,W⟩:=h
 refine⟨tv,hs,ρ,s,M, ?_⟩
 delta V8 z1o z39 bd at W
 cases em:m0 s with
 |ex d s1=>rw[em] at W;exact W
 |no=>rw[em] at W;exact W
 |ok t s0=>
  rw[em] at W
  dsimp only at W
  intro ρ1 v H1 M0
  cases t with
  |fdc ks vs=>
   dsimp only at W
   by_cases hc:isT ks=true
   .rw[qy hc] at W
    dsimp only at W
    have rd0:=M0.rd1
    erw[RD] at rd0
    obtain⟨a,u,w0,xs,rfl,hx,fz,r⟩:=rd0
    obtain⟨kvs,rfl,hk,hxs⟩|⟨kvs,rfl,hk,hxs⟩:=fz
    .rw[hk] at hc;simp[isT] at hc
    refine⟨a,kvs,u,rfl,hx, ?_⟩
    have w:F.A0 a\/F.H0 a=none\/F.H0 a=some (.frz u (.dT kvs)):=by
     by_cases q:F.A0 a
     .exact .inl q
     .cases e:F.H0 a with
      |none=>exact .inr (.inl rfl)
      |some o0=>
       have:=(M0.m.frm a o0 e).2 q
       rw[hx] at this
       exact .inr (.inr this.symm)
    have M1:=M0.push.frwIn hx ⟨_,_,rfl⟩
    generalize hs1:s0.psh (.fdc ks vs)=s1 at M1 W
    have exw:(F.frw a (.frz u (.dT kvs))).xw=F.xw:=rfl
    have et:(F.frw a (.frz u (.dT kvs))).tv0=F.tv0:=rfl
    have out: ∀{ρ H σ s},MR G (F.frw a (.frz u (.dT kvs))).toFx ρ H σ tv s->MR G F.toFx ρ H σ tv s:=λh=>h.frwOut w
    have outL: ∀{ρ H σ s ts vs},MRL G (F.frw a (.frz u (.dT kvs))).toFx ρ H σ tv s ts vs->MRL G F.toFx ρ H σ tv s ts vs:=λh=>h.frwOut w
    have at': ∀{ρ H σ tv s},MR G (F.frw a (.frz u (.dT kvs))).toFx ρ H σ tv s->H a=some (.frz u (.dT kvs)):=λh=>h.frwAt
    generalize F.frw a (.frz u (.dT kvs))=F1 at*
    refine⟨λi m σ H=> ∃ρ s,MR G F1.toFx ρ H σ ([some (.ref a)]++tv) s/\wS G F tv (forGo kDct g mb m i s) D,⟨_,ρ1,s1,M1,W⟩, ?_⟩
    rintro i m σ2 H2 ⟨ρ2,s2,M2',W2⟩
    have ok:=zaw (tvp:=[]) (a:=a) (tv:=tv) M2' (at' M2') i
    erw[C8,L7,B0] at ok
    unfold forGo at W2
    cases e:kDct.at' i s2.tm with
    |none=>erw[e] at W2;exact False.elim W2
    |some o=>
     cases o with
     |none=>
      erw[e] at W2 ok
      exact .inl ⟨ok,W2 ρ2 σ2 H2 (out (MR.popn M2'))⟩
     |some d=>
      erw[e] at W2 ok
      cases m with
      |zero=>exact False.elim W2
      |succ f=>
       dsimp only at W2
       cases e2:asg g d s2.σ with
       |none=>erw[e2] at W2;exact False.elim W2
       |some σ'=>
        erw[e2] at W2
        refine .inr ⟨ok.1,λ σ H=> ∃ρ s,MR G F1.toFx ρ H σ ([some (.ref a)]++tv) s/\wS G F tv (forGo kDct g mb f (i+1) s) D,λ σ' H' q=>⟨f,B2 _,q⟩,λx H3 y=> ?_⟩
        refine⟨F1,[some (.ref a)]++tv,ρ2,s2,d,ok.2 x H3 y,σ',e2,λ σv' M3=>⟨F1,[some (.ref a)]++tv,by rw[et];exact hs.trans (R3 _ _),ρ2,_,M3, ?_⟩⟩
        cases e3:mb {s2 with σ:=σ'} with
        |nx s4=>erw[e3] at W2;exact λ ρ3 σ3 H3 M4=>⟨ρ3,s4,M4,W2⟩
        |ct s4=>erw[e3] at W2;exact λ ρ3 σ3 H3 M4=>⟨ρ3,s4,M4,W2⟩
        |bk s4=>erw[e3] at W2;exact λ ρ3 σ3 H3 M4=>W2 ρ3 σ3 H3 (out (MR.popn M4))
        |rt d s4=>erw[e3] at W2;exact λ ρ3 σ3 v H3 M4=>W2 ρ3 σ3 v H3 (outL (MRL.popn (tvs:=[some (.ref a)]) M4))
        |ex d s4=>erw[e3] at W2;show F1.xw d s4;rw[exw];exact W2
        |no=>erw[e3] at W2;exact W2
   .rw[qh hc] at W;exact False.elim W
  |_=>exact False.elim W
end
def top(i:Nat):Stmt:=PySem.Challenge.pw_signbench_k05_fewest_keys.main.body.getD i (.Pass ⟨0,0,0,0⟩)
abbrev z1c:Stmt:=top 2
abbrev z1d:Stmt:=top 3
abbrev z0f:Stmt:=top 4
abbrev z3G:Stmt:=top 5
abbrev z1w:Stmt:=top 6
abbrev z1x:Stmt:=top 7
abbrev z0g:Stmt:=top 8
abbrev z24:Stmt:=top 9
abbrev G2:Stmt:=top 10
abbrev z0h:Stmt:=top 11
abbrev z7o:Stmt:=top 13
abbrev z57:Stmt:=top 14
abbrev z3H:Stmt:=top 15
abbrev z25:Stmt:=top 16
abbrev z58:Stmt:=top 17
abbrev z59:Stmt:=top 18
abbrev z2H:Stmt:=top 19
abbrev z3I:Stmt:=top 20
abbrev z3J:Stmt:=top 21
abbrev z2I:Stmt:=top 22
abbrev z3K:Stmt:=top 23
abbrev z3L:Stmt:=top 24
abbrev z5a:Stmt:=top 25
abbrev z2J:Stmt:=top 26
abbrev z2K:Stmt:=top 27
abbrev zfg:Stmt:=top 28
abbrev z5b:List Str:=["table", "keys", "sounds", "lost", "rest", "told", "gone"]
abbrev z1e:List Str:=["table", "keys"]
abbrev z5c:List Str:=["table", "keys", "row"]
abbrev z1f:List Str:=["table", "keys"]
abbrev z3M:List Str:=["table", "keys", "best", "row"]
abbrev z0i:List Str:=["table", "keys"]
abbrev zaG:List Str:=["table", "waiting", "key", "sounds", "lost", "rest", "told", "gone"]
abbrev z3N:List Str:=["table", "waiting", "key"]
abbrev z32:List Str:=["table", "keys"]
abbrev z1y:List Str:=z32
abbrev z33:List Str:=["table", "waiting"]
abbrev z1z:List Str:=z33
abbrev z3O:List Str:=["table", "sounds", "ways", "place", "waiting", "made", "lost"]
abbrev z0j:List Str:=["table", "sounds"]
abbrev z7p:List Str:=["table", "sounds", "start", "ways", "found", "presses", "done", "standing", "place", "waiting", "key", "told", "then", "reached"]
abbrev z26:List Str:=["table", "sounds"]
abbrev z0Q:List Str:=["table", "waiting", "found", "key", "sounds", "lost", "then"]
abbrev G3:List Str:=["table", "waiting"]
abbrev z3P:List Str:=["ways", "standing", "keys", "many", "ahead", "key"]
abbrev z0k:List Str:=["ways", "standing"]
abbrev zfh:List Str:=["_law_script", "_law_at", "_law_cell", "_law_mix", "_law_k"]
abbrev z7q:List Str:=["_law_script", "_law_at"]
abbrev zcB:List Str:=["_law_bag_here", "_law_many", "_law_digit"]
abbrev z5d:List Str:=["_law_bag_here", "_law_many"]
abbrev zaH:List Str:=["_law_bag_here", "_law_wide", "_law_letters", "_law_first", "_law_top", "_law_found", "_law_k", "_law_turn", "_law_keys", "_law_sounds_here", "_law_left"]
abbrev z3Q:List Str:=["_law_bag_here"]
abbrev z7r:List Str:=["_law_bag_here", "_law_table_here", "_law_most", "_law_some", "_law_keys", "_law_sounds_here", "_law_left", "_law_found", "_law_k", "_law_other"]
abbrev z27:List Str:=["_law_bag_here", "_law_table_here", "_law_most"]
abbrev zcC:List Str:=["_law_table_here", "_law_keys", "_law_best", "_law_told", "_law_left", "_law_row"]
abbrev z5e:List Str:=["_law_table_here", "_law_keys"]
abbrev zcD:List Str:=["_law_table_here", "_law_keys", "_law_sounds_here", "_law_lost", "_law_left", "_law_more", "_law_gone"]
abbrev z5f:List Str:=["_law_table_here", "_law_keys"]
abbrev z95:List Str:=["_law_table_here", "_law_found", "_law_row", "_law_length"]
abbrev z2L:List Str:=["_law_table_here"]
abbrev zaI:List Str:=["_law_table_here", "_law_starts_here", "_law_waiting", "_law_key", "_law_sounds_here", "_law_lost", "_law_left", "_law_more", "_law_gone"]
abbrev z3R:List Str:=["_law_table_here", "_law_starts_here", "_law_waiting", "_law_key"]
abbrev z6r:List Str:=["_law_thing"]
abbrev z3S:List Str:=z6r
abbrev z96:List Str:=["_law_bag_here", "_law_table_here", "_law_most", "_law_way", "_law_some", "_law_keys", "_law_sounds_here", "_law_left", "_law_many", "_law_found", "_law_k", "_law_other"]
abbrev z2M:List Str:=["_law_bag_here", "_law_table_here", "_law_most"]
abbrev zaJ:List Str:=["_law_table_here", "_law_starts_here", "_law_keys", "_law_row", "_law_key", "_law_found", "_law_waiting", "_law_some", "_law_told", "_law_lost", "_law_left"]
abbrev z3T:List Str:=["_law_table_here", "_law_starts_here"]
abbrev zaK:List Str:=["_law_steps_here", "_law_sounds_here", "_law_place", "_law_waiting", "_law_found", "_law_key", "_law_told", "_law_left"]
abbrev z3U:List Str:=["_law_steps_here", "_law_sounds_here", "_law_place", "_law_waiting"]
abbrev zcE:List Str:=["_law_steps_here", "_law_sounds_here", "_law_found", "_law_edge", "_law_more", "_law_place", "_law_waiting", "_law_key", "_law_goal"]
abbrev z5g:List Str:=["_law_steps_here", "_law_sounds_here"]
abbrev z97:List Str:=["_law_table_here", "_law_steps_here", "_law_sounds_here", "_law_ways_here", "_law_ahead", "_law_place", "_law_waiting", "_law_key", "_law_goal", "_law_found", "_law_edge", "_law_more", "_law_standing"]
abbrev z2N:List Str:=["_law_table_here", "_law_steps_here", "_law_sounds_here"]
abbrev z98:List Str:=["_law_table_here", "_law_sounds_here", "_law_steps_here", "_law_wanted_here", "_law_here", "_law_keys", "_law_turn", "_law_some"]
abbrev z2O:List Str:=["_law_table_here", "_law_sounds_here"]
abbrev zkk:List Str:=["_law_script", "_law_k", "_law_bag_here", "_law_table_here", "_law_sounds_here", "_law_due", "_law_handed", "_law_turn", "_law_told"]
abbrev zfi:List Str:=["_law_script"]
local macro_rules | `(tactic| walk_at "sc") => `(tactic| exact ⟨rfl, rfl, rfl, by decide +kernel, rfl, by decide +kernel, by decide +kernel⟩)
def J5:Y9 z5b z1e (Z4 z1c):=by walk_at "sc"
def z1T:Y9 z5c z1f (Z4 z1d):=by walk_at "sc"
def V6:Y9 z3M z0i (Z4 z0f):=by walk_at "sc"
def k6:Y9 zaG z3N (Z4 z3G):=by walk_at "sc"
def z5h:Y9 z32 z1y (Z4 z1w):=by walk_at "sc"
def z5i:Y9 z33 z1z (Z4 z1x):=by walk_at "sc"
def J2:Y9 z3O z0j (Z4 z0g):=by walk_at "sc"
def Y7:Y9 z7p z26 (Z4 z24):=by walk_at "sc"
def Y3:Y9 z0Q G3 (Z4 G2):=by walk_at "sc"
def Q1:Y9 z3P z0k (Z4 z0h):=by walk_at "sc"
def z1g:Y9 zfh z7q (Z4 z7o):=by walk_at "sc"
def z6s:Y9 zcB z5d (Z4 z57):=by walk_at "sc"
def G4:Y9 zaH z3Q (Z4 z3H):=by walk_at "sc"
def G8:Y9 z7r z27 (Z4 z25):=by walk_at "sc"
def K7:Y9 zcC z5e (Z4 z58):=by walk_at "sc"
def z0l:Y9 zcD z5f (Z4 z59):=by walk_at "sc"
def z1h:Y9 z95 z2L (Z4 z2H):=by walk_at "sc"
def k7:Y9 zaI z3R (Z4 z3I):=by walk_at "sc"
def z99:Y9 z6r z3S (Z4 z3J):=by walk_at "sc"
def J6:Y9 z96 z2M (Z4 z2I):=by walk_at "sc"
def G5:Y9 zaJ z3T (Z4 z3K):=by walk_at "sc"
def z0R:Y9 zaK z3U (Z4 z3L):=by walk_at "sc"
def X5:Y9 zcE z5g (Z4 z5a):=by walk_at "sc"
def W0:Y9 z97 z2N (Z4 z2J):=by walk_at "sc"
def U0:Y9 z98 z2O (Z4 z2K):=by walk_at "sc"
def z2n:Y9 zkk zfi (Z4 zfg):=by walk_at "sc"
structure Dx(K:W.Frag)(mg:Str->Option bc)(x:Str)(st:Stmt)(ps:List Str) where
 f:Addr
 d:bB
 F:Fun K x x st f d
 b:z71 K d ps []
 m:mg x=some (.ref f)
def scl{X:Cx}{G:Gx}{F:Fy}{e:bi}{es:List bi}{pos p:bO}{CX:CXT}{k j:Nat}{x:Str}{st:Stmt}{ps:List Str}{E:XK}{f:FM}{ms:List (M D)}(d:Dx X.K X.mg x st ps)(Fn:z0F X.prog X.w X.K X.mg X.base CX j d.f d.d ps (spM G ps.length f))(hr:z4h k X.A)(ha:SA X G F (e::es) (W8 ms))(hg:Gl X x:=by rfl)(hx:z5O CX X E:=by exact zk4)(hln:ms.length=ps.length:=by rfl)(hk:X.K=G.K:=by rfl)(hj:j<=k:=by lia)(hdb:(x==("__debug__" :Str))=false:=by decide)(he:bh (e::es) X.env=(false,bC e X.env)::bh es X.env:=by rfl)(hpl:(bK pos (bh es X.env)).any (·.1)=false:=by rfl):SE X G F (.Call (.Name x p) (e::es) [] pos) (Z2 f ms):=zfa hk (Fn.mono hj) hr hg d.m d.F.kp d.b hx ha hln hdb he hpl
set_option genInjectivity false in
set_option genSizeOf false in
set_option genSizeOfSpec false in
structure Wd(K:W.Frag)(mg:Str->Option bc) where
 x_p_read_keys:Dx K mg "read_keys" z1c z1e
 x_p_read_step:Dx K mg "read_step" z1d z1f
 x_p_longest_row:Dx K mg "longest_row" z0f z0i
 x_p_press:Dx K mg "press" z3G z3N
 x_p_may_wait:Dx K mg "may_wait" z1w z1y
 x_p_end_keys:Dx K mg "end_keys" z1x z1z
 x_p_fewest_keys:Dx K mg "fewest_keys" z0g z0j
 x_p_ways_to:Dx K mg "ways_to" z24 z26
 x_p_presses_without_loss:Dx K mg "presses_without_loss" G2 G3
 x_p_keys_on_way:Dx K mg "keys_on_way" z0h z0k
 x_l_bag:Dx K mg "_law_bag" z7o z7q
 x_l_take:Dx K mg "_law_take" z57 z5d
 x_l_table:Dx K mg "_law_table" z3H z3Q
 x_l_pressed:Dx K mg "_law_pressed" z25 z27
 x_l_step:Dx K mg "_law_step" z58 z5e
 x_l_read:Dx K mg "_law_read" z59 z5f
 x_l_starts:Dx K mg "_law_starts" z2H z2L
 x_l_press:Dx K mg "_law_press" z3I z3R
 x_l_whole:Dx K mg "_law_whole" z3J z3S
 x_l_sounds:Dx K mg "_law_sounds" z2I z2M
 x_l_steps:Dx K mg "_law_steps" z3K z3T
 x_l_goals:Dx K mg "_law_goals" z3L z3U
 x_l_ways:Dx K mg "_law_ways" z5a z5g
 x_l_wanted:Dx K mg "_law_wanted" z2J z2N
 x_l_fewest:Dx K mg "_law_fewest" z2K z2O
 x_law:Dx K mg "law" zfg zfi
 n_abs:mg "abs" =none
 n_all:mg "all" =none
 n_any:mg "any" =none
 n_bool:mg "bool" =none
 c_LAST_KEY: ∃t,mg "LAST_KEY" =some (.int 25 t)
 n_dict:mg "dict" =none
 n_int:mg "int" =none
 n_isinstance:mg "isinstance" =none
 n_len:mg "len" =none
 n_list:mg "list" =none
 n_max:mg "max" =none
 n_min:mg "min" =none
 n_range:mg "range" =none
 n_sorted:mg "sorted" =none
 n_tuple:mg "tuple" =none
section
variable{P:bm}{w:bo}{K:W.Frag}{mg:Str->Option bc}{base:Heap}
def z0m:MS:=(Z1 (Y1 (.nm 2) (mC .non))
 (Z1 (V8 (j6 (y0 0)) (.nm 3) (sIf (z9r (J4 (y4 (mSl (y0 1) none (some (mCB [(y4 (y0 3) (mC (.int 0)) ixD)] X8))) (y4 (y0 3) (mC (.int 0)) ixD) eqD)) (mOr (J4 (y4 (y0 2) (mC .non) isN)) (J4 (y4 (mCB [(y4 (y0 3) (mC (.int 0)) ixD)] X8) (mCB [(y4 (y0 2) (mC (.int 0)) ixD)] X8) gtD)))) (Y1 (.nm 2) (y0 3)) sNx))
 (K5 (y0 2))))
def X6:FM:=z2c 4 z0m
def z3a(T:Wd K mg):z0F P w K mg base CX0 1 T.x_p_longest_row.f T.x_p_longest_row.d z0i (spM (G0 K) 2 X6):=okM z0m T.x_p_longest_row.F V6 λcdv A outer s H E F hr=>by
 have h64:=hr.units
 exact(y1 (sst 2 V6.nd (sc0 z30))
 (y1 (U3 PassesOwn.never rfl (X9 rfl (sv 0)) (sgn 3 V6.nd) (y8 (z0d (SW.sb (z6m (j4 (z2D rfl h64) (G9 rfl (sv 1) k5 (v3 (sln T.n_len (s1 (sxc (sv 3) y3))))) (sxc (sv 3) y3) (j8 _)) (z3E (SW.sb (zf7 (j4 zdz (sv 2) (sc0 z30) (j8 _)) (zaA (j4 z91 (sln T.n_len (s1 (sxc (sv 3) y3))) (sln T.n_len (s1 (sxc (sv 2) y3))) (j8 _)))))))) (y8 (sst 2 V6.nd (sv 3))) v5)))
 (y8 (Q7 (sv 2)))))
def z1i:MS:=(Z1 (Y1 (.nm 2) (Z2 X6 [(y0 0),(y0 1)]))
 (Z1 (sIf (J4 (y4 (y0 2) (mC .non) isN)) (K5 (mCB [(mCB [] j3),(mSl (y0 1) none (some (mC (.int 1)))),(mSl (y0 1) (some (mC (.int 1))) none)] j3)) sNx)
 (K5 (mCB [(y4 (y0 2) (mC (.int 1)) ixD),(mCB [] j3),(y4 (y4 (y0 2) (mC (.int 2)) ixD) (mSl (y0 1) (some (mCB [(y4 (y0 2) (mC (.int 0)) ixD)] X8)) none) K1)] j3))))
def U1:FM:=z2c 3 z1i
def z1U(T:Wd K mg):z0F P w K mg base CX0 2 T.x_p_read_step.f T.x_p_read_step.d z1f (spM (G0 K) 2 U1):=okM z1i T.x_p_read_step.F z1T λcdv A outer s H E F hr=>(y1 (sst 2 z1T.nd (scl T.x_p_longest_row (z3a T) hr (s2 (sv 0) (sv 1))))
 (y1 (z0d (j4 zdz (sv 2) (sc0 z30) (j8 _)) (y8 (Q7 (Y4 rfl (s3 (Y4 rfl (sa_of rfl .nil)) (G9 rfl (sv 1) k5 (v3 (sc0 y3))) (G9 rfl (sv 1) (v3 (sc0 y3)) k5))))) v5)
 (y8 (Q7 (Y4 rfl (s3 (sxc (sv 2) y3) (Y4 rfl (sa_of rfl .nil)) (G7 rfl (sxc (sv 2) y3) (G9 rfl (sv 1) (v3 (sln T.n_len (s1 (sxc (sv 2) y3)))) k5))))))))
def z1j:MS:=(Z1 (Y1 (.nm 2) (mCB [] lstM))
 (Z1 (Y1 (.nm 3) (mCB [] lstM))
 (Z1 (Y1 (.nm 4) (mCB [(y0 1)] z68))
 (Z1 (z0A (λ_=>1000) (z1r (y0 4)) (Z1 (Y1 (.tp [(.nm 5),(.nm 6),(.nm 4)]) (Z2 U1 [(y0 0),(y0 4)]))
 (Z1 (Q8 (Q2 (y0 2) [(y0 5)] z2k))
 (Q8 (Q2 (y0 3) [(y0 6)] z2k)))))
 (K5 (mCB [(y0 2),(y0 3)] j3))))))
def z07:FM:=z2c 7 z1j
def z4o(T:Wd K mg):z0F P w K mg base CX0 3 T.x_p_read_keys.f T.x_p_read_keys.d z1e (spM (G0 K) 2 z07):=okM z1j T.x_p_read_keys.F J5 λcdv A outer s H E F hr=>(y1 (sst 2 J5.nd (W7 rfl (sa_of rfl .nil)))
 (y1 (sst 3 J5.nd (W7 rfl (sa_of rfl .nil)))
 (y1 (sst 4 J5.nd (z38 rfl (z2l rfl) rfl T.n_tuple PyProof.Rows.Boot.«tuple» (s1 (sv 1))))
 (y1 (z0B PassesOwn.never (z1b rfl (sv 4)) (y1 (z1v (scl T.x_p_read_step (z1U T) hr (s2 (sv 0) (sv 4))) (V2 rfl rfl (y6 (sgn 5 J5.nd) (y6 (sgn 6 J5.nd) (y6 (sgn 4 J5.nd) J0)))))
 (y1 (j7 (z0e rfl PySem.F.slot_list_extend PySem.F.type_list_extend (V5 rfl) (sv 2) (s1 (sv 5))))
 (y8 (j7 (z0e rfl PySem.F.slot_list_extend PySem.F.type_list_extend (V5 rfl) (sv 3) (s1 (sv 6))))))))
 (y8 (Q7 (Y4 rfl (s2 (sv 2) (sv 3)))))))))
def z1A:MS:=(K5 (mCB [(V4 (j6 (y0 0)) (.nm 0) (rt true) (z8W (y4 (mCB [(y0 1)] X8) (mCB [(y4 (y0 0) (mC (.int 0)) ixD)] X8) ltD) (y4 (mSl (y4 (y0 0) (mC (.int 0)) ixD) none (some (mCB [(y0 1)] X8))) (y0 1) eqD)) 1 [1])] zgg))
def K8:FM:=z2c 2 z1A
def z5j(T:Wd K mg):z0F P w K mg base CX0 1 T.x_p_may_wait.f T.x_p_may_wait.d z1y (spM (G0 K) 2 K8):=okM z1A T.x_p_may_wait.F z5h λcdv A outer s H E F hr=>by
 have h64:=hr.units
 exact(y8 (Q7 (z6p rfl (zhJ rfl hr.hd) rfl T.n_any PyProof.Rows.Boot.«any» (s1 (cmQ (own:=["row"]) (qj:=["keys"]) (ix:=[1]) (X9 rfl (sv 0)) (λ_ _ _ _ _ _ _=>(z0J (z0E (i:=0) (show L8 (["row", "keys"]:List Str) by decide+kernel) rfl (Or.inl rfl)))) (λ_ _ _ _ _ _ _=>z22) (λ_ _ _ _ _ _ _=>(zdG (z6o zco (sln T.n_len (s1 (sv 1))) (sln T.n_len (s1 (sxc (sv 0) y3))) (j8 _)) (zdF (z6o (z2D rfl h64) (G9 rfl (sxc (sv 0) y3) k5 (v3 (sln T.n_len (s1 (sv 1))))) (sv 1) (j8 _))))))))))
def z3V:MS:=(Z1 (Y1 (.nm 3) (mCB [] lstM))
 (Z1 (Y1 (.nm 4) (mCB [] lstM))
 (Z1 (Y1 (.nm 5) (y4 (y0 1) (mCB [(y0 2)] j3) K1))
 (Z1 (z0A (λ_=>1000) (z9r (z1r (y0 5)) (z9s (z1r (Z2 K8 [(y0 0),(y0 5)])))) (Z1 (Y1 (.tp [(.nm 6),(.nm 7),(.nm 5)]) (Z2 U1 [(y0 0),(y0 5)]))
 (Z1 (Q8 (Q2 (y0 3) [(y0 6)] z2k))
 (Q8 (Q2 (y0 4) [(y0 7)] z2k)))))
 (K5 (mCB [(y0 3),(y0 4),(y0 5)] j3))))))
def z1B:FM:=z2c 8 z3V
def z9a(T:Wd K mg):z0F P w K mg base CX0 3 T.x_p_press.f T.x_p_press.d z3N (spM (G0 K) 3 z1B):=okM z3V T.x_p_press.F k6 λcdv A outer s H E F hr=>(y1 (sst 3 k6.nd (W7 rfl (sa_of rfl .nil)))
 (y1 (sst 4 k6.nd (W7 rfl (sa_of rfl .nil)))
 (y1 (sst 5 k6.nd (G7 rfl (sv 1) (Y4 rfl (s1 (sv 2)))))
 (y1 (z0B PassesOwn.never (SW.sb (z6m (z1b rfl (sv 5)) (z3E (z6n (z1b rfl (scl T.x_p_may_wait (z5j T) hr (s2 (sv 0) (sv 5)))))))) (y1 (z1v (scl T.x_p_read_step (z1U T) hr (s2 (sv 0) (sv 5))) (V2 rfl rfl (y6 (sgn 6 k6.nd) (y6 (sgn 7 k6.nd) (y6 (sgn 5 k6.nd) J0)))))
 (y1 (j7 (z0e rfl PySem.F.slot_list_extend PySem.F.type_list_extend (V5 rfl) (sv 3) (s1 (sv 6))))
 (y8 (j7 (z0e rfl PySem.F.slot_list_extend PySem.F.type_list_extend (V5 rfl) (sv 4) (s1 (sv 7))))))))
 (y8 (Q7 (Y4 rfl (s3 (sv 3) (sv 4) (sv 5)))))))))
def z1C:MS:=(K5 (Z2 z07 [(y0 0),(y0 1)]))
def K9:FM:=z2c 2 z1C
def z5k(T:Wd K mg):z0F P w K mg base CX0 4 T.x_p_end_keys.f T.x_p_end_keys.d z1z (spM (G0 K) 2 K9):=okM z1C T.x_p_end_keys.F z5i λcdv A outer s H E F hr=>(y8 (Q7 (scl T.x_p_read_keys (z4o T) hr (s2 (sv 0) (sv 1)))))
def G6:MS:=(Z1 (Y1 (.nm 2) (mCB [] lstM))
 (Z1 (V8 (X4 [(y4 (mC (.int 25)) (mC (.int 1)) K1)]) (.nm 3) (Z1 (Y1 (.tp [(.nm 4),(.nm 5),(.nm 6)]) (Z2 z1B [(y0 0),(y0 1),(y0 3)]))
 (sIf (z9s (z1r (y0 5))) (Q8 (Q2 (y0 2) [(mCB [(y0 3),(y0 4),(y0 6)] j3)] z1N)) sNx)))
 (K5 (y0 2))))
def W5:FM:=z2c 7 G6
def z0K(T:Wd K mg):z0F P w K mg base CX0 4 T.x_p_presses_without_loss.f T.x_p_presses_without_loss.d G3 (spM (G0 K) 2 W5):=okM G6 T.x_p_presses_without_loss.F Y3 λcdv A outer s H E F hr=>(y1 (sst 2 Y3.nd (W7 rfl (sa_of rfl .nil)))
 (y1 (U3 PassesOwn.never rfl (z02 rfl T.n_range (s1 (G7 rfl (zki rfl (ze6 (v:= .int 25) rfl T.c_LAST_KEY.choose_spec ⟨_,rfl⟩)) (sc0 y3)))) (sgn 3 Y3.nd) (y1 (z1v (scl T.x_p_press (z9a T) hr (s3 (sv 0) (sv 1) (sv 3))) (V2 rfl rfl (y6 (sgn 4 Y3.nd) (y6 (sgn 5 Y3.nd) (y6 (sgn 6 Y3.nd) J0)))))
 (y8 (z0d (z6n (z1b rfl (sv 5))) (y8 (j7 (z0e rfl PySem.F.slot_list_append PySem.F.type_list_append G1 (sv 2) (s1 (Y4 rfl (s3 (sv 3) (sv 4) (sv 6))))))) v5))))
 (y8 (Q7 (sv 2)))))
def z28:MS:=(Z1 (Y1 (.nm 2) (mCB [(mC (.int 0)),(mCB [] j3)] j3))
 (Z1 (Y1 (.nm 3) (K6 (y0 2) (mCB [(mC (.int 0)),(mC .non),(mC .non)] j3)))
 (Z1 (Y1 (.nm 4) (mCB [(y0 2)] lstM))
 (Z1 (Y1 (.nm 5) z2G)
 (Z1 (Y1 (.nm 6) (mC (.int 0)))
 (Z1 (z0A (λ_=>100000) (J4 (y4 (y0 6) (mCB [(y0 4)] X8) ltD)) (Z1 (Y1 (.nm 7) (y4 (y0 4) (y0 6) ixD))
 (Z1 (Y1 (.tp [(.nm 8),(.nm 9)]) (y0 7))
 (Z1 (sIf (J4 (y4 (y0 9) (y0 5) z0c)) (z20 (Z2 W5 [(y0 0),(y0 9)]) (y0 5) (y0 9) z54) sNx)
 (Z1 (V8 (j6 (y4 (y0 5) (y0 9) z08)) (.tp [(.nm 10),(.nm 11),(.nm 12)]) (Z1 (Y1 (.nm 13) (mCB [(y4 (y0 8) (mCB [(y0 11)] X8) K1),(y0 12)] j3))
 (sIf (z9r (J4 (y4 (y0 13) (y0 3) z0c)) (J4 (y4 (mSl (y0 1) (some (y0 8)) (some (y4 (y0 8) (mCB [(y0 11)] X8) K1))) (y0 11) eqD))) (Z1 (z20 (mCB [(y4 (y4 (y4 (y0 3) (y0 7) z08) (mC (.int 0)) ixD) (mC (.int 1)) K1),(y0 7),(y0 10)] j3) (y0 3) (y0 13) z00)
 (Q8 (Q2 (y0 4) [(y0 13)] z1N))) sNx)))
 (z94 6 (mC (.int 1))))))))
 (K5 (y0 3))))))))
def z0n:FM:=z2c 14 z28
def z6t(T:Wd K mg):z0F P w K mg base CX0 5 T.x_p_ways_to.f T.x_p_ways_to.d z26 (spM (G0 K) 2 z0n):=okM z28 T.x_p_ways_to.F Y7 λcdv A outer s H E F hr=>by
 have h64:=hr.units
 exact(y1 (sst 2 Y7.nd (Y4 rfl (s2 (sc0 y3) (Y4 rfl (sa_of rfl .nil)))))
 (y1 (sst 3 Y7.nd (z56 rfl h64 (sv 2) (Y4 rfl (s3 (sc0 y3) (sc0 z30) (sc0 z30)))))
 (y1 (sst 4 Y7.nd (W7 rfl (s1 (sv 2))))
 (y1 (sst 5 Y7.nd (z55 rfl))
 (y1 (sst 6 Y7.nd (sc0 y3))
 (y1 (z0B PassesOwn.never (j4 zco (sv 6) (sln T.n_len (s1 (sv 4))) (j8 _)) (y1 (sst 7 Y7.nd (sxx (sv 4) (sv 6)))
 (y1 (z1v (sv 7) (V2 rfl rfl (y6 (sgn 8 Y7.nd) (y6 (sgn 9 Y7.nd) J0))))
 (y1 (z0d (j4 (z2F h64) (sv 9) (sv 5) (by with_unfolding_all rfl)) (y8 (z8f h64 (scl T.x_p_presses_without_loss (z0K T) hr (s2 (sv 0) (sv 9))) (sv 5) (sv 9))) v5)
 (y1 (U3 PassesOwn.never rfl (X9 rfl (z1q rfl h64 (sv 5) (sv 9) (λ_ _=>rfl))) (V2 rfl rfl (y6 (sgn 10 Y7.nd) (y6 (sgn 11 Y7.nd) (y6 (sgn 12 Y7.nd) J0)))) (y1 (sst 13 Y7.nd (Y4 rfl (s2 (G7 rfl (sv 8) (sln T.n_len (s1 (sv 11)))) (sv 12))))
 (y8 (z0d (SW.sb (z6m (j4 (z2F h64) (sv 13) (sv 3) (by with_unfolding_all rfl)) (z3E (j4 (z2D rfl h64) (G9 rfl (sv 1) (v3 (sv 8)) (v3 (G7 rfl (sv 8) (sln T.n_len (s1 (sv 11)))))) (sv 11) (j8 _))))) (y1 (z23 h64 (Y4 rfl (s3 (G7 rfl (sxc (z1q rfl h64 (sv 3) (sv 7) (λ_ _=>rfl)) y3) (sc0 y3)) (sv 7) (sv 10))) (sv 3) (sv 13))
 (y8 (j7 (z0e rfl PySem.F.slot_list_append PySem.F.type_list_append G1 (sv 4) (s1 (sv 13)))))) v5))))
 (y8 (zfc (i:=6) Y7.nd rfl (Or.inl rfl) (by first|exact .inl rfl|exact .inr rfl) (sc0 y3))))))))
 (y8 (Q7 (sv 3)))))))))
def z0o:MS:=(Z1 (Y1 (.nm 2) (mCB [] lstM))
 (Z1 (Y1 (.tp [(.nm 3),(.nm 4),(.nm 5)]) (y4 (y0 0) (y0 1) z08))
 (Z1 (z0A (λ_=>100000) (J4 (y4 (y0 3) (mC (.int 0)) gtD)) (Z1 (Q8 (Q2 (y0 2) [(y0 5)] z1N))
 (Y1 (.tp [(.nm 3),(.nm 4),(.nm 5)]) (y4 (y0 0) (y0 4) z08))))
 (Z1 (Q8 (Q2 (y0 2) [] zgh))
 (K5 (y0 2))))))
def v6:FM:=z2c 6 z0o
def z3b(T:Wd K mg):z0F P w K mg base CX0 1 T.x_p_keys_on_way.f T.x_p_keys_on_way.d z0k (spM (G0 K) 2 v6):=okM z0o T.x_p_keys_on_way.F Q1 λcdv A outer s H E F hr=>by
 have h64:=hr.units
 exact(y1 (sst 2 Q1.nd (W7 rfl (sa_of rfl .nil)))
 (y1 (z1v (z1q rfl h64 (sv 0) (sv 1) (λ_ _=>rfl)) (V2 rfl rfl (y6 (sgn 3 Q1.nd) (y6 (sgn 4 Q1.nd) (y6 (sgn 5 Q1.nd) J0)))))
 (y1 (z0B PassesOwn.never (j4 z91 (sv 3) (sc0 y3) (j8 _)) (y1 (j7 (z0e rfl PySem.F.slot_list_append PySem.F.type_list_append G1 (sv 2) (s1 (sv 5))))
 (y8 (z1v (z1q rfl h64 (sv 0) (sv 4) (λ_ _=>rfl)) (V2 rfl rfl (y6 (sgn 3 Q1.nd) (y6 (sgn 4 Q1.nd) (y6 (sgn 5 Q1.nd) J0))))))))
 (y1 (j7 (zhX rfl PySem.F.slot_list_reverse PySem.F.type_list_reverse z93 (sv 2)))
 (y8 (Q7 (sv 2)))))))
def z0p:MS:=(Z1 (Y1 (.nm 2) (Z2 z0n [(y0 0),(y0 1)]))
 (Z1 (V8 (z01 (y0 2)) (.tp [(.nm 3),(.nm 4)]) (Z1 (Y1 (.tp [(.nm 5),(.nm 6)]) (Z2 K9 [(y0 0),(y0 4)]))
 (sIf (z9r (z9s (z1r (y0 6))) (J4 (y4 (y0 5) (mSl (y0 1) (some (y0 3)) none) eqD))) (K5 (Z2 v6 [(y0 2),(mCB [(y0 3),(y0 4)] j3)])) sNx)))
 (K5 (mC .non))))
def V0:FM:=z2c 7 z0p
def z3c(T:Wd K mg):z0F P w K mg base CX0 6 T.x_p_fewest_keys.f T.x_p_fewest_keys.d z0j (spM (G0 K) 2 V0):=okM z0p T.x_p_fewest_keys.F J2 λcdv A outer s H E F hr=>by
 have h64:=hr.units
 exact(y1 (sst 2 J2.nd (scl T.x_p_ways_to (z6t T) hr (s2 (sv 0) (sv 1))))
 (y1 (zaE PassesOwn.never rfl (sv 2) (λ_=>(V2 rfl rfl (y6 (sgn 3 J2.nd) (y6 (sgn 4 J2.nd) J0)))) (λ_=>(y1 (z1v (scl T.x_p_end_keys (z5k T) hr (s2 (sv 0) (sv 4))) (V2 rfl rfl (y6 (sgn 5 J2.nd) (y6 (sgn 6 J2.nd) J0))))
 (y8 (z0d (SW.sb (z6m (z6n (z1b rfl (sv 6))) (z3E (j4 (z2D rfl h64) (sv 5) (G9 rfl (sv 1) (v3 (sv 3)) k5) (j8 _))))) (y8 (Q7 (scl T.x_p_keys_on_way (z3b T) hr (s2 (sv 2) (Y4 rfl (s2 (sv 3) (sv 4))))))) v5)))))
 (y8 (Q7 (sc0 z30)))))
def z7s:MS:=(Z1 (Y1 (.nm 2) (mC (.int 0)))
 (Z1 (sIf (J4 (y4 (y0 1) (mCB [(y0 0)] X8) ltD)) (Y1 (.nm 2) (mCB [(y4 (y0 0) (y0 1) ixD)] zge)) sNx)
 (Z1 (Y1 (.nm 3) (y4 (y4 (y4 (y4 (y4 (y0 2) (mC (.int 2147483629)) z3j) (y4 (mC (.int 104729)) (y0 1) z9t) K1) (mC (.int 17)) K1) (mC (.int 5)) zds) (mC (.int 2147483647)) z3j))
 (Z1 (V8 (X4 [(mCB [(mCB [(y0 0)] X8),(mC (.int 60))] zeR)]) (.nm 4) (Y1 (.nm 3) (y4 (y4 (y4 (y4 (y0 3) (mC (.int 48271)) z9t) (y4 (y4 (y4 (y0 0) (y0 4) ixD) (mC (.int 2147483587)) z3j) (y4 (y0 4) (mC (.int 3)) K1) z9t) K1) (y0 4) K1) (mC (.int 2147483629)) z3j)))
 (Z1 (sIf (J4 (y4 (y0 2) (y4 (mC (.int 10)) (mC (.int 18)) zds) ltD)) (Y1 (.nm 2) (mC (.int 0))) sNx)
 (K5 (mCB [(y0 2),(y0 3)] lstM)))))))
def z3W:FM:=z2c 5 z7s
def zcF(T:Wd K mg):z0F P w K mg base CX0 1 T.x_l_bag.f T.x_l_bag.d z7q (spM (G0 K) 2 z3W):=okM z7s T.x_l_bag.F z1g λcdv A outer s H E F hr=>(y1 (sst 2 z1g.nd (sc0 y3))
 (y1 (z0d (j4 zco (sv 1) (sln T.n_len (s1 (sv 0))) (j8 _)) (y8 (sst 2 z1g.nd (z6p rfl zhG rfl T.n_abs PyProof.Rows.Boot.«abs» (s1 (sxx (sv 0) (sv 1)))))) v5)
 (y1 (sst 3 z1g.nd (z1p rfl (zaD rfl (G7 rfl (G7 rfl (z1p rfl (sv 2) (sc0 y3)) (z3F rfl (sc0 y3) (sv 1))) (sc0 y3)) (sc0 y3)) (sc0 y3)))
 (y1 (U3 PassesOwn.never rfl (z02 rfl T.n_range (s1 (z6p rfl (zdA rfl) rfl T.n_min PyProof.Rows.Boot.«min» (s2 (sln T.n_len (s1 (sv 0))) (sc0 y3))))) (sgn 4 z1g.nd) (y8 (sst 3 z1g.nd (z1p rfl (G7 rfl (G7 rfl (z3F rfl (sv 3) (sc0 y3)) (z3F rfl (z1p rfl (sxx (sv 0) (sv 4)) (sc0 y3)) (G7 rfl (sv 4) (sc0 y3)))) (sv 4)) (sc0 y3)))))
 (y1 (z0d (j4 zco (sv 2) (zaD rfl (sc0 y3) (sc0 y3)) (j8 _)) (y8 (sst 2 z1g.nd (sc0 y3))) v5)
 (y8 (Q7 (W7 rfl (s2 (sv 2) (sv 3))))))))))
def z5l:MS:=(Z1 (sIf (J4 (y4 (y4 (y0 0) (mC (.int 0)) ixD) (mC (.int 0)) gtD)) (Z1 (Y1 (.nm 2) (y4 (y4 (y0 0) (mC (.int 0)) ixD) (y0 1) z3j))
 (Z1 (z20 (y4 (y4 (y0 0) (mC (.int 0)) ixD) (y0 1) z4W) (y0 0) (mC (.int 0)) zeW)
 (K5 (y0 2)))) sNx)
 (Z1 (z20 (y4 (y4 (y4 (y4 (y0 0) (mC (.int 1)) ixD) (mC (.int 48271)) z9t) (mC (.int 7919)) K1) (mC (.int 2147483647)) z3j) (y0 0) (mC (.int 1)) zeW)
 (K5 (y4 (y4 (y4 (y4 (y4 (y4 (y4 (y0 0) (mC (.int 1)) ixD) (mC (.int 3)) zds) (mC (.int 2147483587)) z3j) (mC (.int 7)) z4W) (mC (.int 69621)) z9t) (mC (.int 1073741789)) z3j) (y0 1) z3j))))
def y9:FM:=z2c 3 z5l
def Y6(T:Wd K mg):z0F P w K mg base CX0 1 T.x_l_take.f T.x_l_take.d z5d (spM (G0 K) 2 y9):=okM z5l T.x_l_take.F z6s λcdv A outer s H E F hr=>(y1 (z0d (j4 z91 (sxc (sv 0) y3) (sc0 y3) (j8 _)) (y1 (sst 2 z6s.nd (z1p rfl (sxc (sv 0) y3) (sv 1)))
 (y1 (zaC (z7n rfl (sxc (sv 0) y3) (sv 1)) (sv 0) (sc0 y3) (λ{to ti} h1 h2=>zdf h1 h2 z7V))
 (y8 (Q7 (sv 2))))) v5)
 (y1 (zaC (z1p rfl (G7 rfl (z3F rfl (sxc (sv 0) y3) (sc0 y3)) (sc0 y3)) (sc0 y3)) (sv 0) (sc0 y3) (λ{to ti} h1 h2=>zdf h1 h2 z7V))
 (y8 (Q7 (z1p rfl (z1p rfl (z3F rfl (z7n rfl (z1p rfl (zaD rfl (sxc (sv 0) y3) (sc0 y3)) (sc0 y3)) (sc0 y3)) (sc0 y3)) (sc0 y3)) (sv 1))))))
def z3X:MS:=(Z1 (Y1 (.nm 1) (y4 (Z2 y9 [(y0 0),(mC (.int 8))]) (mC (.int 7)) z4W))
 (Z1 (Y1 (.nm 2) (y4 (mCB [(y4 (mC (.int 1)) (Z2 y9 [(y0 0),(mC (.int 4))]) K1),(mC (.int 26))] lstM) (y0 1) ixD))
 (Z1 (Y1 (.nm 3) (Z2 y9 [(y0 0),(mC (.int 26))]))
 (Z1 (Y1 (.nm 4) (y4 (mCB [(mC (.int 3)),(mC (.int 40))] lstM) (Z2 y9 [(y0 0),(mC (.int 2))]) ixD))
 (Z1 (Y1 (.nm 5) z2G)
 (Z1 (sIf (J4 (y4 (Z2 y9 [(y0 0),(mC (.int 2))]) (mC (.int 0)) eqD)) (V8 (X4 [(y0 2)]) (.nm 6) (z20 (mCB [(mCB [(Z2 y9 [(y0 0),(y0 4)])] j3),(mCB [] j3)] j3) (y0 5) (mCB [(y4 (y4 (y0 3) (y0 6) K1) (mC (.int 26)) z3j)] j3) z00)) sNx)
 (Z1 (V8 (X4 [(y4 (mCB [(Z2 y9 [(y0 0),(mC (.int 8))]),(mC (.int 40))] lstM) (y0 1) ixD)]) (.nm 7) (Z1 (Y1 (.nm 8) (mCB [(V4 (X4 [(y4 (mC (.int 1)) (Z2 y9 [(y0 0),(mC (.int 4))]) K1)]) (.nm 0) (rt true) (y4 (y4 (y0 1) (Z2 y9 [(y0 2),(y0 3)]) K1) (mC (.int 26)) z3j) 1 [3,0,2])] z68))
 (Z1 (Y1 (.nm 9) (mCB [(V4 (X4 [(Z2 y9 [(y0 0),(mC (.int 4))])]) (.nm 0) (rt true) (Z2 y9 [(y0 1),(y0 2)]) 1 [0,4])] z68))
 (Z1 (Y1 (.nm 10) (mCB [(V4 (X4 [(Z2 y9 [(y0 0),(mCB [(y0 8)] X8)])]) (.nm 0) (rt true) (y4 (y4 (y0 1) (Z2 y9 [(y0 2),(y0 3)]) K1) (mC (.int 26)) z3j) 1 [3,0,2])] z68))
 (z20 (mCB [(y0 9),(y0 10)] j3) (y0 5) (y0 8) z00)))))
 (K5 (mSl (V4 (z01 (y0 5)) (.nm 0) (rt true) (y4 (mCB [(y0 0)] j3) (y4 (y0 1) (y0 0) z08) K1) 1 [5]) none (some (mC (.int 40))))))))))))
def z0S:FM:=z2c 11 z3X
def z9b(T:Wd K mg):z0F P w K mg base CX0 2 T.x_l_table.f T.x_l_table.d z3Q (spM (G0 K) 1 z0S):=okM z3X T.x_l_table.F G4 λcdv A outer s H E F hr=>by
 have h64:=hr.units
 exact(y1 (sst 1 G4.nd (z7n rfl (scl T.x_l_take (Y6 T) hr (s2 (sv 0) (sc0 y3))) (sc0 y3)))
 (y1 (ss_set (λ{te} h=>z2e (i:=2) G4.nd rfl (Or.inr rfl) h) (sxx (W7 rfl (s2 (G7 rfl (sc0 y3) (scl T.x_l_take (Y6 T) hr (s2 (sv 0) (sc0 y3)))) (sc0 y3))) (sv 1)))
 (y1 (ss_set (λ{te} h=>z2e (i:=3) G4.nd rfl (Or.inr rfl) h) (scl T.x_l_take (Y6 T) hr (s2 (sv 0) (sc0 y3))))
 (y1 (ss_set (λ{te} h=>z2e (i:=4) G4.nd rfl (Or.inr rfl) h) (sxx (W7 rfl (s2 (sc0 y3) (sc0 y3))) (scl T.x_l_take (Y6 T) hr (s2 (sv 0) (sc0 y3)))))
 (y1 (ss_set (λ{te} h=>z2e (i:=5) G4.nd rfl (Or.inr rfl) h) (z55 rfl))
 (y1 (z0d (j4 (z2D rfl h64) (scl T.x_l_take (Y6 T) hr (s2 (sv 0) (sc0 y3))) (sc0 y3) (j8 _)) (y8 (U3 PassesOwn.never rfl (z02 rfl T.n_range (s1 (sv 2))) (sgn 6 G4.nd) (y8 (z23 h64 (Y4 rfl (s2 (Y4 rfl (s1 (scl T.x_l_take (Y6 T) hr (s2 (sv 0) (sv 4))))) (Y4 rfl (sa_of rfl .nil)))) (sv 5) (Y4 rfl (s1 (z1p rfl (G7 rfl (sv 3) (sv 6)) (sc0 y3)))))))) v5)
 (y1 (U3 PassesOwn.never rfl (z02 rfl T.n_range (s1 (sxx (W7 rfl (s2 (scl T.x_l_take (Y6 T) hr (s2 (sv 0) (sc0 y3))) (sc0 y3))) (sv 1)))) (sgn 7 G4.nd) (y1 (sst 8 G4.nd (z38 rfl (z2l rfl) rfl T.n_tuple PyProof.Rows.Boot.«tuple» (s1 (cmQ (own:=["_law_k"]) (qj:=["_law_first", "_law_bag_here", "_law_letters"]) (ix:=[3,0,2]) (z02 rfl T.n_range (s1 (G7 rfl (sc0 y3) (scl T.x_l_take (Y6 T) hr (s2 (sv 0) (sc0 y3)))))) (λ_ _ _ _ _ _ _=>(z0J (z0E (i:=0) (show L8 (["_law_k", "_law_first", "_law_bag_here", "_law_letters"]:List Str) by decide+kernel) rfl (Or.inl rfl)))) (λ_ _ _ _ _ _ _=>z22) (λ_ _ _ _ _ _ _=>(z1p rfl (G7 rfl (sv 1) (scl T.x_l_take (Y6 T) hr (s2 (sv 2) (sv 3)))) (sc0 y3)))))))
 (y1 (sst 9 G4.nd (z38 rfl (z2l rfl) rfl T.n_tuple PyProof.Rows.Boot.«tuple» (s1 (cmQ (own:=["_law_k"]) (qj:=["_law_bag_here", "_law_top"]) (ix:=[0,4]) (z02 rfl T.n_range (s1 (scl T.x_l_take (Y6 T) hr (s2 (sv 0) (sc0 y3))))) (λ_ _ _ _ _ _ _=>(z0J (z0E (i:=0) (show L8 (["_law_k", "_law_bag_here", "_law_top"]:List Str) by decide+kernel) rfl (Or.inl rfl)))) (λ_ _ _ _ _ _ _=>z22) (λ_ _ _ _ _ _ _=>(scl T.x_l_take (Y6 T) hr (s2 (sv 1) (sv 2))))))))
 (y1 (sst 10 G4.nd (z38 rfl (z2l rfl) rfl T.n_tuple PyProof.Rows.Boot.«tuple» (s1 (cmQ (own:=["_law_k"]) (qj:=["_law_first", "_law_bag_here", "_law_letters"]) (ix:=[3,0,2]) (z02 rfl T.n_range (s1 (scl T.x_l_take (Y6 T) hr (s2 (sv 0) (sln T.n_len (s1 (sv 8))))))) (λ_ _ _ _ _ _ _=>(z0J (z0E (i:=0) (show L8 (["_law_k", "_law_first", "_law_bag_here", "_law_letters"]:List Str) by decide+kernel) rfl (Or.inl rfl)))) (λ_ _ _ _ _ _ _=>z22) (λ_ _ _ _ _ _ _=>(z1p rfl (G7 rfl (sv 1) (scl T.x_l_take (Y6 T) hr (s2 (sv 2) (sv 3)))) (sc0 y3)))))))
 (y8 (z23 h64 (Y4 rfl (s2 (sv 9) (sv 10))) (sv 5) (sv 8)))))))
 (y8 (Q7 (G9 rfl (zls (own:=["_law_keys"]) (qj:=["_law_found"]) (ix:=[5]) (sv 5) (λ_ _ _ _ _ _ _=>(z0J (z0E (i:=0) (show L8 (["_law_keys", "_law_found"]:List Str) by decide+kernel) rfl (Or.inl rfl)))) (λ_ _ _ _ _ _ _=>z22) (λ_ _ _ _ _ _ _=>(G7 rfl (Y4 rfl (s1 (sv 0))) (z1q rfl h64 (sv 1) (sv 0) (λ_ _=>rfl))))) k5 (v3 (sc0 y3))))))))))))
def z29:MS:=(Z1 (Y1 (.nm 3) (mCB [(mC (.int 0))] lstM))
 (Z1 (V8 (j6 (y0 1)) (.tp [(.nm 4),(.nm 5),(.nm 6)]) (Q8 (Q2 (y0 3) [(y0 4)] z2k)))
 (Z1 (Y1 (.nm 7) (mCB [] lstM))
 (Z1 (V8 (X4 [(Z2 y9 [(y0 0),(y4 (y0 2) (mC (.int 1)) K1)])]) (.nm 8) (Z1 (Y1 (.nm 9) (mCB [(y4 (Z2 y9 [(y0 0),(mC (.int 8))]) (mC (.int 7)) eqD)] zbJ))
 (Q8 (Q2 (y0 7) [(y4 (mCB [(y4 (y0 3) (Z2 y9 [(y0 0),(mCB [(y0 3)] X8)]) ixD),(Z2 y9 [(y0 0),(mC (.int 26))])] lstM) (y0 9) ixD)] z1N))))
 (K5 (y0 7))))))
def z1k:FM:=z2c 10 z29
def z6u(T:Wd K mg):z0F P w K mg base CX0 2 T.x_l_pressed.f T.x_l_pressed.d z27 (spM (G0 K) 3 z1k):=okM z29 T.x_l_pressed.F G8 λcdv A outer s H E F hr=>by
 have h64:=hr.units
 exact(y1 (sst 3 G8.nd (W7 rfl (s1 (sc0 y3))))
 (y1 (U3 PassesOwn.never rfl (X9 rfl (sv 1)) (V2 rfl rfl (y6 (sgn 4 G8.nd) (y6 (sgn 5 G8.nd) (y6 (sgn 6 G8.nd) J0)))) (y8 (j7 (z0e rfl PySem.F.slot_list_extend PySem.F.type_list_extend (V5 rfl) (sv 3) (s1 (sv 4))))))
 (y1 (sst 7 G8.nd (W7 rfl (sa_of rfl .nil)))
 (y1 (U3 PassesOwn.never rfl (z02 rfl T.n_range (s1 (scl T.x_l_take (Y6 T) hr (s2 (sv 0) (G7 rfl (sv 2) (sc0 y3)))))) (sgn 8 G8.nd) (y1 (sst 9 G8.nd (z38 rfl zau rfl T.n_int PyProof.Rows.Boot.«int» (s1 (z6o (z2D rfl h64) (scl T.x_l_take (Y6 T) hr (s2 (sv 0) (sc0 y3))) (sc0 y3) (j8 _)))))
 (y8 (j7 (z0e rfl PySem.F.slot_list_append PySem.F.type_list_append G1 (sv 7) (s1 (sxx (W7 rfl (s2 (sxx (sv 3) (scl T.x_l_take (Y6 T) hr (s2 (sv 0) (sln T.n_len (s1 (sv 3)))))) (scl T.x_l_take (Y6 T) hr (s2 (sv 0) (sc0 y3))))) (sv 9))))))))
 (y8 (Q7 (sv 7)))))))
def z5m:MS:=(Z1 (Y1 (.nm 2) (mCB [] j3))
 (Z1 (Y1 (.nm 3) (mCB [] j3))
 (Z1 (Y1 (.nm 4) (mCB [] j3))
 (Z1 (V8 (j6 (y0 0)) (.nm 5) (sIf (z9r (J4 (y4 (mCB [(y4 (y0 5) (mC (.int 0)) ixD)] X8) (mCB [(y0 2)] X8) gtD)) (J4 (y4 (mSl (y0 1) none (some (mCB [(y4 (y0 5) (mC (.int 0)) ixD)] X8))) (y4 (y0 5) (mC (.int 0)) ixD) eqD))) (Y1 (.tp [(.nm 2),(.nm 3),(.nm 4)]) (y0 5)) sNx))
 (Z1 (sIf (J4 (y4 (y0 2) (mCB [] j3) eqD)) (K5 (mCB [(mCB [] lstM),(mCB [(y4 (y0 1) (mC (.int 0)) ixD)] lstM),(mSl (y0 1) (some (mC (.int 1))) none)] j3)) sNx)
 (K5 (mCB [(mCB [(y0 3)] z4m),(mCB [] lstM),(y4 (y0 4) (mSl (y0 1) (some (mCB [(y0 2)] X8)) none) K1)] j3)))))))
def z1l:FM:=z2c 6 z5m
def z6v(T:Wd K mg):z0F P w K mg base CX0 1 T.x_l_step.f T.x_l_step.d z5e (spM (G0 K) 2 z1l):=okM z5m T.x_l_step.F K7 λcdv A outer s H E F hr=>by
 have h64:=hr.units
 exact(y1 (sst 2 K7.nd (Y4 rfl (sa_of rfl .nil)))
 (y1 (sst 3 K7.nd (Y4 rfl (sa_of rfl .nil)))
 (y1 (sst 4 K7.nd (Y4 rfl (sa_of rfl .nil)))
 (y1 (U3 PassesOwn.never rfl (X9 rfl (sv 0)) (sgn 5 K7.nd) (y8 (z0d (SW.sb (z6m (j4 z91 (sln T.n_len (s1 (sxc (sv 5) y3))) (sln T.n_len (s1 (sv 2))) (j8 _)) (z3E (j4 (z2D rfl h64) (G9 rfl (sv 1) k5 (v3 (sln T.n_len (s1 (sxc (sv 5) y3))))) (sxc (sv 5) y3) (j8 _))))) (y8 (z1v (sv 5) (V2 rfl rfl (y6 (sgn 2 K7.nd) (y6 (sgn 3 K7.nd) (y6 (sgn 4 K7.nd) J0)))))) v5)))
 (y1 (z0d (j4 (z2D rfl h64) (sv 2) (Y4 rfl (sa_of rfl .nil)) (j8 _)) (y8 (Q7 (Y4 rfl (s3 (W7 rfl (sa_of rfl .nil)) (W7 rfl (s1 (sxc (sv 1) y3))) (G9 rfl (sv 1) (v3 (sc0 y3)) k5))))) v5)
 (y8 (Q7 (Y4 rfl (s3 (z38 rfl (z7g rfl) rfl T.n_list PyProof.Rows.Boot.«list» (s1 (sv 3))) (W7 rfl (sa_of rfl .nil)) (G7 rfl (sv 4) (G9 rfl (sv 1) (v3 (sln T.n_len (s1 (sv 2)))) k5)))))))))))
def z5n:MS:=(Z1 (Y1 (.nm 2) (mCB [] lstM))
 (Z1 (Y1 (.nm 3) (mCB [] lstM))
 (Z1 (Y1 (.nm 4) (mCB [(y0 1)] z68))
 (Z1 (z0A (λ_=>100000) (J4 (y4 (y0 4) (mCB [] j3) neD)) (Z1 (Y1 (.tp [(.nm 5),(.nm 6),(.nm 4)]) (Z2 z1l [(y0 0),(y0 4)]))
 (Z1 (Q8 (Q2 (y0 2) [(y0 5)] z2k))
 (Q8 (Q2 (y0 3) [(y0 6)] z2k)))))
 (K5 (mCB [(y0 2),(y0 3)] j3))))))
def z0C:FM:=z2c 7 z5n
def z3Y(T:Wd K mg):z0F P w K mg base CX0 2 T.x_l_read.f T.x_l_read.d z5f (spM (G0 K) 2 z0C):=okM z5n T.x_l_read.F z0l λcdv A outer s H E F hr=>by
 have h64:=hr.units
 exact(y1 (sst 2 z0l.nd (W7 rfl (sa_of rfl .nil)))
 (y1 (sst 3 z0l.nd (W7 rfl (sa_of rfl .nil)))
 (y1 (sst 4 z0l.nd (z38 rfl (z2l rfl) rfl T.n_tuple PyProof.Rows.Boot.«tuple» (s1 (sv 1))))
 (y1 (z0B PassesOwn.never (j4 (z92 rfl h64) (sv 4) (Y4 rfl (sa_of rfl .nil)) (j8 _)) (y1 (z1v (scl T.x_l_step (z6v T) hr (s2 (sv 0) (sv 4))) (V2 rfl rfl (y6 (sgn 5 z0l.nd) (y6 (sgn 6 z0l.nd) (y6 (sgn 4 z0l.nd) J0)))))
 (y1 (j7 (z0e rfl PySem.F.slot_list_extend PySem.F.type_list_extend (V5 rfl) (sv 2) (s1 (sv 5))))
 (y8 (j7 (z0e rfl PySem.F.slot_list_extend PySem.F.type_list_extend (V5 rfl) (sv 3) (s1 (sv 6))))))))
 (y8 (Q7 (Y4 rfl (s2 (sv 2) (sv 3)))))))))
def z2P:MS:=(Z1 (Y1 (.nm 1) (K6 (mCB [] j3) (mC (.bool true))))
 (Z1 (V8 (j6 (y0 0)) (.nm 2) (V8 (z8X [(mC (.int 1)),(mCB [(y4 (y0 2) (mC (.int 0)) ixD)] X8)]) (.nm 3) (z20 (mC (.bool true)) (y0 1) (mSl (y4 (y0 2) (mC (.int 0)) ixD) none (some (y0 3))) z00)))
 (K5 (y0 1))))
def z0T:FM:=z2c 4 z2P
def z7t(T:Wd K mg):z0F P w K mg base CX0 1 T.x_l_starts.f T.x_l_starts.d z2L (spM (G0 K) 1 z0T):=okM z2P T.x_l_starts.F z1h λcdv A outer s H E F hr=>by
 have h64:=hr.units
 exact(y1 (sst 1 z1h.nd (z56 rfl h64 (Y4 rfl (sa_of rfl .nil)) (sc0 z6Y)))
 (y1 (U3 PassesOwn.never rfl (X9 rfl (sv 0)) (sgn 2 z1h.nd) (y8 (U3 PassesOwn.never rfl (zf8 rfl T.n_range (s2 (sc0 y3) (sln T.n_len (s1 (sxc (sv 2) y3))))) (sgn 3 z1h.nd) (y8 (z23 h64 (sc0 z6Y) (sv 1) (G9 rfl (sxc (sv 2) y3) k5 (v3 (sv 3))))))))
 (y8 (Q7 (sv 1)))))
def z3Z:MS:=(Z1 (Y1 (.nm 4) (mCB [] lstM))
 (Z1 (Y1 (.nm 5) (mCB [] lstM))
 (Z1 (Y1 (.nm 6) (y4 (y0 2) (mCB [(y0 3)] j3) K1))
 (Z1 (z0A (λ_=>1000) (J4 (y4 (y0 6) (y0 1) z0c)) (Z1 (Y1 (.tp [(.nm 7),(.nm 8),(.nm 6)]) (Z2 z1l [(y0 0),(y0 6)]))
 (Z1 (Q8 (Q2 (y0 4) [(y0 7)] z2k))
 (Q8 (Q2 (y0 5) [(y0 8)] z2k)))))
 (K5 (mCB [(y0 4),(y0 5),(y0 6)] j3))))))
def z1D:FM:=z2c 9 z3Z
def z9c(T:Wd K mg):z0F P w K mg base CX0 2 T.x_l_press.f T.x_l_press.d z3R (spM (G0 K) 4 z1D):=okM z3Z T.x_l_press.F k7 λcdv A outer s H E F hr=>by
 have h64:=hr.units
 exact(y1 (sst 4 k7.nd (W7 rfl (sa_of rfl .nil)))
 (y1 (sst 5 k7.nd (W7 rfl (sa_of rfl .nil)))
 (y1 (sst 6 k7.nd (G7 rfl (sv 2) (Y4 rfl (s1 (sv 3)))))
 (y1 (z0B PassesOwn.never (j4 (z2F h64) (sv 6) (sv 1) (by with_unfolding_all rfl)) (y1 (z1v (scl T.x_l_step (z6v T) hr (s2 (sv 0) (sv 6))) (V2 rfl rfl (y6 (sgn 7 k7.nd) (y6 (sgn 8 k7.nd) (y6 (sgn 6 k7.nd) J0)))))
 (y1 (j7 (z0e rfl PySem.F.slot_list_extend PySem.F.type_list_extend (V5 rfl) (sv 4) (s1 (sv 7))))
 (y8 (j7 (z0e rfl PySem.F.slot_list_extend PySem.F.type_list_extend (V5 rfl) (sv 5) (s1 (sv 8))))))))
 (y8 (Q7 (Y4 rfl (s3 (sv 4) (sv 5) (sv 6)))))))))
def z40:MS:=(K5 (z8W (zeT "int" (y0 0)) (zcf (zeT "bool" (y0 0)))))
def z0q:FM:=z2c 1 z40
def z9d(T:Wd K mg):z0F P w K mg base CX0 1 T.x_l_whole.f T.x_l_whole.d z3S (spM (G0 K) 1 z0q):=okM z40 T.x_l_whole.F z99 λcdv A outer s H E F hr=>(y8 (Q7 (zdG (zaB rfl (by decide) rfl T.n_isinstance (sv 0) (z6Z (v:= .ty "int") rfl T.n_int PyProof.Rows.Boot.«int» rfl)) (zdF (zhU (zaB rfl (by decide) rfl T.n_isinstance (sv 0) (z6Z (v:= .ty "bool") rfl T.n_bool PyProof.Rows.Boot.«bool» rfl)))))))
def z2Q:MS:=(Z1 (Y1 (.nm 3) (Z2 y9 [(y0 0),(mC (.int 3))]))
 (Z1 (Y1 (.nm 4) (mCB [(mC (.int 0))] lstM))
 (Z1 (V8 (j6 (y0 1)) (.tp [(.nm 5),(.nm 6),(.nm 7)]) (Q8 (Q2 (y0 4) [(y0 6)] z2k)))
 (Z1 (Y1 (.nm 8) (Z2 y9 [(y0 0),(y4 (y0 2) (mC (.int 1)) K1)]))
 (Z1 (sIf (J4 (y4 (y0 3) (mC (.int 0)) gtD)) (K5 (mSl (y4 (Z2 z0C [(y0 1),(Z2 z1k [(y0 0),(y0 1),(mC (.int 60))])]) (mC (.int 0)) ixD) none (some (y0 8)))) sNx)
 (Z1 (Y1 (.nm 9) (mCB [] lstM))
 (Z1 (V8 (X4 [(y0 8)]) (.nm 10) (Z1 (Y1 (.nm 11) (mCB [(y4 (Z2 y9 [(y0 0),(mC (.int 8))]) (mC (.int 7)) eqD)] zbJ))
 (Q8 (Q2 (y0 9) [(y4 (mCB [(y4 (y0 4) (Z2 y9 [(y0 0),(mCB [(y0 4)] X8)]) ixD),(Z2 y9 [(y0 0),(mC (.int 40))])] lstM) (y0 11) ixD)] z1N))))
 (K5 (y0 9)))))))))
def z09:FM:=z2c 12 z2Q
def z7u(T:Wd K mg):z0F P w K mg base CX0 3 T.x_l_sounds.f T.x_l_sounds.d z2M (spM (G0 K) 3 z09):=okM z2Q T.x_l_sounds.F J6 λcdv A outer s H E F hr=>by
 have h64:=hr.units
 exact(y1 (sst 3 J6.nd (scl T.x_l_take (Y6 T) hr (s2 (sv 0) (sc0 y3))))
 (y1 (sst 4 J6.nd (W7 rfl (s1 (sc0 y3))))
 (y1 (U3 PassesOwn.never rfl (X9 rfl (sv 1)) (V2 rfl rfl (y6 (sgn 5 J6.nd) (y6 (sgn 6 J6.nd) (y6 (sgn 7 J6.nd) J0)))) (y8 (j7 (z0e rfl PySem.F.slot_list_extend PySem.F.type_list_extend (V5 rfl) (sv 4) (s1 (sv 6))))))
 (y1 (sst 8 J6.nd (scl T.x_l_take (Y6 T) hr (s2 (sv 0) (G7 rfl (sv 2) (sc0 y3)))))
 (y1 (z0d (j4 z91 (sv 3) (sc0 y3) (j8 _)) (y8 (Q7 (G9 rfl (sxc (scl T.x_l_read (z3Y T) hr (s2 (sv 1) (scl T.x_l_pressed (z6u T) hr (s3 (sv 0) (sv 1) (sc0 y3))))) y3) k5 (v3 (sv 8))))) v5)
 (y1 (sst 9 J6.nd (W7 rfl (sa_of rfl .nil)))
 (y1 (U3 PassesOwn.never rfl (z02 rfl T.n_range (s1 (sv 8))) (sgn 10 J6.nd) (y1 (sst 11 J6.nd (z38 rfl zau rfl T.n_int PyProof.Rows.Boot.«int» (s1 (z6o (z2D rfl h64) (scl T.x_l_take (Y6 T) hr (s2 (sv 0) (sc0 y3))) (sc0 y3) (j8 _)))))
 (y8 (j7 (z0e rfl PySem.F.slot_list_append PySem.F.type_list_append G1 (sv 9) (s1 (sxx (W7 rfl (s2 (sxx (sv 4) (scl T.x_l_take (Y6 T) hr (s2 (sv 0) (sln T.n_len (s1 (sv 4)))))) (scl T.x_l_take (Y6 T) hr (s2 (sv 0) (sc0 y3))))) (sv 11))))))))
 (y8 (Q7 (sv 9))))))))))
def z41:MS:=(Z1 (Y1 (.nm 2) zcq)
 (Z1 (V8 (j6 (y0 0)) (.nm 3) (V8 (j6 (y4 (y0 3) (mC (.int 0)) ixD)) (.nm 4) (z20 (mC (.bool true)) (y0 2) (y0 4) z6h)))
 (Z1 (Y1 (.nm 5) z2G)
 (Z1 (V8 (z01 (y0 1)) (.nm 6) (Z1 (Y1 (.nm 7) (mCB [] lstM))
 (Z1 (V8 (j6 (mCB [(y0 2)] zdD)) (.nm 4) (Z1 (Y1 (.tp [(.nm 8),(.nm 9),(.nm 10)]) (Z2 z1D [(y0 0),(y0 1),(y0 6),(y0 4)]))
 (sIf (J4 (y4 (y0 9) (mCB [] lstM) eqD)) (Q8 (Q2 (y0 7) [(mCB [(y0 4),(y0 8),(y0 10)] j3)] z1N)) sNx)))
 (z20 (y0 7) (y0 5) (y0 6) z54))))
 (K5 (y0 5))))))
def z1E:FM:=z2c 11 z41
def z9e(T:Wd K mg):z0F P w K mg base CX0 3 T.x_l_steps.f T.x_l_steps.d z3T (spM (G0 K) 2 z1E):=okM z41 T.x_l_steps.F G5 λcdv A outer s H E F hr=>by
 have h64:=hr.units
 exact(y1 (sst 2 G5.nd (zcz rfl))
 (y1 (U3 PassesOwn.never rfl (X9 rfl (sv 0)) (sgn 3 G5.nd) (y8 (U3 PassesOwn.never rfl (X9 rfl (sxc (sv 3) y3)) (sgn 4 G5.nd) (y8 (zcA h64 (sc0 z6Y) (sv 2) (sv 4))))))
 (y1 (sst 5 G5.nd (z55 rfl))
 (y1 (zaE PassesOwn.never rfl (sv 1) (λ_=>(sgn 6 G5.nd)) (λ_=>(y1 (sst 7 G5.nd (W7 rfl (sa_of rfl .nil)))
 (y1 (U3 PassesOwn.never rfl (X9 rfl (z6p rfl (zf6 rfl hr.hd) rfl T.n_sorted PyProof.Rows.Boot.«sorted» (s1 (sv 2)))) (sgn 4 G5.nd) (y1 (z1v (scl T.x_l_press (z9c T) hr (s4 (sv 0) (sv 1) (sv 6) (sv 4))) (V2 rfl rfl (y6 (sgn 8 G5.nd) (y6 (sgn 9 G5.nd) (y6 (sgn 10 G5.nd) J0)))))
 (y8 (z0d (j4 (z2D rfl h64) (sv 9) (W7 rfl (sa_of rfl .nil)) (j8 _)) (y8 (j7 (z0e rfl PySem.F.slot_list_append PySem.F.type_list_append G1 (sv 7) (s1 (Y4 rfl (s3 (sv 4) (sv 8) (sv 10))))))) v5))))
 (y8 (z8f h64 (sv 7) (sv 5) (sv 6)))))))
 (y8 (Q7 (sv 5)))))))
def z42:MS:=(Z1 (Y1 (.nm 4) (mCB [] lstM))
 (Z1 (V8 (j6 (y4 (y0 0) (y0 3) z08)) (.tp [(.nm 5),(.nm 6),(.nm 7)]) (sIf (J4 (y4 (mSl (y0 1) (some (y0 2)) (some (y4 (y0 2) (mCB [(y0 6)] X8) K1))) (y0 6) eqD)) (Q8 (Q2 (y0 4) [(mCB [(y0 5),(mCB [(y4 (y0 2) (mCB [(y0 6)] X8) K1),(y0 7)] j3)] j3)] z1N)) sNx))
 (K5 (y0 4))))
def V1:FM:=z2c 8 z42
def z2R(T:Wd K mg):z0F P w K mg base CX0 1 T.x_l_goals.f T.x_l_goals.d z3U (spM (G0 K) 4 V1):=okM z42 T.x_l_goals.F z0R λcdv A outer s H E F hr=>by
 have h64:=hr.units
 exact(y1 (sst 4 z0R.nd (W7 rfl (sa_of rfl .nil)))
 (y1 (U3 PassesOwn.never rfl (X9 rfl (z1q rfl h64 (sv 0) (sv 3) (λ_ _=>rfl))) (V2 rfl rfl (y6 (sgn 5 z0R.nd) (y6 (sgn 6 z0R.nd) (y6 (sgn 7 z0R.nd) J0)))) (y8 (z0d (j4 (z2D rfl h64) (G9 rfl (sv 1) (v3 (sv 2)) (v3 (G7 rfl (sv 2) (sln T.n_len (s1 (sv 6)))))) (sv 6) (j8 _)) (y8 (j7 (z0e rfl PySem.F.slot_list_append PySem.F.type_list_append G1 (sv 4) (s1 (Y4 rfl (s2 (sv 5) (Y4 rfl (s2 (G7 rfl (sv 2) (sln T.n_len (s1 (sv 6)))) (sv 7))))))))) v5)))
 (y8 (Q7 (sv 4)))))
def z5o:MS:=(Z1 (Y1 (.nm 2) (K6 (mCB [(mC (.int 0)),(mCB [] j3)] j3) (mC (.int 0))))
 (Z1 (Y1 (.nm 3) (mCB [(mCB [(mC (.int 0)),(mCB [] j3)] j3)] lstM))
 (Z1 (z0A (λ_=>100000) (J4 (y4 (y0 3) (mCB [] lstM) neD)) (Z1 (Y1 (.nm 4) (mCB [] lstM))
 (Z1 (V8 (j6 (y0 3)) (.tp [(.nm 5),(.nm 6)]) (V8 (j6 (Z2 V1 [(y0 0),(y0 1),(y0 5),(y0 6)])) (.tp [(.nm 7),(.nm 8)]) (sIf (J4 (y4 (y0 8) (y0 2) z0c)) (Z1 (z20 (y4 (y4 (y0 2) (mCB [(y0 5),(y0 6)] j3) z08) (mC (.int 1)) K1) (y0 2) (y0 8) z00)
 (Q8 (Q2 (y0 4) [(y0 8)] z1N))) sNx)))
 (Y1 (.nm 3) (y0 4)))))
 (K5 (y0 2)))))
def z2o:FM:=z2c 9 z5o
def zaL(T:Wd K mg):z0F P w K mg base CX0 2 T.x_l_ways.f T.x_l_ways.d z5g (spM (G0 K) 2 z2o):=okM z5o T.x_l_ways.F X5 λcdv A outer s H E F hr=>by
 have h64:=hr.units
 exact(y1 (sst 2 X5.nd (z56 rfl h64 (Y4 rfl (s2 (sc0 y3) (Y4 rfl (sa_of rfl .nil)))) (sc0 y3)))
 (y1 (zfb (i:=3) X5.nd rfl (Or.inl rfl) (Or.inl rfl) (W7 rfl (s1 (Y4 rfl (s2 (sc0 y3) (Y4 rfl (sa_of rfl .nil)))))))
 (y1 (z0B PassesOwn.never (j4 (z92 rfl h64) (sv 3) (W7 rfl (sa_of rfl .nil)) (j8 _)) (y1 (sst 4 X5.nd (W7 rfl (sa_of rfl .nil)))
 (y1 (U3 PassesOwn.never rfl (X9 rfl (sv 3)) (V2 rfl rfl (y6 (sgn 5 X5.nd) (y6 (sgn 6 X5.nd) J0))) (y8 (U3 PassesOwn.never rfl (X9 rfl (scl T.x_l_goals (z2R T) hr (s4 (sv 0) (sv 1) (sv 5) (sv 6)))) (V2 rfl rfl (y6 (sgn 7 X5.nd) (y6 (sgn 8 X5.nd) J0))) (y8 (z0d (j4 (z2F h64) (sv 8) (sv 2) (by with_unfolding_all rfl)) (y1 (z23 h64 (G7 rfl (z1q rfl h64 (sv 2) (Y4 rfl (s2 (sv 5) (sv 6))) (λ_ _=>rfl)) (sc0 y3)) (sv 2) (sv 8))
 (y8 (j7 (z0e rfl PySem.F.slot_list_append PySem.F.type_list_append G1 (sv 4) (s1 (sv 8)))))) v5)))))
 (y8 (sst 3 X5.nd (sv 4))))))
 (y8 (Q7 (sv 2))))))
def z2S:MS:=(Z1 (Y1 (.nm 3) (Z2 z2o [(y0 1),(y0 2)]))
 (Z1 (Y1 (.nm 4) (mCB [(V4 (z01 (y0 3)) (.nm 0) (rt true) (mCB [(y0 0),(mCB [] lstM)] j3) 1 [])] z7m))
 (Z1 (V8 (z39 (y0 3)) (.tp [(.nm 5),(.nm 6)]) (V8 (j6 (Z2 V1 [(y0 1),(y0 2),(y0 5),(y0 6)])) (.tp [(.nm 7),(.nm 8)]) (Q8 (Q2 (y4 (y0 4) (y0 8) z08) [(mCB [(y0 5),(y0 6)] j3)] z1N))))
 (Z1 (Y1 (.nm 9) z2G)
 (Z1 (Y1 (.nm 10) (mCB [] lstM))
 (Z1 (V8 (z39 (y0 3)) (.tp [(.nm 5),(.nm 6)]) (sIf (J4 (y4 (Z2 z0C [(y0 0),(y0 6)]) (mCB [(mSl (y0 2) (some (y0 5)) none),(mCB [] lstM)] j3) eqD)) (Z1 (z20 (mC (.int 0)) (y0 9) (mCB [(y0 5),(y0 6)] j3) z00)
 (Q8 (Q2 (y0 10) [(mCB [(y0 5),(y0 6)] j3)] z1N))) sNx))
 (Z1 (z0A (λ_=>100000) (J4 (y4 (y0 10) (mCB [] lstM) neD)) (Z1 (Y1 (.nm 11) (mCB [] lstM))
 (Z1 (V8 (j6 (y0 10)) (.nm 8) (V8 (j6 (y4 (y0 4) (y0 8) z08)) (.nm 12) (sIf (J4 (y4 (y0 12) (y0 9) z0c)) (Z1 (z20 (y4 (y4 (y0 9) (y0 8) z08) (mC (.int 1)) K1) (y0 9) (y0 12) z00)
 (Q8 (Q2 (y0 11) [(y0 12)] z1N))) sNx)))
 (Y1 (.nm 10) (y0 11)))))
 (K5 (y0 9)))))))))
def z0U:FM:=z2c 13 z2S
def z7v(T:Wd K mg):z0F P w K mg base CX0 3 T.x_l_wanted.f T.x_l_wanted.d z2N (spM (G0 K) 3 z0U):=okM z2S T.x_l_wanted.F W0 λcdv A outer s H E F hr=>by
 have h64:=hr.units
 exact(y1 (sst 3 W0.nd (scl T.x_l_ways (zaL T) hr (s2 (sv 1) (sv 2))))
 (y1 (sst 4 W0.nd (z38 rfl (zcy h64 hr.hd) rfl T.n_dict PyProof.Rows.Boot.«dict» (s1 (zls (own:=["_law_standing"]) (qj:=[]) (ix:=[]) (sv 3) (λ_ _ _ _ _ _ _=>(z0J (z0E (i:=0) (show L8 (["_law_standing"]:List Str) by decide+kernel) rfl (Or.inl rfl)))) (λ_ _ _ _ _ _ _=>z22) (λ_ _ _ _ _ _ _=>(Y4 rfl (s2 (sv 0) (W7 rfl (sa_of rfl .nil)))))))))
 (y1 (zaF PassesOwn.never rfl (sv 3) (λ_=>(V2 rfl rfl (y6 (sgn 5 W0.nd) (y6 (sgn 6 W0.nd) J0)))) (λ_=>(y8 (U3 PassesOwn.never rfl (X9 rfl (scl T.x_l_goals (z2R T) hr (s4 (sv 1) (sv 2) (sv 5) (sv 6)))) (V2 rfl rfl (y6 (sgn 7 W0.nd) (y6 (sgn 8 W0.nd) J0))) (y8 (j7 (z0e rfl PySem.F.slot_list_append PySem.F.type_list_append G1 (z1q rfl h64 (sv 4) (sv 8) (λ_ _=>rfl)) (s1 (Y4 rfl (s2 (sv 5) (sv 6)))))))))))
 (y1 (sst 9 W0.nd (z55 rfl))
 (y1 (sst 10 W0.nd (W7 rfl (sa_of rfl .nil)))
 (y1 (zaF PassesOwn.never rfl (sv 3) (λ_=>(V2 rfl rfl (y6 (sgn 5 W0.nd) (y6 (sgn 6 W0.nd) J0)))) (λ_=>(y8 (z0d (j4 (z2D rfl h64) (scl T.x_l_read (z3Y T) hr (s2 (sv 0) (sv 6))) (Y4 rfl (s2 (G9 rfl (sv 2) (v3 (sv 5)) k5) (W7 rfl (sa_of rfl .nil)))) (j8 _)) (y1 (z23 h64 (sc0 y3) (sv 9) (Y4 rfl (s2 (sv 5) (sv 6))))
 (y8 (j7 (z0e rfl PySem.F.slot_list_append PySem.F.type_list_append G1 (sv 10) (s1 (Y4 rfl (s2 (sv 5) (sv 6)))))))) v5))))
 (y1 (z0B PassesOwn.never (j4 (z92 rfl h64) (sv 10) (W7 rfl (sa_of rfl .nil)) (j8 _)) (y1 (sst 11 W0.nd (W7 rfl (sa_of rfl .nil)))
 (y1 (U3 PassesOwn.never rfl (X9 rfl (sv 10)) (sgn 8 W0.nd) (y8 (U3 PassesOwn.never rfl (X9 rfl (z1q rfl h64 (sv 4) (sv 8) (λ_ _=>rfl))) (sgn 12 W0.nd) (y8 (z0d (j4 (z2F h64) (sv 12) (sv 9) (by with_unfolding_all rfl)) (y1 (z23 h64 (G7 rfl (z1q rfl h64 (sv 9) (sv 8) (λ_ _=>rfl)) (sc0 y3)) (sv 9) (sv 12))
 (y8 (j7 (z0e rfl PySem.F.slot_list_append PySem.F.type_list_append G1 (sv 11) (s1 (sv 12)))))) v5)))))
 (y8 (sst 10 W0.nd (sv 11))))))
 (y8 (Q7 (sv 9))))))))))
def z2T:MS:=(Z1 (Y1 (.nm 2) (Z2 z1E [(y0 0),(Z2 z0T [(y0 0)])]))
 (Z1 (Y1 (.nm 3) (Z2 z0U [(y0 0),(y0 2),(y0 1)]))
 (Z1 (Y1 (.nm 4) (mCB [(mC (.int 0)),(mCB [] j3)] j3))
 (Z1 (sIf (J4 (y4 (y0 4) (y0 3) z0c)) (K5 (mC .non)) sNx)
 (Z1 (Y1 (.nm 5) (mCB [] lstM))
 (Z1 (V8 (X4 [(y4 (y0 3) (y0 4) z08)]) (.nm 6) (Z1 (Y1 (.nm 7) (Z2 V1 [(y0 2),(y0 1),(y4 (y0 4) (mC (.int 0)) ixD),(y4 (y0 4) (mC (.int 1)) ixD)]))
 (Z1 (Y1 (.nm 7) (V4 (j6 (y0 7)) (.tp [(.nm 0),(.nm 1)]) (J4 (y4 (z53 (y0 2) (y0 1) (bd (mC (.int 1)) zcd)) (y4 (y4 (y0 2) (y0 3) z08) (mC (.int 1)) zdr) eqD)) (mCB [(y0 0),(y0 1)] j3) 2 [3,4]))
 (Z1 (Q8 (Q2 (y0 5) [(y4 (y4 (y0 7) (mC (.int 0)) ixD) (mC (.int 0)) ixD)] z1N))
 (Y1 (.nm 4) (y4 (y4 (y0 7) (mC (.int 0)) ixD) (mC (.int 1)) ixD))))))
 (K5 (y0 5))))))))
def z0V:FM:=z2c 8 z2T
def z7w(T:Wd K mg):z0F P w K mg base CX0 4 T.x_l_fewest.f T.x_l_fewest.d z2O (spM (G0 K) 2 z0V):=okM z2T T.x_l_fewest.F U0 λcdv A outer s H E F hr=>by
 have h64:=hr.units
 exact(y1 (sst 2 U0.nd (scl T.x_l_steps (z9e T) hr (s2 (sv 0) (scl T.x_l_starts (z7t T) hr (s1 (sv 0))))))
 (y1 (ss_set (λ{te} h=>z2e (i:=3) U0.nd rfl (Or.inr rfl) h) (scl T.x_l_wanted (z7v T) hr (s3 (sv 0) (sv 2) (sv 1))))
 (y1 (ss_set (λ{te} h=>z2e (i:=4) U0.nd rfl (Or.inr rfl) h) (Y4 rfl (s2 (sc0 y3) (Y4 rfl (sa_of rfl .nil)))))
 (y1 (z0d (j4 (z2F h64) (sv 4) (sv 3) (by with_unfolding_all rfl)) (y8 (Q7 (sc0 z30))) v5)
 (y1 (sst 5 U0.nd (W7 rfl (sa_of rfl .nil)))
 (y1 (U3 PassesOwn.never rfl (z02 rfl T.n_range (s1 (z1q rfl h64 (sv 3) (sv 4) (λ_ _=>rfl)))) (sgn 6 U0.nd) (y1 (sst 7 U0.nd (scl T.x_l_goals (z2R T) hr (s4 (sv 2) (sv 1) (sxc (sv 4) y3) (sxc (sv 4) y3))))
 (y1 (csQ (own:=["_law_key", "_law_goal"]) (qj:=["_law_wanted_here", "_law_here"]) (ix:=[3,4]) 7 U0.nd (X9 rfl (sv 7)) (λ_ _ _ _ _ _ _=>(V2 rfl rfl (y6 (z0J (z0E (i:=0) (show L8 (["_law_key", "_law_goal", "_law_wanted_here", "_law_here"]:List Str) by decide+kernel) rfl (Or.inl rfl))) (y6 (z0J (z0E (i:=1) (show L8 (["_law_key", "_law_goal", "_law_wanted_here", "_law_here"]:List Str) by decide+kernel) rfl (Or.inl rfl))) J0)))) (λ_ _ _ _ _ _ _=>(zf9 (j4 (z2D rfl h64) (zfd rfl h64 (sv 2) (sv 1) (zhW rfl (sc0 y3)) ⟨rfl,rfl,rfl,rfl⟩) (zhV rfl (z1q rfl h64 (sv 2) (sv 3) (λ_ _=>rfl)) (sc0 y3)) (j8 _)))) (λ_ _ _ _ _ _ _=>(Y4 rfl (s2 (sv 0) (sv 1)))))
 (y1 (j7 (z0e rfl PySem.F.slot_list_append PySem.F.type_list_append G1 (sv 5) (s1 (sxc (sxc (sv 7) y3) y3))))
 (y8 (ss_set (λ{te} h=>z2e (i:=4) U0.nd rfl (Or.inr rfl) h) (sxc (sxc (sv 7) y3) y3)))))))
 (y8 (Q7 (sv 5)))))))))
def zfj:MS:=(Z1 (V8 (X4 [(mCB [(mC (.int 1)),(mCB [(mC (.int 3)),(mCB [(y0 0)] X8)] zeR)] zgf)]) (.nm 1) (Z1 (Y1 (.nm 2) (Z2 z3W [(y0 0),(y0 1)]))
 (Z1 (Y1 (.nm 3) (Z2 z0S [(y0 2)]))
 (Z1 (Y1 (.nm 4) (Z2 z09 [(y0 2),(y0 3),(y4 (mCB [(mC (.int 24)),(mC (.int 6))] lstM) (mCB [(y4 (mCB [(y0 3)] X8) (mC (.int 12)) gtD)] zbJ) ixD)]))
 (Z1 (Y1 (.nm 5) (Z2 z0V [(y0 3),(y0 4)]))
 (Z1 (Y1 (.nm 6) (mCB [(mCB [(y0 3)] z4m),(mCB [(y0 4)] z4m)] lstM))
 (V8 (X4 [(mC (.int 2))]) (.nm 7) (Z1 (Y1 (.nm 8) (Z2 V0 [(y4 (y0 6) (mC (.int 0)) ixD),(y4 (y0 6) (mC (.int 1)) ixD)]))
 (Z1 (sIf (mOr (J4 (y4 (y0 6) (mCB [(y0 3),(y0 4)] lstM) neD)) (J4 (y4 (y0 8) (y0 5) neD))) (K5 (mC (.bool false))) sNx)
 (sIf (J4 (y4 (y0 8) (mC .non) zgc)) (Z1 (sIf (mOr (z9s (z1r (zeT "list" (y0 8)))) (z9s (z1r (mCB [(V4 (j6 (y0 8)) (.nm 0) (rt true) (Z2 z0q [(y0 0)]) 1 [])] zdv)))) (K5 (mC (.bool false))) sNx)
 (Z1 (sIf (J4 (y4 (Z2 z0C [(y0 3),(y0 8)]) (mCB [(y0 4),(mCB [] lstM)] j3) neD)) (K5 (mC (.bool false))) sNx)
 (Q8 (Q2 (y0 8) [(mC (.int 0))] z1N)))) sNx))))))))))
 (K5 (mC (.bool true))))
def f_law:FM:=z2c 9 zfj
def zhY(T:Wd K mg):z0F P w K mg base CX0 7 T.x_law.f T.x_law.d zfi (spM (G0 K) 1 f_law):=okM zfj T.x_law.F z2n λcdv A outer s H E F hr=>by
 have h64:=hr.units
 exact(y1 (U3 PassesOwn.never rfl (z02 rfl T.n_range (s1 (z6p rfl (zhH rfl) rfl T.n_max PyProof.Rows.Boot.«max» (s2 (sc0 y3) (z6p rfl (zdA rfl) rfl T.n_min PyProof.Rows.Boot.«min» (s2 (sc0 y3) (sln T.n_len (s1 (sv 0))))))))) (sgn 1 z2n.nd) (y1 (sst 2 z2n.nd (scl T.x_l_bag (zcF T) hr (s2 (sv 0) (sv 1))))
 (y1 (sst 3 z2n.nd (scl T.x_l_table (z9b T) hr (s1 (sv 2))))
 (y1 (sst 4 z2n.nd (scl T.x_l_sounds (z7u T) hr (s3 (sv 2) (sv 3) (sxx (W7 rfl (s2 (sc0 y3) (sc0 y3))) (z38 rfl zau rfl T.n_int PyProof.Rows.Boot.«int» (s1 (z6o z91 (sln T.n_len (s1 (sv 3))) (sc0 y3) (j8 _))))))))
 (y1 (sst 5 z2n.nd (scl T.x_l_fewest (z7w T) hr (s2 (sv 3) (sv 4))))
 (y1 (sst 6 z2n.nd (W7 rfl (s2 (z38 rfl (z7g rfl) rfl T.n_list PyProof.Rows.Boot.«list» (s1 (sv 3))) (z38 rfl (z7g rfl) rfl T.n_list PyProof.Rows.Boot.«list» (s1 (sv 4))))))
 (y8 (U3 PassesOwn.never rfl (z02 rfl T.n_range (s1 (sc0 y3))) (sgn 7 z2n.nd) (y1 (sst 8 z2n.nd (scl T.x_p_fewest_keys (z3c T) hr (s2 (sxc (sv 6) y3) (sxc (sv 6) y3))))
 (y1 (z0d (SW.sb (zf7 (j4 (z92 rfl h64) (sv 6) (W7 rfl (s2 (sv 3) (sv 4))) (j8 _)) (zaA (j4 (z92 rfl h64) (sv 8) (sv 5) (j8 _))))) (y8 (Q7 (sc0 z6Y))) v5)
 (y8 (z0d (j4 zeX (sv 8) (sc0 z30) (j8 _)) (y1 (z0d (SW.sb (zf7 (z6n (z1b rfl (zaB rfl (by decide) rfl T.n_isinstance (sv 8) (z6Z (v:= .ty "list") rfl T.n_list PyProof.Rows.Boot.«list» rfl)))) (zaA (z6n (z1b rfl (z6p rfl (zhI rfl hr.hd) rfl T.n_all PyProof.Rows.Boot.«all» (s1 (cmQ (own:=["_law_key"]) (qj:=[]) (ix:=[]) (X9 rfl (sv 8)) (λ_ _ _ _ _ _ _=>(z0J (z0E (i:=0) (show L8 (["_law_key"]:List Str) by decide+kernel) rfl (Or.inl rfl)))) (λ_ _ _ _ _ _ _=>z22) (λ_ _ _ _ _ _ _=>(scl T.x_l_whole (z9d T) hr (s1 (sv 0)))))))))))) (y8 (Q7 (sc0 z6Y))) v5)
 (y1 (z0d (j4 (z92 rfl h64) (scl T.x_l_read (z3Y T) hr (s2 (sv 3) (sv 8))) (Y4 rfl (s2 (sv 4) (W7 rfl (sa_of rfl .nil)))) (j8 _)) (y8 (Q7 (sc0 z6Y))) v5)
 (y8 (j7 (z0e rfl PySem.F.slot_list_append PySem.F.type_list_append G1 (sv 8) (s1 (sc0 y3))))))) v5))))))))))))
 (y8 (Q7 (sc0 z6Y))))
end
end My
namespace Mi
open PySem L2
def z3l{α:Type}(xs ys:List α)(k:Nat)(h:xs.length=k):(xs++ys).drop k=ys:=by subst h;simp
def z8g{α:Type}(xs ys:List α)(k:Nat)(h:xs.length=k):(xs++ys).take k=xs:=by subst h;simp
theorem z43: ∀ds:List D,Q5 (ds.map some)=some ds
 |[]=>rfl
 |d::ds=>by simp[Q5,z43 ds]
def z9f{t:D}{ts:List D}{n':Nat}{s:Stt}:z2C (.ok t ts n') ts s= .ok t {s with n:=n'}:=by
 delta z2C;simp
end Mi
set_option maxHeartbeats 40000
namespace Mi
open PySem L2
class Kq{α:Type}(f:α):Type where
instance kq{α:Type}(f:α):Kq f:=⟨⟩
def Res.bnd{α β:Type}(f:α->Stt->Res β)[Kq f](r:Res α):Res β:=match r with
 | .ok a s=>f a s
 | .ex d s=> .ex d s
 | .no=> .no
def z44{α β:Type}{a:α}{s:Stt}{f:α->Stt->Res β}:((Res.ok a s).bnd f:Res β)=f a s:=(rfl)
def Res.lf{α:Type}(f:α->MS)[Kq f](r:Res α):RS:=match r with
 | .ok a s=>f a s
 | .ex d s=> .ex d s
 | .no=> .no
def z2a{α:Type}{a:α}{s:Stt}{f:α->MS}:((Res.ok a s).lf f:RS)=f a s:=(rfl)
def RS.sq(m:MS)[Kq m](r:RS):RS:=match r with
 | .nx s=>m s
 |r=>r
def zkl{s:Stt}{m:MS}:((RS.nx s).sq m:RS)=m s:=(rfl)
def zkm{d:D}{s:Stt}{m:MS}:((RS.rt d s).sq m:RS)= .rt d s:=(rfl)
def RS.fin(r:RS):RF:=match r with
 | .nx s'=>match Q5 s'.tm with|some ts'=> .ok .non ts' s'.n|none=> .no
 | .rt t s'=>match Q5 s'.tm with|some ts'=> .ok t ts' s'.n|none=> .no
 | .ex d s'=>match Q5 s'.tm with|some ts'=> .ex d ts' s'.n|none=> .no
 |_=> .no
def zlt(o:Option (List D))(t:D)(n:Nat):RF:=match o with|some ts=> .ok t ts n|none=> .no
def zaM{ts:List D}{t:D}{n:Nat}:zlt (some ts) t n= .ok t ts n:=(rfl)
def zkn{t:D}{σ tm:Qq}{n:Nat}:(RS.rt t ⟨σ,tm,n⟩).fin=zlt (Q5 tm) t n:=(rfl)
def zko{nl:Nat}{mb:MS}{ts:List D}{n:Nat}:z2c nl mb ts n=(mb ⟨ts.map some++B8 (nl -ts.length) none,ts.map some,n⟩).fin:=(rfl)
section
variable{α β:Type}{m ma mb mc:M D}{s:Stt}{ms:List (M D)}{σ tm:Qq}{n:Nat}
def zkp{m:M α}{f:α->M β}:bd m f s=(m s).bnd f:=(rfl)
def zlX{a:α}:rt a s= .ok a s:=(rfl)
def zhZ{t:D}:Stt.psh ⟨σ,tm,n⟩ t=⟨σ,some t::tm,n⟩:=(rfl)
def zkq:Stt.nxt ⟨σ,tm,n⟩=⟨σ,tm,n+1⟩:=(rfl)
def zkr{t:D}{r:Qq}:pop ⟨σ,some t::r,n⟩= .ok t ⟨σ,r,n⟩:=(rfl)
def vOf(o:Option (Option D))(s:Stt):Res D:=match o with
 |some (some t)=> .ok t s
 |_=> .no
def zcG{t:D}:vOf (some (some t)) s= .ok t s:=(rfl)
def zks{i:Nat}:y0 i ⟨σ,tm,n⟩=vOf (σ[i]?) ⟨σ,tm,n⟩:=by
 delta y0 vOf
 cases σ[i]? with
 |none=>rfl
 |some o=>cases o<;>rfl
def x_C{d:D}:mC d s= .ok d s:=(rfl)
def zcH{g:D->D->M D}:y4 ma mb g s=(ma s).bnd λx s1=>(mb (s1.psh x)).bnd λy s2=>(pop s2).bnd λx' s3=>g x' y s3:=(rfl)
def zi0:J4 m s=(m s).bnd zhl:=(rfl)
def zi1{b:Bool}:zhl (.bool b) s= .ok b s:=(rfl)
def zi2:z1r m s=(m s).bnd zeN:=(rfl)
def zlY{b:Bool}:zeN (.bool b) s= .ok b s:=(rfl)
def zlZ{ds:List D}:zeN (.tup ds) s= .ok (!ds.isEmpty) s:=(rfl)
def zm0{l:Nat}{ds:List D}:zeN (.lst l ds) s= .ok (!ds.isEmpty) s:=(rfl)
def zkt{m m':M Bool}:z9r m m' s=(m s).bnd λb=>zdt b m' (rt false):=(rfl)
def zm1{m m':M Bool}:mOr m m' s=(m s).bnd λb=>zdt b (rt true) m':=(rfl)
def zku{m:M Bool}:z9s m s=(m s).bnd λb s1=> .ok (!b) s1:=(rfl)
def zi3{m m':M D}:z8W m m' s=(m s).bnd λd s1=>(zhl d s1).bnd λb=>zdt b m' (rt (.bool false)):=by
 delta z8W J4 bd Res.bnd
 cases m s<;>rfl
def zi4{m:M D}:zcf m s=(m s).bnd λd s1=>(zhl d s1).bnd λb=>rt (.bool (!b)):=by
 delta zcf J4 bd Res.bnd
 cases m s<;>rfl
def zm2{m m':M α}:zdt true m m' s=m s:=(rfl)
def zm3{m m':M α}:zdt false m m' s=m' s:=(rfl)
def zfk:W8 [] s= .ok [] s:=(rfl)
def z2U:W8 (m::ms) s=(m s).bnd λx s1=>(W8 ms (s1.psh x)).bnd λys s2=>(pop s2).bnd λx' s3=> .ok (x'::ys) s3:=(rfl)
def zkv{g:List D->M D}:mCB ms g s=(W8 ms s).bnd g:=(rfl)
def zi5{f:FM}:Z2 f ms s=(W8 ms s).bnd λts s1=>z2C (f ts s1.n) ts s1:=(rfl)
def zkw(o:Option Bool)(s:Stt):Res D:=match o with
 |some b=> .ok (.bool b) s
 |none=> .no
def zaN{b:Bool}:zkw (some b) s= .ok (.bool b) s:=(rfl)
def zkx{T:String}:zeT T m s=(m s).bnd λd s1=>zkw (isiD T d) s1:=by
 delta zeT bd Res.bnd zkw
 cases m s with
 |ok d s1=>dsimp only;cases isiD T d<;>rfl
 |ex d s1=>rfl
 |no=>rfl
def zky(o:Option Int)(s:Stt):Res (Option Int):=match o with
 |some i=> .ok (some i) s
 |none=> .no
def zaO{i:Int}:zky (some i) s= .ok (some i) s:=(rfl)
def zfl:z4l none s= .ok none s:=(rfl)
def zfm:z4l (some m) s=(m s).bnd λd s1=>zky (mInt d) s1:=by
 show bd m (λd=>match mInt d with|some i=>rt (some i)|none=>fl) s=_
 delta bd Res.bnd
 cases m s with
 |ok d s1=>show(match mInt d with|some i=>rt (some i)|none=>fl:M (Option Int)) s1=zky (mInt d) s1;cases mInt d<;>rfl
 |ex d s1=>rfl
 |no=>rfl
def zi6{i:Int}:mInt (.int i)=some i:=(rfl)
def zm4{lo hi:Option (M D)}:mSl m lo hi s=(m s).bnd λx s1=>(z4l lo (s1.psh x)).bnd λl s2=>(z4l hi s2).bnd λh s3=>(pop s3).bnd λx' s4=>slD x' l h s4:=(rfl)
def zi7{i j:Int}:K1 (.int i) (.int j) s= .ok (.int (i+j)) s:=(rfl)
def z6w{a b:List D}(h:a.length+b.length<=qg):K1 (.tup a) (.tup b) s= .ok (.tup (a++b)) s:=by erw[K1,qy h];rfl
def zkz{i j:Int}:zdr (.int i) (.int j) s= .ok (.int (i -j)) s:=(rfl)
def zaP{i j:Int}(h:zg9 i j):z4W (.int i) (.int j) s= .ok (.int (i/j)) s:=by erw[z4W,qy h];rfl
def z45{i j:Int}(h:0<j):z3j (.int i) (.int j) s= .ok (.int (i %j)) s:=by erw[z3j,qy h];rfl
def zfn{i j:Int}(h:zga i j):zds (.int i) (.int j) s= .ok (.int (i^j.toNat)) s:=by erw[zds,qy h];rfl
def zm5{i j:Int}:ltD (.int i) (.int j) s= .ok (.bool (decide (i<j))) s:=(rfl)
def zm6{i j:Int}:gtD (.int i) (.int j) s= .ok (.bool (decide (j<i))) s:=(rfl)
def zi8(h:eqC t t'=true):eqD t t' s= .ok (.bool (PyData.eqv (er t) (er t'))) s:=by erw[eqD,qy h];rfl
def zjw(h:eqC t t'=true):neD t t' s= .ok (.bool (!PyData.eqv (er t) (er t'))) s:=by erw[neD,qy h];rfl
def zkA{ds:List D}{i:Int}:ixD (.tup ds) (.int i) s=zgd (atI ds i) s:=(rfl)
def zkB{l:Nat}{ds:List D}{i:Int}:ixD (.lst l ds) (.int i) s=zgd (atI ds i) s:=(rfl)
def zkC{ds:List D}{i:Int}:ixD (.ro ds) (.int i) s=zgd (atI ds i) s:=(rfl)
def zkD{d:D}:zgd (some d) s= .ok d s:=(rfl)
def zkE{ds:List D}{lo hi:Option Int}:slD (.tup ds) lo hi s= .ok (.tup (z67 ds lo hi)) s:=(rfl)
def zkF{l:Nat}{ds:List D}{lo hi:Option Int}:slD (.lst l ds) lo hi s= .ok (.lst s.n (z67 ds lo hi)) s.nxt:=(rfl)
def zcI{ts:List D}(h:ts.length<=qg):j3 ts s= .ok (.tup ts) s:=by erw[j3,qy h];rfl
def zfo{ts:List D}(h:ts.length<=qg):lstM ts s= .ok (.lst s.n ts) s.nxt:=by erw[lstM,qy h];rfl
def zi9{ds:List D}:X8 [.tup ds] s= .ok (.int ds.length) s:=(rfl)
def zia{l:Nat}{ds:List D}:X8 [.lst l ds] s= .ok (.int ds.length) s:=(rfl)
def zib{ds:List D}:X8 [.ro ds] s= .ok (.int ds.length) s:=(rfl)
def zkG{i:Int}:zge [.int i] s= .ok (.int (if i<0 then -i else i)) s:=(rfl)
def zkH{i j:Int}:zeR [.int i, .int j] s= .ok (.int (if j<i then j else i)) s:=(rfl)
def zkI{i j:Int}:zgf [.int i, .int j] s= .ok (.int (if j>i then j else i)) s:=(rfl)
def zic{b:Bool}:zbJ [.bool b] s= .ok (.int (if b then 1 else 0)) s:=(rfl)
def zid{ds:List D}:z68 [.tup ds] s= .ok (.tup ds) s:=(rfl)
def zie{l:Nat}{ds:List D}:z68 [.lst l ds] s= .ok (.tup ds) s:=(rfl)
def zfp{ds:List D}:z4m [.tup ds] s= .ok (.lst s.n ds) s.nxt:=(rfl)
def zfq{l:Nat}{ds:List D}:z4m [.lst l ds] s= .ok (.lst s.n ds) s.nxt:=(rfl)
def zkJ{l:Nat}{bs:List Bool}(h:z06 ds=some bs):zdv [.lst l ds] s= .ok (.bool (bs.all id)) s:=by erw[zdv,h];rfl
def zkK{l:Nat}{bs:List Bool}(h:z06 ds=some bs):zgg [.lst l ds] s= .ok (.bool (bs.any id)) s:=by erw[zgg,h];rfl
def zkL{a b:MS}:Z1 a b s=(a s).sq b:=by
 delta Z1 RS.sq
 cases a s<;>rfl
def zif{m:M α}{f:α->MS}:z1o m f s=(m s).lf f:=(rfl)
def zkM:sNx s= .nx s:=(rfl)
def zig:K5 m s=(m s).lf λd s1=> .rt d s1:=(rfl)
def zfr:Q8 m s=(m s).lf λ_ s1=> .nx s1:=(rfl)
def zkN{c:M Bool}{a b:MS}:sIf c a b s=(c s).lf λk=>zdw k a b:=(rfl)
def zm7{a b:MS}:zdw true a b s=a s:=(rfl)
def zm8{a b:MS}:zdw false a b s=b s:=(rfl)
def zkO(o:Option Qq)(s:Stt):RS:=match o with
 |some σ'=> .nx {s with σ:=σ'}
 |none=> .no
def zaQ{σ':Qq}:zkO (some σ') ⟨σ,tm,n⟩= .nx ⟨σ',tm,n⟩:=(rfl)
def zih{g:Tg}:Y1 g m s=(m s).lf λd s1=>zkO (asg g d s1.σ) s1:=by
 delta Y1 z1o Res.lf zkO
 cases m s with
 |ok d s1=>first|(dsimp only;cases asg g d s1.σ<;>rfl)|(dsimp only;done)|rfl
 |ex d s1=>rfl
 |no=>rfl
def zkP{me mo mi:M D}{g:D->D->D->MS}:z20 me mo mi g s=(me s).lf λv s1=>(mo (s1.psh v)).lf λo s2=>(mi (s2.psh o)).lf λi s3=>(pop s3).lf λo' s4=>(pop s4).lf λv' s5=>g o' i v' s5:=(rfl)
def zii{l:Nat}{ds:List D}{k:Int}{j:Nat}(e:ixN ds.length k=some j)(h:l∉labs v):zeW (.lst l ds) (.int k) v s= .nx (s.put l (.lst l (ds.set j v))):=by erw[zeW,e,qy h]
def zij{mo:M D}{g:D->List D->M D}:Q2 mo ms g s=(mo s).bnd λx s1=>(isL x s1).bnd λ_ s2=>(W8 ms (s2.psh x)).bnd λys s3=>(pop s3).bnd λx' s4=>g x' ys s4:=(rfl)
def zkQ{l:Nat}{ds:List D}:isL (.lst l ds) s= .ok () s:=(rfl)
def y_app{l:Nat}{ds:List D}(h:ds.length<qg/\l∉labs y):z1N (.lst l ds) [y] s= .ok .non (s.put l (.lst l (ds++[y]))):=by erw[z1N,qy h]
end
def z4C{α:Type}{xs:List α}{i:Int}{d:α}(h0:0<=i)(h:xs[i.toNat]? =some d):atI xs i=some d:=by
 obtain⟨j,rfl⟩:=Int.eq_ofNat_of_zero_le h0
 exact zem (by simpa using h)
end Mi
set_option maxHeartbeats 400000
namespace Mi
open PySem L2
def pl(l:Nat)(d:D):Nat->Option D:=λk=>if k=l then some d else none
def z1F{σ tm:Qq}{n l:Nat}{d:D}:Stt.put ⟨σ,tm,n⟩ l d=⟨rpO (pl l d) σ,rpO (pl l d) tm,n⟩:=(rfl)
def U2{l:Nat}(h:l∉labs t):rp (pl l d) t=t:=zae t λk hk=>by
 delta pl;rw[qh];intro e;subst e;exact h hk
def Z8{f:Nat->Option D}:rpO f []=[]:=(rfl)
def zcJ{f:Nat->Option D}{r:Qq}:rpO f (none::r)=none::rpO f r:=(rfl)
def zcK{f:Nat->Option D}{d:D}{r:Qq}:rpO f (some d::r)=some (rp f d)::rpO f r:=(rfl)
def zik{l:Nat}{d:D}{b:List D}:rp (pl l d) (.lst l b)=d:=by erw[rp,pl,if_true]
def J8{f:Nat->Option D}{i:Int}:rp f (.int i)= .int i:=(rfl)
def zaR{f:Nat->Option D}{ds:List D}:rp f (.tup ds)= .tup (rpL f ds):=(rfl)
def V3{f:Nat->Option D}:rpL f []=[]:=(rfl)
def U8{f:Nat->Option D}{d:D}{ds:List D}:rpL f (d::ds)=rp f d::rpL f ds:=(rfl)
mutual
theorem z4D{l:Nat}: ∀t:D,l∉labs t->findT l t=none
 | .non,_=>rfl
 | .bool _,_=>rfl
 | .int _,_=>rfl
 | .str _,_=>rfl
 | .exc _,_=>rfl
 | .fn _,_=>rfl
 | .tup ds,h=>by erw[labs] at h;erw[findT];exact findL_none ds h
 | .ro ds,h=>by erw[labs] at h;erw[findT];exact findL_none ds h
 | .fdc ks ds,h=>by erw[labs] at h;erw[findT];exact findL_none ds h
 | .lst k ds,h=>by
  erw[labs,m3,not_or] at h;erw[findT];rw[qh λe=>h.1 e.symm];exact findL_none ds h.2
 | .dct k ks ds,h=>by
  erw[labs,m3,l4,not_or] at h;erw[findT];rw[qh λe=>h.1 e.symm];exact findL_none ds h.2.2
 | .obj k c ks ds,h=>by
  erw[labs,m3,not_or] at h;erw[findT];rw[qh λe=>h.1 e.symm];exact findL_none ds h.2
theorem findL_none{l:Nat}: ∀t:List D,l∉qq t->findL l t=none
 |[],_=>rfl
 |d::ds,h=>by
  erw[qq,l4,not_or] at h
  erw[findL,z4D d h.1,findL_none ds h.2]
end
def z0W{t:D}{l n' n:Nat}(hb:qq b=[])(hb':qq b'=[])(hr:qq r=[])(f1:rpO (pl l (.lst l b)) σ=σ)(f2:rpO (pl l (.lst l b)) tm=tm):
 z2C (.ok t (.lst l b'::r) n') (.lst l b::r) ⟨σ,tm,n⟩= .ok t ⟨rpO (pl l (.lst l b')) σ,rpO (pl l (.lst l b')) tm,n'⟩:=by
 have e:(λk=>findL k (.lst l b'::r))=pl l (.lst l b'):=by
  funext k
  erw[findL,findT,pl]
  by_cases h:l=k
  .subst h;rw[qy rfl,qy rfl]
  .rw[qh h,qh λq=>h q.symm,findL_none b' (by rw[hb'];exact m8),findL_none r (by rw[hr];exact m8)]
 delta z2C
 by_cases h:(D.lst l b'::r)=(D.lst l b::r)
 .have hh:b'=b:=by injection h with h _;injection h
  subst hh
  erw[if_true]
  rw[f1,f2]
 .erw[qh h]
  rw[qy,e]
  intro k _ hk
  erw[qq,labs,hb,hr,l7,m4] at hk
  subst hk
  have:=congrFun e k
  rw[show findL k (D.lst k b'::r)=pl k (D.lst k b') k from this];simp[pl]
end Mi
set_option maxHeartbeats 4000000
namespace Mi
open PySem L2
def zcL{K:ItK}{g:Tg}{mt:M Bool}{me:M D}{qv:List D}{its:Qq}{ol k:Nat}{β:Type}{cap σ0 tm0:β->Qq}{frd:D->Qq}{PL:Nat->Nat->List D->β->Prop}
 (hk:its.length=K.k) (hol: ∀b,(σ0 b).length=ol) (hz:qv.length<qg) (hat: ∀i rest,K.at' i (its++rest)=some qv[i]?)
 (has: ∀d∈qv,∀b (pre:Qq),pre.length=k->asg g d (pre++cap b)=some (frd d++cap b)) (hfr: ∀d∈qv,(frd d).length=k)
 (hme: ∀i (hi:i<qv.length) acc (b:β) n,acc.length<=i->PL i n acc b->∃ok n1,mt ⟨frd qv[i]++cap b,acc.reverse.map some++(σ0 b++(its++tm0 b)),n⟩= .ok ok ⟨frd qv[i]++cap b,acc.reverse.map some++(σ0 b++(its++tm0 b)),n1⟩/\
  ((ok=false/\PL (i+1) n1 acc b)\/(ok=true/\∃y b' n',PL (i+1) n' (acc++[y]) b'/\me ⟨frd qv[i]++cap b,acc.reverse.map some++(σ0 b++(its++tm0 b)),n1⟩= .ok y ⟨frd qv[i]++cap b',acc.reverse.map some++(σ0 b'++(its++tm0 b')),n'⟩))):
 ∀f i acc (b:β) (pre:Qq) n,i+f=qv.length->acc.length<=i->pre.length=k->PL i n acc b->∃ys b' n',PL qv.length n' ys b'/\z1t K g mt me ol f i acc.length ⟨pre++cap b,acc.reverse.map some++(σ0 b++(its++tm0 b)),n⟩= .ok (.lst n' ys) ⟨σ0 b',tm0 b',n'+1⟩:=by
 intro f
 induction f with
 |zero=>
  intro i acc b pre n hi ha hp hq
  obtain rfl:i=qv.length:=by lia
  refine⟨acc,b,n,hq, ?_⟩
  have l1:(acc.reverse.map some).length=acc.length:=by simp
  have e1:(acc.reverse.map some++(σ0 b++(its++tm0 b))).drop (acc.length+ol)=its++tm0 b:=by
   rw[<-A3];exact z3l _ _ _ (by simp[hol])
  unfold z1t
  erw[e1,hat,List.getElem?_eq_none (i6 _)]
  rw[z8g _ _ _ l1,<-S2,O4,z43]
  erw[z3l _ _ _ l1,z8g _ _ _ (hol b)]
  rw[<-R4,e1,z3l _ _ _ hk]
 |succ f ih=>
  intro i acc b pre n hi ha hp hq
  have hlt:i<qv.length:=by lia
  have hm:=A9 hlt
  have e1:(acc.reverse.map some++(σ0 b++(its++tm0 b))).drop (acc.length+ol)=its++tm0 b:=by
   rw[<-A3];exact z3l _ _ _ (by simp[hol])
  obtain⟨ok,n1,h1,⟨rfl,h2⟩|⟨rfl,y,b',n',h2,h3⟩⟩:=hme i hlt acc b n ha hq
  .obtain⟨ys,b',n',g1,g2⟩:=ih (i+1) acc b (frd qv[i]) n1 ⋯ ⋯ (hfr _ hm) h2
   refine⟨ys,b',n',g1, ?_⟩
   unfold z1t
   erw[e1,hat,List.getElem?_eq_getElem hlt,has _ hm b pre hp,h1]
   exact g2
  .obtain⟨ys,b2,n2,g1,g2⟩:=ih (i+1) (acc++[y]) b' (frd qv[i]) n' ⋯ (by simp;lia) (hfr _ hm) h2
   refine⟨ys,b2,n2,g1, ?_⟩
   unfold z1t
   erw[e1,hat,List.getElem?_eq_getElem hlt,has _ hm b pre hp,h1,qy (show acc.length<qg by lia),h3]
   erw[m5,A4,C8,N8,P4,C3,O0,B0,t5,i7,t7,C4,A3] at g2
   exact g2
def z5p{mi:M ItK}{K:ItK}{g:Tg}{mt:M Bool}{me:M D}{qv:List D}{its:Qq}{ix:List Nat}{k:Nat}{β:Type}{cap σ tm:β->Qq}(frd:D->Qq)(PL:Nat->Nat->List D->β->Prop){s:Stt}{b:β}{n:Nat}
 (hcap: ∀b,cap b=ix.map λj=>((σ b)[j]?).getD none)
 (hc:mi s= .ok K ⟨σ b,its++tm b,n⟩) (hk:its.length=K.k) (hol: ∀b',(σ b').length=(σ b).length) (hz:qv.length<qg) (hat: ∀i rest,K.at' i (its++rest)=some qv[i]?) (hlen:K.len (its++tm b)=qv.length)
 (has: ∀d∈qv,∀b (pre:Qq),pre.length=k->asg g d (pre++cap b)=some (frd d++cap b)) (hfr: ∀d∈qv,(frd d).length=k) (h0:PL 0 n [] b)
 (hme: ∀i (hi:i<qv.length) acc (b:β) n,acc.length<=i->PL i n acc b->∃ok n1,mt ⟨frd qv[i]++cap b,acc.reverse.map some++(σ b++(its++tm b)),n⟩= .ok ok ⟨frd qv[i]++cap b,acc.reverse.map some++(σ b++(its++tm b)),n1⟩/\
  ((ok=false/\PL (i+1) n1 acc b)\/(ok=true/\∃y b' n',PL (i+1) n' (acc++[y]) b'/\me ⟨frd qv[i]++cap b,acc.reverse.map some++(σ b++(its++tm b)),n1⟩= .ok y ⟨frd qv[i]++cap b',acc.reverse.map some++(σ b'++(its++tm b')),n'⟩))):
 ∃ys b' n',PL qv.length n' ys b'/\V4 mi g mt me k ix s= .ok (.lst n' ys) ⟨σ b',tm b',n'+1⟩:=by
 obtain⟨ys,b',n',h1,h2⟩:=zcL (K:=K) (σ0:=σ) (tm0:=tm) hk hol hz hat has hfr hme qv.length 0 [] b (B8 k none) n (by simp) (by simp) (by simp) h0
 refine⟨ys,b',n',h1, ?_⟩
 delta V4
 rw[hcap] at h2
 erw[bd,hc,hlen]
 exact h2
def zfs{mi:M ItK}{K:ItK}{g:Tg}{mt:M Bool}{me:M D}{p:D->Bool}{gf:D->D}{qv:List D}{its:Qq}{ix:List Nat}{k:Nat}{σ tm:Qq}(frd:D->Qq){s:Stt}{n:Nat}
 (hc:mi s= .ok K ⟨σ,its++tm,n⟩) (hk:its.length=K.k) (hz:qv.length<qg) (hat: ∀i rest,K.at' i (its++rest)=some qv[i]?) (hlen:K.len (its++tm)=qv.length)
 (has: ∀d∈qv,∀pre:Qq,pre.length=k->asg g d (pre++ix.map λj=>(σ[j]?).getD none)=some (frd d++ix.map λj=>(σ[j]?).getD none)) (hfr: ∀d∈qv,(frd d).length=k)
 (hmt: ∀d∈qv,∀tm n,∃n',n<=n'/\mt ⟨frd d++(ix.map λj=>(σ[j]?).getD none),tm,n⟩= .ok (p d) ⟨frd d++(ix.map λj=>(σ[j]?).getD none),tm,n'⟩)
 (hme: ∀d∈qv,p d=true->∀tm n,∃n',n<=n'/\me ⟨frd d++(ix.map λj=>(σ[j]?).getD none),tm,n⟩= .ok (gf d) ⟨frd d++(ix.map λj=>(σ[j]?).getD none),tm,n'⟩):
 ∃n',n<=n'/\V4 mi g mt me k ix s= .ok (.lst n' ((qv.filter p).map gf)) ⟨σ,tm,n'+1⟩:=by
 obtain⟨ys,_,n',⟨h1,rfl⟩,h2⟩:=z5p (β:=Unit) (σ:=λ_=>σ) (tm:=λ_=>tm) (cap:=λ_=>ix.map λj=>(σ[j]?).getD none) (mt:=mt) (me:=me) (ix:=ix) (b:=()) frd (λi m acc _=>n<=m/\acc=((qv.take i).filter p).map gf) (λ_=>rfl) hc hk (λ_=>rfl) hz hat hlen (λd hd _=>has d hd) hfr ⟨i6 _,rfl⟩ (by
  rintro i hi acc _ m ha ⟨h1,rfl⟩
  obtain⟨n1,h4,h5⟩:=hmt qv[i] (A9 hi) ((((qv.take i).filter p).map gf).reverse.map some++(σ++(its++tm))) m
  refine⟨p qv[i],n1,h5, ?_⟩
  rw[List.take_succ_eq_append_getElem hi,F4,t5]
  cases hp:p qv[i] with
  |false=>exact .inl ⟨rfl,⋯,by simp[hp]⟩
  |true=>
   obtain⟨n2,h6,h7⟩:=hme qv[i] (A9 hi) hp ((((qv.take i).filter p).map gf).reverse.map some++(σ++(its++tm))) n1
   exact .inr ⟨rfl,_,(),n2,⟨⋯,by simp[hp]⟩,h7⟩)
 rw[E9] at h2
 exact⟨n',h1,h2⟩
def zkR: ∀pre:Qq,pre.length=1->asg (.nm 0) d (pre++c)=some ([some d]++c):=λpre hp=>by
 obtain⟨_,rfl⟩:=S8.mp hp;rfl
def zm9{α:Type}{l:List α}(h:l.length=2): ∃a b,l=[a,b]:=by
 obtain⟨a,t,rfl⟩:=D0 h
 obtain⟨b,rfl⟩:=S8.mp (Nat.succ.inj h)
 exact⟨a,b,rfl⟩
def zma: ∀pre:Qq,pre.length=2->asg (.tp [.nm 0, .nm 1]) (.tup [a,b]) (pre++c)=some ([some a,some b]++c):=λpre hp=>by
 obtain⟨_,_,rfl⟩:=zm9 hp;rfl
def at_ints{lo:Int}{N i:Nat}:(z84 lo N).at' i ([]++rest)=some (z4n lo N)[i]? :=by
 erw[z84,z4n,List.getElem?_map]
 by_cases h:i<N
 .rw[qy h,List.getElem?_range h];rfl
 .rw[qh h,List.getElem?_eq_none (by simp;lia)];rfl
end Mi
set_option maxHeartbeats 400000
namespace Mi
open PySem L2
def z46{mi:M ItK}{g:Tg}{b:MS}{s:Stt}:V8 mi g b s=(mi s).lf λK s=>forGo K g b (K.len s.tm) 0 s:=(rfl)
def zdI{ms:List (M D)}{s:Stt}:X4 ms s=(W8 ms s).bnd zhy:=(rfl)
def z1V{j:Int}(h: -(2^62)<=j/\j<2^62):zhy [.int j] s= .ok (z84 0 j.toNat) s:=by erw[zhy,qy h];rfl
def zil{lo:Int}{N:Nat}{tm:Qq}:(z84 lo N).len tm=N:=(rfl)
def z0L{P:Nat->Stt->Prop}{lo:Int}{N:Nat}{g:Tg}{b:MS}
 (body: ∀i,i<N->∀s,P i s->∃σ',asg g (.int (lo+i)) s.σ=some σ'/\∃s',b {s with σ:=σ'}= .nx s'/\P (i+1) s'):
 ∀f i s,i+f=N->P i s->∃s',forGo (z84 lo N) g b f i s= .nx s'/\P N s':=by
 intro f
 induction f with
 |zero=>
  intro i s hi h
  have e:i=N:=by lia
  subst e
  refine⟨s, ?_,h⟩
  unfold forGo
  erw[z84,D8,if_false]
  rfl
 |succ f ih=>
  intro i s hi h
  have hl:i<N:=by lia
  obtain⟨σ',e1,s',e2,h'⟩:=body i hl s h
  obtain⟨s2,e3,h2⟩:=ih (i+1) s' ⋯ h'
  refine⟨s2, ?_,h2⟩
  unfold forGo
  erw[z84,qy hl,e1,e2]
  exact e3
mutual
theorem zim{l:Nat}{b:List D}{d:D}: ∀t:D,rp (pl l d) (rp (pl l (.lst l b)) t)=rp (pl l d) t
 | .non=>rfl
 | .bool _=>rfl
 | .int _=>rfl
 | .str _=>rfl
 | .exc _=>rfl
 | .fn _=>rfl
 | .tup ds=>by erw[rp];rw[rpL_rp ds]
 | .ro ds=>by erw[rp];rw[rpL_rp ds]
 | .fdc ks ds=>by erw[rp];rw[rpL_rp ds]
 | .lst k ds=>by
  by_cases h:k=l
  .subst h;erw[rp,pl,if_true]
  .have e: ∀x,pl l x k=none:=λx=>by erw[pl,qh h]
   erw[rp,e];rw[rpL_rp ds]
 | .dct k ks ds=>by
  by_cases h:k=l
  .subst h;erw[rp,pl,if_true]
  .have e: ∀x,pl l x k=none:=λx=>by erw[pl,qh h]
   erw[rp,e];rw[rpL_rp ds]
 | .obj k c ks ds=>by
  by_cases h:k=l
  .subst h;erw[rp,pl,if_true]
  .have e: ∀x,pl l x k=none:=λx=>by erw[pl,qh h]
   erw[rp,e];rw[rpL_rp ds]
theorem rpL_rp{l:Nat}{b:List D}{d:D}: ∀t:List D,rpL (pl l d) (rpL (pl l (.lst l b)) t)=rpL (pl l d) t
 |[]=>rfl
 |t::ts=>by erw[rpL];rw[zim t,rpL_rp ts]
end
theorem z4E{l:Nat}: ∀t:Qq,rpO (pl l d) (rpO (pl l (.lst l b)) t)=rpO (pl l d) t
 |[]=>rfl
 |none::ts=>by erw[rpO];rw[z4E ts]
 |some t::ts=>by erw[rpO];rw[zim t,z4E ts]
theorem z2V: ∀(a b:Qq),rpO f (a++b)=rpO f a++rpO f b
 |[],b=>rfl
 |none::a,b=>by erw[C4,rpO,z2V a b]
 |some d::a,b=>by erw[C4,rpO,z2V a b]
theorem z7x: ∀(a:Qq),(rpO f a).length=a.length
 |[]=>rfl
 |none::a=>by erw[rpO,A4,z7x a]
 |some d::a=>by erw[rpO,A4,z7x a]
theorem z6x: ∀ds:List D,Y0 (ds.map some)=qq ds
 |[]=>rfl
 |d::ds=>by erw[i7,Y0,qq,z6x ds]
theorem z47: ∀a b:List D,qq (a++b)=qq a++qq b
 |[],b=>rfl
 |d::ds,b=>by erw[C4,qq,z47 ds b,A3]
theorem zaS{l:Nat}: ∀ds:List D,l∈qq ds.reverse↔l∈qq ds
 |[]=>Iff.rfl
 |d::ds=>by erw[C3,z47,qq,l4,zaS ds,l7];exact Or.comm
def z6y{l:Nat}{ds:List D}(h:l∉qq ds):rpO (pl l d) (ds.reverse.map some)=ds.reverse.map some:=zaf _ λk hk=>by
 rw[z6x,zaS] at hk
 delta pl;rw[qh];intro e;subst e;exact h hk
def zcM{l:Nat}{d:D}{σ:Qq}(ix:List Nat):(ix.map λi=>((rpO (pl l d) σ)[i]?).getD none)=rpO (pl l d) (ix.map λi=>(σ[i]?).getD none):=by
 have at': ∀(σ:Qq) (i:Nat),(rpO (pl l d) σ)[i]? =(σ[i]?).map (B6 (rp (pl l d))):=by
  intro σ
  induction σ with
  |nil=>intro i;rfl
  |cons o σ ih=>intro i;cases o<;>cases i<;>simp[rpO,ih]
 induction ix with
 |nil=>rfl
 |cons i ix ih=>
  rw[i7,i7,ih,at']
  cases σ[i]? with
  |none=>rfl
  |some o=>cases o<;>rfl
def z6z{me:M D}{N:Nat}{ix:List Nat}{l n:Nat}{j:Int}{Bg:List D->Prop}{Q:Nat->D->Prop}(mono: ∀a b,a<=b->∀y,Q a y->Q b y)(hms:W8 ms s= .ok [.int j] ⟨σ0,tm0,n⟩)(hj:j.toNat=N)(hj': -(2^62)<=j/\j<2^62)(hz:N<qg)
 (hb:Bg b) (hn:l<n) (f1:rpO (pl l (.lst l b)) σ0=σ0) (f2:rpO (pl l (.lst l b)) tm0=tm0) (f3:rpO (pl l (.lst l b)) (ix.map λi=>(σ0[i]?).getD none)=ix.map λi=>(σ0[i]?).getD none)
 (hme: ∀i,i<N->∀b tm n,Bg b->l<n->rpO (pl l (.lst l b)) tm=tm->∃y b' n',Bg b'/\Q n' y/\n<=n'/\l∉labs y/\me ⟨some (.int (0+(i:Nat)))::rpO (pl l (.lst l b)) (ix.map λi=>(σ0[i]?).getD none),tm,n⟩= .ok y ⟨some (.int (0+(i:Nat)))::rpO (pl l (.lst l b')) (ix.map λi=>(σ0[i]?).getD none),rpO (pl l (.lst l b')) tm,n'⟩):
 ∃ys b' n',ys.length=N/\(∀y∈ys,Q n' y)/\l∉qq ys/\Bg b'/\n<=n'/\V4 (X4 ms) (.nm 0) (rt true) me 1 ix s= .ok (.lst n' ys) ⟨rpO (pl l (.lst l b')) σ0,rpO (pl l (.lst l b')) tm0,n'+1⟩:=by
 obtain⟨ys,b',n',⟨h1,h2,h3,h4,h5⟩,h6⟩:=z5p (mi:=X4 ms) (K:=z84 0 N) (g:= .nm 0) (mt:=rt true) (me:=me) (qv:=z4n 0 N) (its:=[]) (ix:=ix) (k:=1) (β:=List D) (cap:=λb=>rpO (pl l (.lst l b)) (ix.map λi=>(σ0[i]?).getD none)) (σ:=λb=>rpO (pl l (.lst l b)) σ0) (tm:=λb=>rpO (pl l (.lst l b)) tm0) (λd=>[some d])
  (λi m acc b=>(∀y∈acc,Q m y)/\l∉qq acc/\Bg b/\n<=m/\acc.length=i) (s:=s) (b:=b) (n:=n) (λb=>(zcM ix).symm) (by rw[zdI,hms,z44,z1V hj',hj,f1,f2];rfl) rfl (λ_=>by erw[z7x]) (by erw[z4n,l0,R7];exact hz) (λ_ _=>at_ints) (by erw[z4n,l0,R7];rfl)
  (λd _ b=>zkR) (λ_ _=>rfl) ⟨(by intro y h;cases h),by simp[qq],hb,i6 _,rfl⟩ (by
   rintro i hi acc b m ha ⟨q1,q2,q3,q4,rfl⟩
   have hN:acc.length<N:=by simpa[z4n] using hi
   obtain⟨y,b',n',h1,h2,h3,h4,h5⟩:=hme acc.length hN b (acc.reverse.map some++(rpO (pl l (.lst l b)) σ0++rpO (pl l (.lst l b)) tm0)) m q3 ⋯ (by rw[z2V,z2V,z4E,z4E,z6y q2])
   refine⟨true,m,rfl, .inr ⟨rfl,y,b',n',⟨λz hz=> ?_, ?_,h1,⋯,by simp⟩, ?_⟩⟩
   .rcases l4.mp hz with hz|hz
    .exact mono _ _ h3 z (q1 z hz)
    .rw[m4.mp hz];exact h2
   .rw[z47]
    erw[qq,l7,l4,not_or]
    exact⟨q2,h4⟩
   .rw[show(z4n 0 N)[acc.length]= .int (0+(acc.length:Nat)) by simp[z4n]]
    rw[z2V,z2V,z4E,z4E,z6y q2] at h5
    exact h5)
 rw[show(z4n 0 N).length=N by simp[z4n]] at h5
 exact⟨ys,b',n',h5,h1,h2,h3,h4,h6⟩
def z0r{l:Nat}{n:Nat}(h:m s= .ok (.lst l ds) ⟨σ,tm,n⟩):j6 m s= .ok kLst ⟨σ,some (.lst l ds)::tm,n⟩:=by
 unfold j6;rw[zkp,h];rfl
def z6A{K:ItK}{mt:M Bool}{me:M D}{p:D->Bool}{g:D->D}{qv:List D}{its:Qq}{ix:List Nat}{n:Nat}(hc:mi s= .ok K ⟨σ,its++tm,n⟩)(hk:its.length=K.k)(hz:qv.length<qg)(hat: ∀i rest,K.at' i (its++rest)=some qv[i]?)(hlen:K.len (its++tm)=qv.length)
 (hmt: ∀d∈qv,∀tm n,∃n',n<=n'/\mt ⟨some d::(ix.map λi=>(σ[i]?).getD none),tm,n⟩= .ok (p d) ⟨some d::(ix.map λi=>(σ[i]?).getD none),tm,n'⟩)
 (hme: ∀d∈qv,p d=true->∀tm n,∃n',n<=n'/\me ⟨some d::(ix.map λi=>(σ[i]?).getD none),tm,n⟩= .ok (g d) ⟨some d::(ix.map λi=>(σ[i]?).getD none),tm,n'⟩):
 ∃n',n<=n'/\V4 mi (.nm 0) mt me 1 ix s= .ok (.lst n' ((qv.filter p).map g)) ⟨σ,tm,n'+1⟩:=
 zfs (λd=>[some d]) hc hk hz hat hlen (λd _=>zkR) (λ_ _=>rfl) hmt hme
def z4F{mt:M Bool}{me:M D}{p:D->Bool}{g:D->D}{l:Nat}{ds:List D}{ix:List Nat}{n:Nat}(hc:mc s= .ok (.lst l ds) ⟨σ,tm,n⟩)(hz:ds.length<qg)
 (hmt: ∀d∈ds,∀tm n,∃n',n<=n'/\mt ⟨some d::(ix.map λi=>(σ[i]?).getD none),tm,n⟩= .ok (p d) ⟨some d::(ix.map λi=>(σ[i]?).getD none),tm,n'⟩)
 (hme: ∀d∈ds,p d=true->∀tm n,∃n',n<=n'/\me ⟨some d::(ix.map λi=>(σ[i]?).getD none),tm,n⟩= .ok (g d) ⟨some d::(ix.map λi=>(σ[i]?).getD none),tm,n'⟩):
 ∃n',n<=n'/\V4 (j6 mc) (.nm 0) mt me 1 ix s= .ok (.lst n' ((ds.filter p).map g)) ⟨σ,tm,n'+1⟩:=
 z6A (K:=kLst) (its:=[some (.lst l ds)]) (qv:=ds) (by unfold j6;rw[zkp,hc];rfl) rfl hz (λi rest=>rfl) rfl hmt hme
end Mi
set_option maxHeartbeats 1000000
set_option maxHeartbeats 4000000
set_option maxHeartbeats 40000
namespace Mi
open PySem L2
section
variable{α β:Type}{m ma mb mc:M D}{s:Stt}{ms:List (M D)}{σ tm l:Qq}{n i j k p:Nat}{x y z u d:D}{g g2:D->D->M D}{h:List D->M D}
variable{a0 a1 a2 a3 a4 a5 a6 a7 a8 a9 a10 a11 a12 a13 a14 a15 v:Option D}
def qg1:(a0::a1::l)[1]? =some a1:=(rfl)
def qg2:(a0::a1::a2::l)[2]? =some a2:=(rfl)
def qg3:(a0::a1::a2::a3::l)[3]? =some a3:=(rfl)
def qg4:(a0::a1::a2::a3::a4::l)[4]? =some a4:=(rfl)
def qg5:(a0::a1::a2::a3::a4::a5::l)[5]? =some a5:=(rfl)
def qg6:(a0::a1::a2::a3::a4::a5::a6::l)[6]? =some a6:=(rfl)
def qg7:(a0::a1::a2::a3::a4::a5::a6::a7::l)[7]? =some a7:=(rfl)
def qg8:(a0::a1::a2::a3::a4::a5::a6::a7::a8::l)[8]? =some a8:=(rfl)
def qg9:(a0::a1::a2::a3::a4::a5::a6::a7::a8::a9::l)[9]? =some a9:=(rfl)
def zmb:(a0::a1::a2::a3::a4::a5::a6::a7::a8::a9::a10::l)[10]? =some a10:=(rfl)
def zmc:(a0::a1::a2::a3::a4::a5::a6::a7::a8::a9::a10::a11::l)[11]? =some a11:=(rfl)
def zmd:(a0::a1::a2::a3::a4::a5::a6::a7::a8::a9::a10::a11::a12::l)[12]? =some a12:=(rfl)
def zme:(a0::a1::a2::a3::a4::a5::a6::a7::a8::a9::a10::a11::a12::a13::l)[13]? =some a13:=(rfl)
def qh1:(a0::a1::l).set 1 v=a0::v::l:=(rfl)
def qh2:(a0::a1::a2::l).set 2 v=a0::a1::v::l:=(rfl)
def qh3:(a0::a1::a2::a3::l).set 3 v=a0::a1::a2::v::l:=(rfl)
def qh4:(a0::a1::a2::a3::a4::l).set 4 v=a0::a1::a2::a3::v::l:=(rfl)
def qh5:(a0::a1::a2::a3::a4::a5::l).set 5 v=a0::a1::a2::a3::a4::v::l:=(rfl)
def qh6:(a0::a1::a2::a3::a4::a5::a6::l).set 6 v=a0::a1::a2::a3::a4::a5::v::l:=(rfl)
def qh7:(a0::a1::a2::a3::a4::a5::a6::a7::l).set 7 v=a0::a1::a2::a3::a4::a5::a6::v::l:=(rfl)
def qh8:(a0::a1::a2::a3::a4::a5::a6::a7::a8::l).set 8 v=a0::a1::a2::a3::a4::a5::a6::a7::v::l:=(rfl)
def qh9:(a0::a1::a2::a3::a4::a5::a6::a7::a8::a9::l).set 9 v=a0::a1::a2::a3::a4::a5::a6::a7::a8::v::l:=(rfl)
def zmf:(a0::a1::a2::a3::a4::a5::a6::a7::a8::a9::a10::l).set 10 v=a0::a1::a2::a3::a4::a5::a6::a7::a8::a9::v::l:=(rfl)
def zmg:(a0::a1::a2::a3::a4::a5::a6::a7::a8::a9::a10::a11::a12::l).set 12 v=a0::a1::a2::a3::a4::a5::a6::a7::a8::a9::a10::a11::v::l:=(rfl)
def ov:y0 i s=match s.σ[i]? with|some (some t)=> .ok t s|_=> .no:=rfl
def cv(g:D->D->M D)(a:D)(b:Option (Option D))(s:Stt):Res D:=match b with
 |some (some b)=>g a b s
 |_=> .no
def zft:cv g x (some (some y)) s=g x y s:=(rfl)
def zmh:y4 m (mC y) g s=(m s).bnd λx s1=>g x y s1:=by
 rw[zcH];cases m s<;>rfl
def zmi:y4 m (y0 j) g s=(m s).bnd λx s1=>cv g x s1.σ[j]? s1:=by
 rw[zcH];cases m s with
 |ok x s1=>rw[z44,z44];unfold y0 cv;dsimp only[Stt.psh];cases s1.σ[j]? with
  |none=>rfl
  |some o=>cases o<;>rfl
 |ex d s1=>rfl
 |no=>rfl
def qc1(h:List D->M D)(a:Option (Option D))(s:Stt):Res D:=match a with
 |some (some a)=>h [a] s
 |_=> .no
def zcN:qc1 h (some (some x)) s=h [x] s:=(rfl)
def zmj:mCB [y0 i] h ⟨σ,tm,n⟩=qc1 h σ[i]? ⟨σ,tm,n⟩:=by
 rw[zkv];unfold y0 qc1 W8 bd;dsimp only
 cases σ[i]? with
 |none=>rfl
 |some o=>cases o<;>rfl
def zaT:W8 [m] s=(m s).bnd λx s1=> .ok [x] s1:=by
 rw[z2U];cases m s<;>rfl
def qa1(a:Option (Option D))(s:Stt):Res (List D):=match a with
 |some (some a)=> .ok [a] s
 |_=> .no
def zlu:W8 [y0 i] ⟨σ,tm,n⟩=qa1 σ[i]? ⟨σ,tm,n⟩:=by
 rw[zaT];delta y0 qa1;dsimp only
 cases σ[i]? with
 |none=>rfl
 |some o=>cases o<;>rfl
def qa2(a b:Option (Option D))(s:Stt):Res (List D):=match a,b with
 |some (some a),some (some b)=> .ok [a,b] s
 |_,_=> .no
def zcO:qa2 (some (some x)) (some (some y)) s= .ok [x,y] s:=(rfl)
def zlv:W8 [y0 i,y0 j] ⟨σ,tm,n⟩=qa2 σ[i]? σ[j]? ⟨σ,tm,n⟩:=by
 rw[z2U];delta y0 qa2;dsimp only
 cases σ[i]? with
 |none=>rfl
 |some o=>cases o with
  |none=>rfl
  |some a=>rw[z44];show Res.bnd _ (W8 [y0 j] ⟨σ,_,_⟩)=_;rw[zlu];delta qa1;cases σ[j]? with
   |none=>rfl
   |some o=>cases o<;>rfl
def qa3(a b c:Option (Option D))(s:Stt):Res (List D):=match a,b,c with
 |some (some a),some (some b),some (some c)=> .ok [a,b,c] s
 |_,_,_=> .no
def zcP:qa3 (some (some x)) (some (some y)) (some (some z)) s= .ok [x,y,z] s:=(rfl)
def zlw:W8 [y0 i,y0 j,y0 k] ⟨σ,tm,n⟩=qa3 σ[i]? σ[j]? σ[k]? ⟨σ,tm,n⟩:=by
 rw[z2U];delta y0 qa3;dsimp only
 cases σ[i]? with
 |none=>rfl
 |some o=>cases o with
  |none=>rfl
  |some a=>rw[z44];show Res.bnd _ (W8 [y0 j,y0 k] ⟨σ,_,_⟩)=_;rw[zlv];delta qa2;cases σ[j]? with
   |none=>rfl
   |some o=>cases o with
    |none=>rfl
    |some b=>cases σ[k]? with
     |none=>rfl
     |some o=>cases o<;>rfl
def qa4(a b c d:Option (Option D))(s:Stt):Res (List D):=match a,b,c,d with
 |some (some a),some (some b),some (some c),some (some d)=> .ok [a,b,c,d] s
 |_,_,_,_=> .no
def zcQ:qa4 (some (some x)) (some (some y)) (some (some z)) (some (some u)) s= .ok [x,y,z,u] s:=(rfl)
def zmk:W8 [y0 i,y0 j,y0 k,y0 p] ⟨σ,tm,n⟩=qa4 σ[i]? σ[j]? σ[k]? σ[p]? ⟨σ,tm,n⟩:=by
 rw[z2U];delta y0 qa4;dsimp only
 cases σ[i]? with
 |none=>rfl
 |some o=>cases o with
  |none=>rfl
  |some a=>rw[z44];show Res.bnd _ (W8 [y0 j,y0 k,y0 p] ⟨σ,_,_⟩)=_;rw[zlw];delta qa3;cases σ[j]? with
   |none=>rfl
   |some o=>cases o with
    |none=>rfl
    |some b=>cases σ[k]? with
     |none=>rfl
     |some o=>cases o with
      |none=>rfl
      |some c=>cases σ[p]? with
       |none=>rfl
       |some o=>cases o<;>rfl
def zkS:W8 [y0 i,mC y] ⟨σ,tm,n⟩=qa2 σ[i]? (some (some y)) ⟨σ,tm,n⟩:=by
 rw[z2U];delta y0 qa2;dsimp only
 cases σ[i]? with
 |none=>rfl
 |some o=>cases o<;>rfl
def zkT:Y1 (.nm i) m s=(m s).lf λd s1=> .nx ⟨s1.σ.set i (some d),s1.tm,s1.n⟩:=by
 rw[zih];cases m s<;>rfl
end
def W6{t:D}{l n' n:Nat}{b b' r:List D}{σ tm:Qq}{σ1 tm1:D->Qq}(hb:qq b=[])(hb':qq b'=[])(hr:qq r=[])(f1: ∀q,rpO (pl l q) σ=σ1 q)(f2: ∀q,rpO (pl l q) tm=tm1 q)(e1:σ1 (.lst l b)=σ:=by rfl)(e2:tm1 (.lst l b)=tm:=by rfl):
 z2C (.ok t (.lst l b'::r) n') (.lst l b::r) ⟨σ,tm,n⟩= .ok t ⟨σ1 (.lst l b'),tm1 (.lst l b'),n'⟩:=by
 rw[z0W hb hb' hr ((f1 _).trans e1) ((f2 _).trans e2),f1,f2]
end Mi
set_option maxHeartbeats 1000000
namespace Mi
open PySem L2
def z8h{K:ItK}{f i:Nat}{s s':Stt}(h1:K.at' i s.tm=some (some d))(h2:asg g d s.σ=some σ')(h3:b {s with σ:=σ'}= .nx s'):forGo K g b (f+1) i s=forGo K g b f (i+1) s':=by
 conv=>lhs;unfold forGo
 erw[h1,h2,h3]
def zaU{K:ItK}{f i:Nat}{s:Stt}(h1:K.at' i s.tm=some none):forGo K g b f i s= .nx (s.popn K.k):=by
 unfold forGo
 erw[h1]
end Mi
set_option maxHeartbeats 4000000
set_option maxHeartbeats 1000000
namespace My
open PySem L2 Mi
def at0{a:D}{l:List D}:atI (a::l) 0=some a:=z4C (by decide) rfl
def at1{a b:D}{l:List D}:atI (a::b::l) 1=some b:=z4C (by decide) rfl
def at2{a b c:D}{l:List D}:atI (a::b::c::l) 2=some c:=z4C (by decide) rfl
def zfu{i j:Int}{s:Stt}:eqD (.int i) (.int j) s= .ok (.bool (i==j)) s:=by
 rw[zi8 (by simp[eqC,Mi.z0I,er,PyData.canLay0,PyData.depth])];erw[er,PyData.eqv]
def c0:((0:Nat):Int)=0:=rfl
def c1:((1:Nat):Int)=1:=rfl
def c2:((2:Nat):Int)=2:=rfl
def c3:((3:Nat):Int)=3:=rfl
def c4:((4:Nat):Int)=4:=rfl
def Gd(t:D):Prop:=z0I t=true/\(er t).canLay0=true
def GdL(ds:List D):Prop:=plainL ds=true/\PyData.canLayAll0 (erL ds)=true
def Gd.tup:Gd (.tup ds)↔GdL ds:=by erw[Gd,GdL,Mi.z0I,er,PyData.canLay0]
def Gd.lst{l:Nat}:Gd (.lst l ds)↔GdL ds:=by erw[Gd,GdL,Mi.z0I,er,PyData.canLay0]
def GdL.cons:GdL (d::ds)↔Gd d/\GdL ds:=by
 erw[Gd,GdL,plainL,erL,PyData.canLayAll0,A7]
 constructor
 .rintro ⟨⟨a,b⟩,c,d⟩;exact⟨⟨a,c⟩,b,d⟩
 .rintro ⟨⟨a,c⟩,b,d⟩;exact⟨⟨a,b⟩,c,d⟩
def zl:qg=16777216:=rfl
section
variable{a b c d:D}{s:Stt}
def t0:j3 [] s= .ok (.tup []) s:=zcI (by decide)
def t1:j3 [a] s= .ok (.tup [a]) s:=zcI (by rw[zl];simp)
def t2:j3 [a,b] s= .ok (.tup [a,b]) s:=zcI (by rw[zl];simp)
def t3:j3 [a,b,c] s= .ok (.tup [a,b,c]) s:=zcI (by rw[zl];simp)
def k0{σ tm:Qq}{n:Nat}:lstM [] ⟨σ,tm,n⟩= .ok (.lst n []) ⟨σ,tm,n+1⟩:=zfo (by rw[zl];simp)
def k1{σ tm:Qq}{n:Nat}:lstM [a] ⟨σ,tm,n⟩= .ok (.lst n [a]) ⟨σ,tm,n+1⟩:=zfo (by rw[zl];simp)
def k2{σ tm:Qq}{n:Nat}:lstM [a,b] ⟨σ,tm,n⟩= .ok (.lst n [a,b]) ⟨σ,tm,n+1⟩:=zfo (by rw[zl];simp)
end
def BA{a b:Prop}(h:a)(k:b):a/\b:=⟨h,k⟩
def B_0:=BA (BA (BA (BA (BA (BA @zko (BA @zkp @z44)) (BA (BA @z2a @zkl) (BA @zkm @zlX))) (BA (BA (BA @zhZ @zkq) (BA @zkr @zcG)) (BA (BA @zks @x_C) (BA @zcH @zi0)))) (BA (BA (BA @zi1 (BA @zi2 @zlY)) (BA (BA @zlZ @zm0) (BA @zkt @zm1))) (BA (BA (BA @zku @zi3) (BA @zi4 @zm2)) (BA (BA @zm3 @zfk) (BA @z2U @zkv))))) (BA (BA (BA (BA @zi5 (BA @zaN @zkx)) (BA (BA @zaO @zfl) (BA @zfm @zi6))) (BA (BA (BA @zm4 @zi7) (BA @zkz @zm5)) (BA (BA @zm6 @zkA) (BA @zkB @zkC)))) (BA (BA (BA @zkD (BA @zkE @zkF)) (BA (BA @zi9 @zia) (BA @zib @zkG))) (BA (BA (BA @zkH @zkI) (BA @zic @zid)) (BA (BA @zie @zfp) (BA @zfq @zkL)))))) (BA (BA (BA (BA (BA @zif (BA @zkM @zig)) (BA (BA @zfr @zkN) (BA @zm7 @zm8))) (BA (BA (BA @zaQ @zih) (BA @zkP @zij)) (BA (BA @zkQ @z9f) (BA @zkn @zaM)))) (BA (BA (BA @i7.{0,0} (BA @t7.{0,0} @B0.{0})) (BA (BA @C4.{0} @l7.{0}) (BA @List.getElem?_cons_zero.{0} @List.getElem?_cons_succ.{0}))) (BA (BA (BA @List.getElem?_nil.{0} @F2.{0}) (BA @F3.{0} @A4.{0})) (BA (BA @C8.{0} @i9.{0,0}) (BA @C9.{0,0} @D6))))) (BA (BA (BA (BA @E4 (BA @beq_self_eq_true.{0} @N8)) (BA (BA @Nat.sub_self @t0) (BA @t1 @t2))) (BA (BA (BA @t3 @k0) (BA @k1 @k2)) (BA (BA @Bool.or_false @N1) (BA @S6 @Bool.or_true)))) (BA (BA (BA @N2 (BA @E8 @u0j)) (BA (BA @T4 @at0) (BA @at1 @at2))) (BA (BA (BA @zfu @z1F) (BA @Z8 @zik)) (BA (BA @J8 @zaR) (BA @V3 @U8))))))
def B_1:=BA @zcJ @zcK
local macro_rules | `(tactic| left) => `(tactic| (simp (config := { dsimp := false }) only [B_0, B_1, isiD, Q5, asg, asgL, B8, T9, u00, String.reduceBEq, u01]))
def Bg(c x:Int):Prop:=0<=c/\0<=x/\x<2147483647
def J7 l c x top n(h:Bg c x)(ht:0<top)(ht':top<1000000): ∃r c' x',0<=r/\r<top/\Bg c' x'/\y9 [.lst l [.int c, .int x], .int top] n= .ok (.int r) [.lst l [.int c', .int x'], .int top] n:=by
 delta y9 z5l
 obtain⟨h0,h1,h2⟩:=h
 by_cases hc:0<c
 .refine⟨c %top,c/top,x,L1 _ ⋯,F5 _ ht,⟨Int.ediv_nonneg h0 ⋯,h1,h2⟩, ?_⟩
  left
  erw[hc,decide_true]
  left
  rw[z45 ht]
  left
  rw[zaP ⟨ht,⋯⟩]
  left
  rw[zii (j:=0) rfl (by simp[labs])]
  left
 .have hx0:=L1 (x*48271+7919) (show(2147483647:Int)≠0 by decide)
  have hx1:=F5 (x*48271+7919) (show(0:Int)<2147483647 by decide)
  generalize hy:(x*48271+7919) %2147483647=y at hx0 hx1
  refine⟨(y^(3:Int).toNat %2147483587/7*69621 %1073741789) %top,c,y,L1 _ ⋯,F5 _ ht,⟨h0,hx0,hx1⟩, ?_⟩
  left
  erw[hc,decide_false]
  left
  rw[z6q (.inl ⟨⋯,⋯⟩)]
  left
  rw[z45 (by decide),hy]
  left
  rw[zii (j:=1) rfl (by simp[labs])]
  left
  rw[zfn ⟨by decide,by decide,⋯⟩]
  left
  rw[z45 (by decide)]
  left
  rw[zaP ⟨by decide,by decide⟩]
  left
  rw[z6q (.inr ⟨by decide,by decide⟩)]
  left
  rw[z45 (by decide)]
  left
  rw[z45 ht]
  left
def B_2:=BA (BA @z46 @zdI) (BA @zil @S9)
local macro_rules | `(tactic| left) => `(tactic| (simp (config := { dsimp := false }) only [B_0, B_1, B_2, isiD, Q5, asg, asgL, B8, T9, u00, String.reduceBEq, u01]))
def zdJ{ns:List Int}{a:Nat}(h:a<ns.length):atI (ns.map D.int) (a:Int)=some (.int ns[a]):=z4C ⋯ (by simp[h])
def zin(ns:List Int)(a n:Nat)(ha:a<1000)(hl:ns.length<1000): ∃c x,Bg c x/\z3W [.ro (ns.map .int), .int a] n= .ok (.lst n [.int c, .int x]) [.ro (ns.map .int), .int a] (n+1):=by
 delta z3W z7s
 left
 have key: ∃c:Int,0<=c/\zdw (decide ((a:Int)<((ns.map D.int).length:Int))) (Y1 (Tg.nm 2) (mCB [y4 (y0 0) (y0 1) ixD] zge)) sNx ⟨[some (.ro (ns.map .int)),some (.int a),some (.int 0),none,none],[some (.ro (ns.map .int)),some (.int a)],n⟩= .nx ⟨[some (.ro (ns.map .int)),some (.int a),some (.int c),none,none],[some (.ro (ns.map .int)),some (.int a)],n⟩:=by
  by_cases h:a<ns.length
  .refine⟨if ns[a]<0 then -ns[a] else ns[a], ?_, ?_⟩
   rotate_left
   .rw[show decide ((a:Int)<((ns.map D.int).length:Int))=true by simp[h]]
    left
    rw[zdJ h]
    left
   .split<;>lia
  .refine⟨0,by decide, ?_⟩
   rw[show decide ((a:Int)<((ns.map D.int).length:Int))=false by simp;lia]
   left
 obtain⟨c,hc,e1⟩:=key
 rw[e1]
 left
 rw[z45 (by decide)]
 left
 rw[z6q (.inl ⟨by decide,by decide⟩)]
 left
 have q0:=L1 c (show(2147483629:Int)≠0 by decide)
 have q1:=F5 c (show(0:Int)<2147483629 by decide)
 rw[zfn ⟨by decide,by decide,⋯⟩]
 left
 rw[z45 (by decide)]
 left
 have w0:((ns.map D.int).length:Int)=ns.length:=by simp
 rw[w0]
 generalize hk:(if(60:Int)<(ns.length:Int) then(60:Int) else(ns.length:Int))=k
 have hk0:0<=k/\k<=60/\k<=ns.length:=by split at hk<;>lia
 rw[z1V ⟨⋯,⋯⟩]
 left
 have p0:=L1 ((c %2147483629+104729*(a:Int)+17)^(5:Int).toNat) (show(2147483647:Int)≠0 by decide)
 have p1:=F5 ((c %2147483629+104729*(a:Int)+17)^(5:Int).toNat) (show(0:Int)<2147483647 by decide)
 generalize (c %2147483629+104729*(a:Int)+17)^(5:Int).toNat %2147483647=x0 at p0 p1
 obtain⟨s',e2,x,o,hx0,hx1,rfl⟩:=z0L (P:=λi s=> ∃(x:Int) (o:Option D),0<=x/\x<2147483647/\s=⟨[some (.ro (ns.map .int)),some (.int a),some (.int c),some (.int x),o],[some (.ro (ns.map .int)),some (.int a)],n⟩) (lo:=0) (N:=k.toNat) (g:= .nm 4) (b:=Y1 (.nm 3) (y4 (y4 (y4 (y4 (y0 3) (mC (.int 48271)) z9t) (y4 (y4 (y4 (y0 0) (y0 4) ixD) (mC (.int 2147483587)) z3j) (y4 (y0 4) (mC (.int 3)) K1) z9t) K1) (y0 4) K1) (mC (.int 2147483629)) z3j)) (by
  rintro i hi s ⟨x,o,h0,h1,rfl⟩
  have hi':i<ns.length:=by lia
  refine⟨[some (.ro (ns.map .int)),some (.int a),some (.int c),some (.int x),some (.int i)],by erw[S9];rfl, ?_⟩
  refine⟨⟨[some (.ro (ns.map .int)),some (.int a),some (.int c),some (.int ((x*48271+ns[i] %2147483587*(i+3)+i) %2147483629)),some (.int i)],[some (.ro (ns.map .int)),some (.int a)],n⟩, ?_, ?_⟩
  .left
   rw[z6q (.inl ⟨⋯,⋯⟩)]
   left
   rw[zdJ hi']
   left
   rw[z45 (by decide)]
   left
   rw[z6q (.inr ⟨⋯,⋯⟩)]
   left
   rw[z45 (by decide)]
   left
  .have r0:=L1 (x*48271+ns[i] %2147483587*(i+3)+i) (show(2147483629:Int)≠0 by decide)
   have r1:=F5 (x*48271+ns[i] %2147483587*(i+3)+i) (show(0:Int)<2147483629 by decide)
   exact⟨_,_,r0,⋯,rfl⟩) k.toNat 0 ⟨[some (.ro (ns.map .int)),some (.int a),some (.int c),some (.int x0),none],[some (.ro (ns.map .int)),some (.int a)],n⟩ ⋯ ⟨x0,none,p0,p1,rfl⟩
 rw[e2]
 left
 rw[zfn ⟨by decide,by decide,by decide⟩]
 left
 by_cases h:c<10^(18:Int).toNat
 .refine⟨0,x,⟨by decide,hx0,hx1⟩, ?_⟩
  erw[h,decide_true]
  left
 .refine⟨c,x,⟨hc,hx0,hx1⟩, ?_⟩
  erw[h,decide_false]
  left
def z0y{l k:Nat}(h:k≠l):rp (pl l d) (.lst k ds)= .lst k (rpL (pl l d) ds):=by erw[rp,pl,qh h]
mutual
def Rs(n:Nat):D->Bool
 | .non=>true| .bool _=>true| .int _=>true| .str x=>PyData.strOk x
 | .tup ds=>decide (ds.length<=2000)&&RsL n ds
 | .lst l ds=>decide (n<=l)&&(decide (ds.length<=2000)&&RsL n ds)
 | .ro _=>false| .dct _ _ _=>false| .obj _ _ _ _=>false| .exc _=>false| .fn _=>false| .fdc _ _=>false
def RsL(n:Nat):List D->Bool
 |[]=>true
 |d::ds=>Rs n d&&RsL n ds
end
def Up(m:Nat)(t:D):Prop:= ∀k∈labs t,k<m
def zio{α:Type}{ds:List α}{r:Int}(h0:0<=r)(h1:r<ds.length): ∃d∈ds,atI ds r=some d:=by
 have h:r.toNat<ds.length:=by lia
 exact⟨ds[r.toNat],A9 h,z4C h0 (by simp[h])⟩
theorem z7y{n:Nat}: ∀{ds:List D},RsL n ds=true↔∀d∈ds,Rs n d=true
 |[]=>by simp[RsL]
 |d::ds=>by erw[RsL,A7,z7y (ds:=ds),F9]
theorem z7z{k:Nat}: ∀{ds:List D},PyData.depthAll (erL ds)<=k↔∀d∈ds,(er d).depth<=k
 |[]=>by simp[erL,PyData.depthAll]
 |d::ds=>by simp only[erL,PyData.depthAll,F9,<-z7z (ds:=ds)];lia
mutual
theorem zaV{n:Nat}: ∀t:D,Rs n t=true->Gd t
 | .non,_=>⟨rfl,rfl⟩
 | .bool _,_=>⟨rfl,rfl⟩
 | .int _,_=>⟨rfl,rfl⟩
 | .str _,h=>⟨rfl,by simpa[Rs,er,PyData.canLay0] using h⟩
 | .tup ds,h=>by erw[Rs,A7] at h;exact Gd.tup.mpr (RsL_gd ds h.2)
 | .lst _ ds,h=>by erw[Rs,A7] at h;exact Gd.lst.mpr (RsL_gd ds h.2.2)
 | .ro _,h=>by simp[Rs] at h
 | .dct _ _ _,h=>by simp[Rs] at h
 | .obj _ _ _ _,h=>by simp[Rs] at h
 | .exc _,h=>by simp[Rs] at h
 | .fn _,h=>by simp[Rs] at h
 | .fdc _ _,h=>by simp[Rs] at h
theorem RsL_gd{n:Nat}: ∀t:List D,RsL n t=true->GdL t
 |[],_=>⟨rfl,rfl⟩
 |d::ds,h=>by erw[RsL,A7] at h;exact GdL.cons.mpr ⟨zaV d h.1,RsL_gd ds h.2⟩
end
mutual
theorem ziq{n k:Nat}: ∀t:D,Rs n t=true->k∈labs t->n<=k
 | .non,_,h=>by simp[labs] at h
 | .bool _,_,h=>by simp[labs] at h
 | .int _,_,h=>by simp[labs] at h
 | .str _,_,h=>by simp[labs] at h
 | .tup ds,h,m=>by erw[Rs,A7] at h;erw[labs] at m;exact RsL_low ds h.2 m
 | .lst _ ds,h,m=>by
  erw[Rs,A7,decide_eq_true_eq] at h
  erw[labs,m3] at m
  rcases m with rfl|m
  .exact h.1
  .exact RsL_low ds h.2.2 m
 | .ro _,h,_=>by simp[Rs] at h
 | .dct _ _ _,h,_=>by simp[Rs] at h
 | .obj _ _ _ _,h,_=>by simp[Rs] at h
 | .exc _,h,_=>by simp[Rs] at h
 | .fn _,h,_=>by simp[Rs] at h
 | .fdc _ _,h,_=>by simp[Rs] at h
theorem RsL_low{n k:Nat}: ∀t:List D,RsL n t=true->k∈qq t->n<=k
 |[],_,h=>by simp[qq] at h
 |d::ds,h,m=>by
  erw[RsL,A7] at h
  erw[qq,l4] at m
  rcases m with m|m
  .exact ziq d h.1 m
  .exact RsL_low ds h.2 m
end
def z8i{n k:Nat}{es:List D}(hl:es.length<=2000)(h: ∀e∈es,Rs n e=true/\(er e).depth<=k):Rs n (.tup es)=true/\(er (.tup es)).depth<=k+1:=by
 refine⟨?_, ?_⟩
 .erw[Rs,A7,decide_eq_true_eq];exact⟨hl,z7y.mpr λd m=>(h d m).1⟩
 .erw[er,PyData.depth];exact u0d (z7z.mpr λd m=>(h d m).2)
def z6B{n k l:Nat}{es:List D}(hn:n<=l)(hl:es.length<=2000)(h: ∀e∈es,Rs n e=true/\(er e).depth<=k):Rs n (.lst l es)=true/\(er (.lst l es)).depth<=k+1:=by
 refine⟨?_, ?_⟩
 .erw[Rs,A7,decide_eq_true_eq];exact⟨hn,hl,z7y.mpr λd m=>(h d m).1⟩
 .erw[er,PyData.depth];exact u0d (z7z.mpr λd m=>(h d m).2)
theorem qk{k:Nat}: ∀{es:List D},k∈qq es->∃e∈es,k∈labs e
 |e::es,h=>by
  erw[qq,l4] at h
  rcases h with h|h
  .exact⟨e,l6,h⟩
  .obtain⟨e',h1,h2⟩:=qk h
   exact⟨e',i5 _ h1,h2⟩
def z7A(gy:Gd y)(gd:Gd d)(e:er y=er d)(hd:(er d).depth<=60):neD y d s= .ok (.bool false) s:=by
 rw[zjw (by erw[eqC,gy.1,gd.1,gy.2,gd.2,e,E8,decide_eq_true_eq];lia),e,PySem.SeqAt.eqv_refl _ gd.2];rfl
def Z0{f:Nat->Option D}{o:Option D}{r:Qq}:rpO f (o::r)=o.map (rp f)::rpO f r:=by cases o<;>rfl
def UpO(n:Nat)(o:Option D):Prop:= ∀d,o=some d->Up n d
def UpO.fixk{n k:Nat}(h:UpO n o)(hk:n<=k) d:B6 (rp (pl k d)) o=o:=by
 cases o with
 |none=>rfl
 |some t=>erw[i9];rw[U2 λm=>by have:=h t rfl k m;lia]
def UpO.fix{n:Nat}(h:UpO n o) d:B6 (rp (pl n d)) o=o:=by
 cases o with
 |none=>rfl
 |some t=>erw[i9];rw[U2 λm=>D8 _ (h t rfl n m)]
def z6C:D->Bool
 | .non=>true
 |_=>false
def zkU{d:D}{s:Stt}:isN d .non s= .ok (.bool (z6C d)) s:=by cases d<;>rfl
def zir{d:D}{s:Stt}:zgc d .non s= .ok (.bool (!z6C d)) s:=by cases d<;>rfl
def z48{ws:List D}{l:Nat}:z67 ws none (some (l:Int))=ws.take l:=by
 unfold z67
 rw[HT.sIx_nat,HT.sIx_none,L7,Nat.sub_zero]
 rcases T0 l ws.length with h|h
 .rw[N3 h]
 .rw[O1 h,E9,t9 h]
def z6D{ws:List D}{l:Nat}:z67 ws (some (l:Int)) none=ws.drop l:=by
 unfold z67
 rw[HT.sIx_nat,HT.sIx_none]
 rcases T0 l ws.length with h|h
 .rw[N3 h,t9 (by simp)]
 .rw[O1 h,List.drop_length,u02,D7 h]
abbrev Z6:=List Int×List Int×List Int
def Wf(r:Z6):Prop:=1<=r.1.length/\r.1.length<=4/\r.2.1.length<=3/\r.2.2.length<r.1.length/\∀k∈r.1,0<=k/\k<26
def J9(keys:List Int)(best:Option Z6)(r:Z6):Option Z6:=if keys.take r.1.length=r.1/\best.elim 0 (λb=>b.1.length)<r.1.length then some r else best
def z0s(rows:List Z6)(keys:List Int):Option Z6:=rows.foldl (J9 keys) none
def Q3(rows:List Z6)(keys:List Int):Z6:=match z0s rows keys with
 |none=>([],keys.take 1,keys.drop 1)
 |some r=>(r.2.1,[],r.2.2++keys.drop r.1.length)
def z5q(rows:List Z6):Nat->List Int->List Int×List Int
 |0,_=>([],[])
 |n+1,ks=>if ks=[] then([],[]) else((Q3 rows ks).1++(z5q rows n (Q3 rows ks).2.2).1,(Q3 rows ks).2.1++(z5q rows n (Q3 rows ks).2.2).2)
def z9g{keys:List Int}{r q:Z6}(h:J9 keys best r=some q):best=some q\/(q=r/\keys.take q.1.length=q.1):=by
 unfold J9 at h
 split at h
 .rename_i hc
  cases h
  exact .inr ⟨rfl,hc.1⟩
 .exact .inl h
theorem z34{keys:List Int}: ∀(rows:List Z6) (best:Option Z6) (q:Z6),rows.foldl (J9 keys) best=some q->best=some q\/(q∈rows/\keys.take q.1.length=q.1)
 |[],best,q,h=> .inl h
 |r::rows,best,q,h=>by
  rw[N4] at h
  rcases z34 rows _ q h with e|⟨m,e⟩
  .rcases z9g e with e|⟨e1,e2⟩
   .exact .inl e
   .exact .inr ⟨e1▸l6,e2⟩
  .exact .inr ⟨i5 _ m,e⟩
def z0t{keys:List Int}{q:Z6}(h:z0s rows keys=some q):q∈rows/\keys.take q.1.length=q.1:=by
 rcases z34 rows none q h with e|e
 .cases e
 .exact e
def K2{keys:List Int}(hw: ∀r∈rows,Wf r)(hk:keys≠[]):(Q3 rows keys).2.2.length<keys.length/\(Q3 rows keys).1.length<=3/\(Q3 rows keys).2.1.length<=1/\((Q3 rows keys).2.1.length+(Q3 rows keys).2.2.length<=keys.length):=by
 have hl:0<keys.length:=by
  cases keys with
  |nil=>exact absurd rfl hk
  |cons _ _=>simp
 unfold Q3
 cases e:z0s rows keys with
 |none=>
  dsimp only
  rw[C2,A5,C8]
  lia
 |some r=>
  obtain⟨m,t⟩:=z0t e
  obtain⟨w1,w2,w3,w4⟩:=hw r m
  have:=congrArg E7 t
  rw[A5] at this
  dsimp only
  rw[m5,C2,C8]
  lia
theorem z6E(hw: ∀r∈rows,Wf r): ∀(n m:Nat) (ks:List Int),ks.length<=n->ks.length<=m->z5q rows n ks=z5q rows m ks
 |0,0,ks,_,_=>rfl
 |0,m+1,ks,h,_=>by
  have e:ks=[]:=C1 ⋯
  unfold z5q
  rw[qy e]
 |n+1,0,ks,_,h=>by
  have e:ks=[]:=C1 ⋯
  unfold z5q
  rw[qy e]
 |n+1,m+1,ks,h1,h2=>by
  unfold z5q
  by_cases e:ks=[]
  .rw[qy e,qy e]
  .obtain⟨l,_⟩:=K2 hw e
   rw[qh e,qh e,z6E hw n m _ ⋯ ⋯]
def readA(rows:List Z6)(ks:List Int):List Int×List Int:=z5q rows ks.length ks
def z2p rows:readA rows []=([],[]):=rfl
def z1I(hw: ∀r∈rows,Wf r)(h:ks≠[]):
 readA rows ks=((Q3 rows ks).1++(readA rows (Q3 rows ks).2.2).1,(Q3 rows ks).2.1++(readA rows (Q3 rows ks).2.2).2):=by
 obtain⟨l,_⟩:=K2 hw h
 obtain⟨n,hn⟩: ∃n,ks.length=n+1:=⟨ks.length - 1,⋯⟩
 unfold readA
 rw[hn]
 conv=>lhs;unfold z5q
 rw[qh h,z6E hw n _ _ ⋯ (i6 _)]
abbrev tI(ns:List Int):D:= .tup (ns.map .int)
theorem z2W: ∀ns:List Int,erL (ns.map .int)=ns.map PyData.int
 |[]=>rfl
 |n::ns=>by erw[i7,erL,er,z2W ns]
def zaW ns:er (tI ns)=L2.dT ns:=by erw[tI,er,z2W];rfl
theorem z7B: ∀ns:List Int,plainL (ns.map D.int)=true
 |[]=>rfl
 |n::ns=>by erw[i7,plainL,Mi.z0I,z7B ns];rfl
def zdK a b:eqC (tI a) (tI b)=true:=by
 have h1:Mi.z0I (tI a)=true:=z7B a
 have h2:Mi.z0I (tI b)=true:=z7B b
 have:=zh5 a
 erw[eqC,h1,h2,zaW,zh4,E8,decide_eq_true_eq];lia
def z4G{a b:List Int}{s:Stt}:eqD (tI a) (tI b) s= .ok (.bool (decide (a=b))) s:=by rw[zi8 (zdK a b),zaW,zaW,za6]
def zaX{a b:List Int}{s:Stt}:neD (tI a) (tI b) s= .ok (.bool (!decide (a=b))) s:=by rw[zjw (zdK a b),zaW,zaW,za6]
abbrev rD(r:Z6):D:= .tup [tI r.1,tI r.2.1,tI r.2.2]
def oD:Option Z6->D
 |none=> .non
 |some r=>rD r
def U9{P:Nat->Stt->Prop}{l:Nat}{g:Tg}{b:MS}(hP: ∀i s,P i s->s.tm=some (.lst l ds)::tm)
 (body: ∀i d,ds[i]? =some d->∀s,P i s->∃σ',asg g d s.σ=some σ'/\∃s',b {s with σ:=σ'}= .nx s'/\P (i+1) s'):
 ∀f i s,i+f=ds.length->P i s->∃s',forGo kLst g b f i s= .nx (s'.popn 1)/\P ds.length s':=by
 intro f
 induction f with
 |zero=>
  intro i s hi h
  have hi:i=ds.length:=by lia
  refine⟨s, ?_,hi▸h⟩
  unfold forGo
  have e:kLst.at' i s.tm=some none:=by rw[hP i s h];show some ds[i]? =_;rw[List.getElem?_eq_none ⋯]
  erw[e]
  rfl
 |succ f ih=>
  intro i s hi h
  have hl:i<ds.length:=by lia
  obtain⟨σ',e1,s',e2,h'⟩:=body i ds[i] (List.getElem?_eq_getElem hl) s h
  obtain⟨s2,e3,h2⟩:=ih (i+1) s' ⋯ h'
  refine⟨s2, ?_,h2⟩
  unfold forGo
  have e:kLst.at' i s.tm=some (some ds[i]):=by rw[hP i s h];show some ds[i]? =_;rw[List.getElem?_eq_getElem hl]
  erw[e,e1,e2]
  exact e3
def z6F:z0A fu c b s=Y5 c b (fu s) s:=(rfl)
def z7C{ns:List Int}{k:Nat}:(ns.map D.int).take k=(ns.take k).map D.int:=by rw[R9]
def z7D{ns:List Int}{k:Nat}:(ns.map D.int).drop k=(ns.drop k).map D.int:=by rw[List.map_drop]
def z5J{ns:List Int}:((ns.map D.int).length:Int)=(ns.length:Int):=by rw[l0]
def B_3:=BA (BA (BA (BA (BA @qg1 @qg2) (BA @qg3 @qg4)) (BA (BA @qg5 @qg6) (BA @qg7 @qg8))) (BA (BA (BA @qg9 @zmb) (BA @zmc @zmd)) (BA (BA @zme @qh1) (BA @qh2 (BA @qh3 @qh4))))) (BA (BA (BA (BA @qh5 @qh6) (BA @qh7 @qh8)) (BA (BA @qh9 @zmf) (BA @zmg @zmh))) (BA (BA (BA @zmi @zmj) (BA @zlu @zlv)) (BA (BA @zlw @zmk) (BA @zkS (BA @zaT @zkT)))))
def B_4:=BA (BA (BA @zft @zcN) (BA @zcO (BA @zcP @zcQ))) (BA (BA @Z0 @zkU) (BA @zir (BA @z4G @zaX)))
local macro_rules | `(tactic| left) => `(tactic| (simp (config := { dsimp := false }) only [B_0, B_2, ↓B_3, B_4, isiD, Q5, asg, asgL, B8, T9, u00, String.reduceBEq, u01]))
def z9h rows ks l n(hw: ∀r∈rows,0<r.1.length):X6 [.lst l (rows.map rD),tI ks] n= .ok (oD (z0s rows ks)) [.lst l (rows.map rD),tI ks] n:=by
 unfold X6 z0m
 left
 obtain⟨s',e,hs⟩:=U9 (P:=λi s=> ∃o3,s=⟨[some (.lst l (rows.map rD)),some (tI ks),some (oD ((rows.take i).foldl (J9 ks) none)),o3],some (.lst l (rows.map rD))::[some (.lst l (rows.map rD)),some (tI ks)],n⟩) (l:=l) (ds:=rows.map rD) (g:= .nm 3) (tm:=[some (.lst l (rows.map rD)),some (tI ks)])
  (b:=sIf (z9r (J4 (y4 (mSl (y0 1) none (some (mCB [(y4 (y0 3) (mC (.int 0)) ixD)] X8))) (y4 (y0 3) (mC (.int 0)) ixD) eqD)) (mOr (J4 (y4 (y0 2) (mC .non) isN)) (J4 (y4 (mCB [(y4 (y0 3) (mC (.int 0)) ixD)] X8) (mCB [(y4 (y0 2) (mC (.int 0)) ixD)] X8) gtD)))) (Y1 (.nm 2) (y0 3)) sNx)
  (by rintro i s ⟨o3,rfl⟩;rfl) (by
   rintro i d hd s ⟨o3,rfl⟩
   refine⟨_,rfl, ?_⟩
   rw[List.getElem?_map] at hd
   cases hr:rows[i]? with
   |none=>rw[hr] at hd;cases hd
   |some r=>
    rw[hr] at hd
    cases hd
    have hf:(rows.take (i+1)).foldl (J9 ks) none=J9 ks ((rows.take i).foldl (J9 ks) none) r:=by
     rw[A6,hr,A8,D9];rfl
    rw[hf]
    generalize (rows.take i).foldl (J9 ks) none=best
    show ∃s',_/\∃o3,s'=_
    left
    rw[z5J,z48,z7C,z4G]
    left
    by_cases h1:ks.take r.1.length=r.1
    .erw[h1,decide_true]
     left
     cases best with
     |none=>
      erw[oD,z6C]
      left
      refine⟨_,rfl,some (rD r), ?_⟩
      unfold J9
      rw[qy ⟨h1,hw r (List.mem_of_getElem? hr)⟩]
     |some b=>
      erw[oD,z6C]
      left
      rw[z5J,z5J]
      by_cases h2:b.1.length<r.1.length
      .erw[show decide ((b.1.length:Int)<(r.1.length:Int))=true by simp[h2]]
       left
       refine⟨_,rfl,some (rD r), ?_⟩
       unfold J9
       rw[qy ⟨h1,h2⟩]
      .erw[show decide ((b.1.length:Int)<(r.1.length:Int))=false by simp;lia]
       left
       refine⟨_,rfl,some (rD r), ?_⟩
       unfold J9
       rw[qh λh=>h2 h.2]
    .erw[h1,decide_false]
     left
     refine⟨_,rfl,some (rD r), ?_⟩
     unfold J9
     rw[qh λh=>h1 h.1]) rows.length 0 ⟨[some (.lst l (rows.map rD)),some (tI ks),some .non,none],some (.lst l (rows.map rD))::[some (.lst l (rows.map rD)),some (tI ks)],n⟩ (by simp) ⟨none,by simp[oD]⟩
 obtain⟨o3,rfl⟩:=hs
 rw[z0r (l:=l) (ds:=rows.map rD) (σ:=[some (.lst l (rows.map rD)),some (tI ks),some .non,none]) (tm:=[some (.lst l (rows.map rD)),some (tI ks)]) (n:=n) (by left)]
 left
 rw[show kLst.len (some (.lst l (rows.map rD))::[some (.lst l (rows.map rD)),some (tI ks)])=rows.length by show(rows.map rD).length=_;simp,e]
 left
 rw[l0,E9]
 rfl
def ofI:D->Int
 | .int i=>i
 |_=>0
def unI:D->List Int
 | .tup ds=>ds.map ofI
 |_=>[]
def unR:D->Z6
 | .tup [a,b,c]=>(unI a,unI b,unI c)
 |_=>([],[],[])
def zdL ns:unI (tI ns)=ns:=by
 erw[unI,B7]
 induction ns with
 |nil=>rfl
 |cons n ns ih=>erw[i7,Function.comp,ofI,ih]
def zdM(r:Z6):unR (rD r)=r:=by erw[unR,zdL]
def wt(ks:List Int)(r:Z6):Bool:=decide (ks.length<r.1.length)&&decide (r.1.take ks.length=ks)
def gW(ks:List Int)(d:D):D:= .bool (wt ks (unR d))
def bb1(o:Option Z6):List Int:=o.elim [] (·.1)
def bb2(o:Option Z6):List Int:=o.elim [] (·.2.1)
def bb3(o:Option Z6):List Int:=o.elim [] (·.2.2)
def zml{n:Int}:atI ((n::ns).map D.int) 0=some (.int n):=at0
def zis{ws:List D}:z67 ws none (some (1:Int))=ws.take 1:=z48 (l:=1)
def zdN{ws:List D}:z67 ws (some (1:Int)) none=ws.drop 1:=z6D (l:=1)
theorem z6G(ks:List Int): ∀rows:List Z6,z06 (rows.map λr=>D.bool (wt ks r))=some (rows.map (wt ks))
 |[]=>rfl
 |r::rows=>by erw[i7,z06,z6G ks rows,i9]
def px1{n:Nat}:Stt.popn ⟨σ,a::tm,n⟩ 1=⟨σ,tm,n⟩:=rfl
def z8j rows ks l n(hw: ∀r∈rows,Wf r)(hk:ks.length<=1000):U1 [.lst l (rows.map rD),tI ks] n= .ok (.tup [tI (Q3 rows ks).1,tI (Q3 rows ks).2.1,tI (Q3 rows ks).2.2]) [.lst l (rows.map rD),tI ks] n:=by
 unfold U1 z1i
 left
 rw[z9h rows ks l n λr h=>(hw r h).1]
 unfold Q3
 cases hb:z0s rows ks with
 |none=>
  erw[oD]
  left
  erw[z6C]
  left
  rw[zis,zdN,z7C,z7D]
  rfl
 |some r=>
  obtain⟨w1,w2,w3,w4⟩:=hw r (z0t hb).1
  erw[oD]
  left
  erw[z6C]
  left
  rw[z5J,z6D,z7D,z6w (by rw[zl];erw[l0,C2];lia)]
  left
  rw[<-t5]
  rfl
def zfv(rows:List Z6)(ks:List Int)(l n:Nat)(hr:rows.length<1000): ∃n',n<=n'/\K8 [.lst l (rows.map rD),tI ks] n= .ok (.bool (rows.any (wt ks))) [.lst l (rows.map rD),tI ks] n':=by
 unfold K8 z1A
 left
 obtain⟨n',hn,e⟩:=z4F (mc:=y0 0) (mt:=rt true) (me:=z8W (y4 (mCB [(y0 1)] X8) (mCB [(y4 (y0 0) (mC (.int 0)) ixD)] X8) ltD) (y4 (mSl (y4 (y0 0) (mC (.int 0)) ixD) none (some (mCB [(y0 1)] X8))) (y0 1) eqD)) (p:=λ_=>true) (g:=gW ks) (l:=l) (ds:=rows.map rD) (ix:=[1]) (s:=⟨[some (.lst l (rows.map rD)),some (tI ks)],[some (.lst l (rows.map rD)),some (tI ks)],n⟩) (σ:=[some (.lst l (rows.map rD)),some (tI ks)]) (tm:=[some (.lst l (rows.map rD)),some (tI ks)]) (n:=n)
  (by left) (by rw[l0,zl];lia) (λd hd tm n=>⟨n,i6 _,rfl⟩) (by
   intro d hd _ tm n
   obtain⟨r,_,rfl⟩:=l5.mp hd
   refine⟨n,i6 _, ?_⟩
   erw[i7,t7,List.getElem?_cons_zero,List.getElem?_cons_succ,B4]
   left
   rw[z5J,z5J]
   unfold gW
   rw[zdM]
   unfold wt
   by_cases h1:ks.length<r.1.length
   .erw[show decide ((ks.length:Int)<(r.1.length:Int))=true by simp[h1],h1,decide_true,E8]
    left
    rw[z5J,z48,z7C,z4G]
   .erw[show decide ((ks.length:Int)<(r.1.length:Int))=false by simp;lia,h1,decide_false,T4]
    left)
 refine⟨n'+1,⋯, ?_⟩
 rw[e]
 left
 have hf:((rows.map rD).filter λ_=>true).map (gW ks)=rows.map λr=>D.bool (wt ks r):=by
  rw[P5.mpr (λ_ _=>rfl),B7]
  refine D2 λr _=> ?_
  erw[Function.comp,gW,zdM]
 rw[hf,zkK (z6G ks rows)]
 left
 rw[S7]
 rfl
def z8k rows ks l n(hw: ∀r∈rows,Wf r)(hk:ks≠[])(hz:ks.length<=30000)(hl:l<n):z1l [.lst l (rows.map rD),tI ks] n= .ok (.tup [.lst n ((Q3 rows ks).1.map .int), .lst (n+1) ((Q3 rows ks).2.1.map .int),tI (Q3 rows ks).2.2]) [.lst l (rows.map rD),tI ks] (n+2):=by
 unfold z1l z5m
 left
 obtain⟨s',e,hs⟩:=U9 (P:=λi s=> ∃o5,s=⟨[some (.lst l (rows.map rD)),some (tI ks),some (tI (bb1 ((rows.take i).foldl (J9 ks) none))),some (tI (bb2 ((rows.take i).foldl (J9 ks) none))),some (tI (bb3 ((rows.take i).foldl (J9 ks) none))),o5],some (.lst l (rows.map rD))::[some (.lst l (rows.map rD)),some (tI ks)],n⟩) (l:=l) (ds:=rows.map rD) (g:= .nm 5) (tm:=[some (.lst l (rows.map rD)),some (tI ks)])
  (b:=sIf (z9r (J4 (y4 (mCB [(y4 (y0 5) (mC (.int 0)) ixD)] X8) (mCB [(y0 2)] X8) gtD)) (J4 (y4 (mSl (y0 1) none (some (mCB [(y4 (y0 5) (mC (.int 0)) ixD)] X8))) (y4 (y0 5) (mC (.int 0)) ixD) eqD))) (Y1 (.tp [(.nm 2),(.nm 3),(.nm 4)]) (y0 5)) sNx)
  (by rintro i s ⟨o3,rfl⟩;rfl) (by
   rintro i d hd s ⟨o3,rfl⟩
   refine⟨_,rfl, ?_⟩
   rw[List.getElem?_map] at hd
   cases hr:rows[i]? with
   |none=>rw[hr] at hd;cases hd
   |some r=>
    rw[hr] at hd
    cases hd
    have hf:(rows.take (i+1)).foldl (J9 ks) none=J9 ks ((rows.take i).foldl (J9 ks) none) r:=by
     rw[A6,hr,A8,D9];rfl
    rw[hf]
    generalize (rows.take i).foldl (J9 ks) none=best
    show ∃s',_/\∃o3,s'=_
    have hb:J9 ks best r=if ks.take r.1.length=r.1/\(bb1 best).length<r.1.length then some r else best:=by
     unfold J9 bb1;cases best<;>rfl
    rw[hb]
    left
    rw[z5J,z5J]
    by_cases h2:(bb1 best).length<r.1.length
    .erw[show decide (((bb1 best).length:Int)<(r.1.length:Int))=true by simp[h2]]
     left
     rw[z5J,z48,z7C,z4G]
     left
     by_cases h1:ks.take r.1.length=r.1
     .erw[h1,decide_true]
      left
      refine⟨_,rfl,some (rD r), ?_⟩
      rw[qy ⟨trivial,h2⟩]
      rfl
     .erw[h1,decide_false]
      left
      refine⟨_,rfl,some (rD r), ?_⟩
      rw[qh λh=>h.1.elim]
    .erw[show decide (((bb1 best).length:Int)<(r.1.length:Int))=false by simp;lia]
     left
     refine⟨_,rfl,some (rD r), ?_⟩
     rw[qh λh=>h2 h.2]) rows.length 0 ⟨[some (.lst l (rows.map rD)),some (tI ks),some (tI []),some (tI []),some (tI []),none],some (.lst l (rows.map rD))::[some (.lst l (rows.map rD)),some (tI ks)],n⟩ (by simp) ⟨none,by simp[bb1,bb2,bb3]⟩
 obtain⟨o3,rfl⟩:=hs
 rw[z0r (l:=l) (ds:=rows.map rD) (σ:=[some (.lst l (rows.map rD)),some (tI ks),some (.tup []),some (.tup []),some (.tup []),none]) (tm:=[some (.lst l (rows.map rD)),some (tI ks)]) (n:=n) (by left)]
 left
 rw[show kLst.len (some (.lst l (rows.map rD))::[some (.lst l (rows.map rD)),some (tI ks)])=rows.length by show(rows.map rD).length=_;simp]
 rw[show(D.tup [])=tI [] from rfl,e]
 erw[px1]
 left
 rw[l0,E9]
 show((_:RS)).fin=_
 have hlg:rows.foldl (J9 ks) none=z0s rows ks:=rfl
 rw[hlg]
 unfold Q3
 cases hb:z0s rows ks with
 |none=>
  erw[bb1,bb2,bb3,u0m]
  left
  rw[show(D.tup [])=tI [] from rfl,z4G]
  erw[decide_true]
  left
  cases ks with
  |nil=>exact absurd rfl hk
  |cons a ks=>
   rw[zml]
   left
   rw[zdN]
   rfl
 |some r=>
  obtain⟨w1,w2,w3,w4⟩:=hw r (z0t hb).1
  erw[bb1,bb2,bb3,u0m]
  left
  rw[show(D.tup [])=tI [] from rfl,z4G]
  erw[show decide (r.1=[])=false by simp;intro h;rw[h] at w1;simp at w1]
  left
  rw[z5J,z6D,z7D,z6w (by rw[zl];erw[l0,C2];lia)]
  left
  rw[<-t5]
theorem Z9: ∀ns:List Int,qq (ns.map D.int)=[]
 |[]=>rfl
 |n::ns=>by erw[i7,qq,labs,Z9 ns];rfl
def z7E(r:Z6):labs (rD r)=[]:=by erw[labs,qq,Z9];rfl
theorem z0u: ∀rows:List Z6,qq (rows.map rD)=[]
 |[]=>rfl
 |r::rows=>by erw[i7,qq,z0u rows];rw[z7E];rfl
def z2q{k:Nat}{ns:List Int}:rp (pl k d) (.tup (ns.map D.int))= .tup (ns.map D.int):=U2 (by rw[show labs (.tup (ns.map D.int))=[] from Z9 ns];exact m8)
def Y8{k:Nat}{ns:List Int}:rpL (pl k d) (ns.map D.int)=ns.map D.int:=rpL_id _ λj hj=>by rw[Z9] at hj;cases hj
def zcR{k:Nat}{rows:List Z6}:rpL (pl k d) (rows.map rD)=rows.map rD:=rpL_id _ λj hj=>by rw[z0u] at hj;cases hj
def Z7{k l:Nat}{rows:List Z6}(h:l≠k):rp (pl k d) (.lst l (rows.map rD))= .lst l (rows.map rD):=by rw[z0y h,zcR]
def W3{k l:Nat}{ns:List Int}(h:l≠k):rp (pl k d) (.lst l (ns.map D.int))= .lst l (ns.map D.int):=by rw[z0y h,Y8]
def z0v{l:Nat}:rp (pl l d) (.lst l ds)=d:=by erw[rp,pl,if_true]
def z4H{l:Nat}{ds es:List D}{n:Nat}(h:ds.length+es.length<=qg)(hl:qq es=[]):z2k (.lst l ds) [.tup es] ⟨σ,tm,n⟩= .ok .non ⟨rpO (pl l (.lst l (ds++es))) σ,rpO (pl l (.lst l (ds++es))) tm,n⟩:=by
 erw[z2k,z9q]
 rw[qy ⟨h,by rw[hl];exact m8⟩]
 rfl
def z8l{l k:Nat}{ds es:List D}{n:Nat}(h:ds.length+es.length<=qg)(hl:qq es=[]):z2k (.lst l ds) [.lst k es] ⟨σ,tm,n⟩= .ok .non ⟨rpO (pl l (.lst l (ds++es))) σ,rpO (pl l (.lst l (ds++es))) tm,n⟩:=by
 erw[z2k,z9q]
 rw[qy ⟨h,by rw[hl];exact m8⟩]
 rfl
theorem z8m(hw: ∀r∈rows,Wf r): ∀(m:Nat) (ks:List Int),ks.length<=m->(readA rows ks).1.length<=3*ks.length/\(readA rows ks).2.length<=ks.length
 |0,ks,h=>by
  have e:ks=[]:=C1 ⋯
  subst e;simp[z2p]
 |m+1,ks,h=>by
  by_cases e:ks=[]
  .subst e;simp[z2p]
  .obtain⟨l1,l2,l3⟩:=K2 hw e
   have ih:=z8m hw m (Q3 rows ks).2.2 ⋯
   rw[z1I hw e]
   erw[m5]
   lia
def z7F rows(hw: ∀r∈rows,Wf r) l n K(hl:l<n)(hK: ∀d,rp (pl n d) K=K)(hK1: ∀d,rp (pl (n+1) d) K=K): ∀m R S L o5 o6 q,n+2<=q->R.length<m->R.length<=20000->S.length+3*R.length<=100000->L.length+R.length<=100000->∃p5 p6 q',q<=q'/\
 Y5 (J4 (y4 (y0 4) (mCB [] j3) neD)) (Z1 (Y1 (.tp [(.nm 5),(.nm 6),(.nm 4)]) (Z2 z1l [(y0 0),(y0 4)])) (Z1 (Q8 (Q2 (y0 2) [(y0 5)] z2k)) (Q8 (Q2 (y0 3) [(y0 6)] z2k)))) m ⟨[some (.lst l (rows.map rD)),some K,some (.lst n (S.map .int)),some (.lst (n+1) (L.map .int)),some (.tup (R.map .int)),o5,o6],[some (.lst l (rows.map rD)),some K],q⟩
  = .nx ⟨[some (.lst l (rows.map rD)),some K,some (.lst n ((S++(readA rows R).1).map .int)),some (.lst (n+1) ((L++(readA rows R).2).map .int)),some (.tup []),p5,p6],[some (.lst l (rows.map rD)),some K],q'⟩:=by
 intro m
 induction m with
 |zero=>intro R S L o5 o6 q hq h;lia
 |succ m ih=>
  intro R S L o5 o6 q hq h h2 h3 h4
  unfold Y5
  by_cases hR:R=[]
  .subst hR
   refine⟨o5,o6,q,i6 _, ?_⟩
   left
   rw[show(D.tup [])= .tup (([]:List Int).map .int) from rfl,zaX]
   erw[z2p,l7,decide_true,D6]
   left
  .obtain⟨l1,l2,l3⟩:=K2 hw hR
   have e0:=z1I hw hR
   have ps:=z8k rows R l q hw hR ⋯ ⋯
   left
   rw[show(D.tup [])= .tup (([]:List Int).map .int) from rfl,zaX]
   erw[hR,decide_false,E4]
   left
   rw[ps]
   left
   rw[z8l (by rw[zl];erw[l0];lia) (Z9 _)]
   left
   simp only[<-t5,Z7 (show l≠n by lia),W3 (show n+1≠n by lia),W3 (show q≠n by lia),W3 (show q+1≠n by lia),Y8,hK]
   left
   try erw[W3 (show n+1≠n by lia)]
   rw[z8l (by rw[zl];erw[l0];lia) (Z9 _)]
   left
   simp only[<-t5,Z7 (show l≠n+1 by lia),W3 (show n≠n+1 by lia),W3 (show q≠n+1 by lia),W3 (show q+1≠n+1 by lia),Y8,hK1]
   obtain⟨p5,p6,q',hq',e⟩:=ih (Q3 rows R).2.2 (S++(Q3 rows R).1) (L++(Q3 rows R).2.1) (some (.lst q ((Q3 rows R).1.map .int))) (some (.lst (q+1) ((Q3 rows R).2.1.map .int))) (q+2) ⋯ ⋯ ⋯ (by rw[m5];lia) (by rw[m5];lia)
   refine⟨p5,p6,q',⋯, ?_⟩
   rw[e,e0]
   erw[A3]
def z5r rows ks l n K(hw: ∀r∈rows,Wf r)(hk:ks.length<=20000)(hl:l<n)(hK:(∃k,k<n/\K= .lst k (ks.map .int))\/K= .tup (ks.map .int)): ∃n',n<=n'/\z0C [.lst l (rows.map rD),K] n= .ok (.tup [.lst n ((readA rows ks).1.map .int), .lst (n+1) ((readA rows ks).2.map .int)]) [.lst l (rows.map rD),K] n':=by
 have hK2:z68 [K]=z68 [.tup (ks.map .int)]:=by
  rcases hK with⟨k,_,rfl⟩|rfl<;>rfl
 unfold z0C z5n
 left
 rw[hK2]
 left
 rw[z6F]
 have rK: ∀j,n<=j->∀d,rp (pl j d) K=K:=λj hj d=>by
  rcases hK with⟨k,hk,rfl⟩|rfl
  .exact W3 ⋯
  .exact z2q
 obtain⟨p5,p6,q',hq',e⟩:=z7F rows hw l n K hl (rK n (i6 _)) (rK (n+1) ⋯) 100000 ks [] [] none none (n+1+1) ⋯ ⋯ hk (by simp;lia) (by simp;lia)
 erw[t7,B0] at e
 refine⟨q',⋯, ?_⟩
 rw[e]
 left
def J1(rows:List Z6)(R:List Int):Bool:=decide (R=[])||rows.any (wt R)
def Y2(rows:List Z6):Nat->List Int->Z6
 |0,R=>([],[],R)
 |m+1,R=>if J1 rows R=true then([],[],R) else((Q3 rows R).1++(Y2 rows m (Q3 rows R).2.2).1,(Q3 rows R).2.1++(Y2 rows m (Q3 rows R).2.2).2.1,(Y2 rows m (Q3 rows R).2.2).2.2)
def nkI(ns:List Int):NK:=ns.map λi=> .inl (.inl i)
theorem z4I: ∀ns:List Int,z3C (ns.map D.int)=some (nkI ns)
 |[]=>rfl
 |n::ns=>by
  have ih:=z4I ns
  erw[i7,z3C,zdB,z0x,ih,nkI]
def z1m ns:z1O (.tup (ns.map D.int))=some (nkI ns):=z4I ns
def zdO{k j:Nat}(h:j≠k)(hv:qq vs=[]):rp (pl k d) (.dct j ks vs)= .dct j ks vs:=by
 erw[rp,pl,qh h]
 rw[rpL_id _ λi hi=>by rw[hv] at hi;cases hi]
def z6H(rows:List Z6)(hw: ∀r∈rows,Wf r)(hr:rows.length<1000)(l n:Nat)(W:List Int)(k:Int)(hl:l<n): ∀(m:Nat) (R S L:List Int) (o5 o6:Option D) (q:Nat),n+2<=q->R.length<m->R.length<=200->S.length+3*R.length<=2000->L.length+R.length<=2000->(∀k d,B6 (rp (pl k d)) o5=o5)->(∀k d,B6 (rp (pl k d)) o6=o6)->∃p5 p6 q',q<=q'/\
 Y5 (z9r (z1r (y0 5)) (z9s (z1r (Z2 K8 [(y0 0),(y0 5)])))) (Z1 (Y1 (.tp [(.nm 6),(.nm 7),(.nm 5)]) (Z2 U1 [(y0 0),(y0 5)])) (Z1 (Q8 (Q2 (y0 3) [(y0 6)] z2k)) (Q8 (Q2 (y0 4) [(y0 7)] z2k)))) m ⟨[some (.lst l (rows.map rD)),some (.tup (W.map .int)),some (.int k),some (.lst n (S.map .int)),some (.lst (n+1) (L.map .int)),some (.tup (R.map .int)),o5,o6],[some (.lst l (rows.map rD)),some (.tup (W.map .int)),some (.int k)],q⟩
  = .nx ⟨[some (.lst l (rows.map rD)),some (.tup (W.map .int)),some (.int k),some (.lst n ((S++(Y2 rows m R).1).map .int)),some (.lst (n+1) ((L++(Y2 rows m R).2.1).map .int)),some (.tup ((Y2 rows m R).2.2.map .int)),p5,p6],[some (.lst l (rows.map rD)),some (.tup (W.map .int)),some (.int k)],q'⟩:=by
 intro m
 induction m with
 |zero=>intro R S L o5 o6 q hq h;lia
 |succ m ih=>
  intro R S L o5 o6 q hq h h2 h3 h4 r5 r6
  unfold Y5 Y2
  by_cases hR:R=[]
  .subst hR
   refine⟨o5,o6,q,i6 _, ?_⟩
   left
   erw[J1,decide_true,S6,if_true,l7,t7,O2,D6]
   left
  .obtain⟨l1,l2,l3⟩:=K2 hw hR
   have hne:(R.map D.int).isEmpty=false:=by cases R with|nil=>exact absurd rfl hR|cons _ _=>rfl
   obtain⟨q1,hq1,ew⟩:=zfv rows R l q hr
   left
   erw[hne]
   left
   rw[ew]
   left
   have hs:J1 rows R=rows.any (wt R):=by erw[J1,hR,decide_false,N1]
   rw[hs]
   cases hwt:rows.any (wt R) with
   |true=>
    refine⟨o5,o6,q1,hq1, ?_⟩
    left
    erw[if_true,l7]
   |false=>
    left
    rw[z8j rows R l q1 hw ⋯]
    left
    rw[z4H (by rw[zl];erw[l0];lia) (Z9 _)]
    left
    simp only[<-t5,Z7 (show l≠n by lia),W3 (show n+1≠n by lia),Y8]
    left
    try erw[W3 (show n+1≠n by lia)]
    rw[z4H (by rw[zl];erw[l0];lia) (Z9 _)]
    left
    simp only[<-t5,Z7 (show l≠n+1 by lia),W3 (show n≠n+1 by lia),Y8]
    obtain⟨p5,p6,q',hq',e⟩:=ih (Q3 rows R).2.2 (S++(Q3 rows R).1) (L++(Q3 rows R).2.1) (some (.tup ((Q3 rows R).1.map .int))) (some (.tup ((Q3 rows R).2.1.map .int))) q1 ⋯ ⋯ ⋯ (by rw[m5];lia) (by rw[m5];lia) (λ_ _=>by rw[i9,z2q]) (λ_ _=>by rw[i9,z2q])
    refine⟨p5,p6,q',⋯, ?_⟩
    rw[e]
    erw[A3,t8,if_false]
def zaY rows W k l n(hw: ∀r∈rows,Wf r)(hr:rows.length<1000)(hk:W.length<=100)(hl:l<n): ∃n',n+2<=n'/\z1B [.lst l (rows.map rD), .tup (W.map .int), .int k] n= .ok (.tup [.lst n ((Y2 rows 1000 (W++[k])).1.map .int), .lst (n+1) ((Y2 rows 1000 (W++[k])).2.1.map .int), .tup ((Y2 rows 1000 (W++[k])).2.2.map .int)]) [.lst l (rows.map rD), .tup (W.map .int), .int k] n':=by
 unfold z1B z3V
 left
 rw[z6w (by rw[zl];erw[l0,A4,C8];lia)]
 left
 rw[z6F,show W.map D.int++[D.int k]=(W++[k]).map D.int by rw[t5];rfl]
 have hl2:(W++[k]).length=W.length+1:=by simp
 obtain⟨p5,p6,q',hq',e⟩:=z6H rows hw hr l n W k hl 1000 (W++[k]) [] [] none none (n+1+1) ⋯ ⋯ ⋯ (by erw[C8];lia) (by erw[C8];lia) (λ_ _=>rfl) (λ_ _=>rfl)
 erw[t7,B0] at e
 refine⟨q',⋯, ?_⟩
 rw[e]
 left
def z6I(rows:List Z6)(hw: ∀r∈rows,Wf r)(l n:Nat)(Dd:D)(hd: ∀(R:List Int) (s:Stt),z0c (.tup (R.map D.int)) Dd s= .ok (.bool (!J1 rows R)) s)(hf: ∀d,rp (pl n d) Dd=Dd)(hf1: ∀d,rp (pl (n+1) d) Dd=Dd)(W:List Int)(k:Int)(hl:l<n): ∀(m:Nat) (R S L:List Int) (o5 o6:Option D) (q:Nat),n+2<=q->R.length<m->R.length<=200->S.length+3*R.length<=2000->L.length+R.length<=2000->∃p5 p6 q',q<=q'/\
 Y5 (J4 (y4 (y0 6) (y0 1) z0c)) (Z1 (Y1 (.tp [(.nm 7),(.nm 8),(.nm 6)]) (Z2 z1l [(y0 0),(y0 6)])) (Z1 (Q8 (Q2 (y0 4) [(y0 7)] z2k)) (Q8 (Q2 (y0 5) [(y0 8)] z2k)))) m ⟨[some (.lst l (rows.map rD)),some Dd,some (.tup (W.map .int)),some (.int k),some (.lst n (S.map .int)),some (.lst (n+1) (L.map .int)),some (.tup (R.map .int)),o5,o6],[some (.lst l (rows.map rD)),some Dd,some (.tup (W.map .int)),some (.int k)],q⟩
  = .nx ⟨[some (.lst l (rows.map rD)),some Dd,some (.tup (W.map .int)),some (.int k),some (.lst n ((S++(Y2 rows m R).1).map .int)),some (.lst (n+1) ((L++(Y2 rows m R).2.1).map .int)),some (.tup ((Y2 rows m R).2.2.map .int)),p5,p6],[some (.lst l (rows.map rD)),some Dd,some (.tup (W.map .int)),some (.int k)],q'⟩:=by
 intro m
 induction m with
 |zero=>intro R S L o5 o6 q hq h;lia
 |succ m ih=>
  intro R S L o5 o6 q hq h h2 h3 h4
  unfold Y5 Y2
  left
  rw[hd]
  cases hs:J1 rows R with
  |true=>
   refine⟨o5,o6,q,i6 _, ?_⟩
   left
   erw[if_true,l7]
  |false=>
   have hR:R≠[]:=λe=>by rw[e] at hs;simp[J1] at hs
   obtain⟨l1,l2,l3⟩:=K2 hw hR
   left
   rw[z8k rows R l q hw hR ⋯ ⋯]
   left
   rw[z8l (by rw[zl];erw[l0];lia) (Z9 _)]
   left
   simp only[<-t5,Z7 (show l≠n by lia),hf,W3 (show n+1≠n by lia),W3 (show q≠n by lia),W3 (show q+1≠n by lia),Y8]
   left
   try erw[W3 (show n+1≠n by lia)]
   rw[z8l (by rw[zl];erw[l0];lia) (Z9 _)]
   left
   simp only[<-t5,Z7 (show l≠n+1 by lia),hf1,W3 (show n≠n+1 by lia),W3 (show q≠n+1 by lia),W3 (show q+1≠n+1 by lia),Y8]
   obtain⟨p5,p6,q',hq',e⟩:=ih (Q3 rows R).2.2 (S++(Q3 rows R).1) (L++(Q3 rows R).2.1) (some (.lst q ((Q3 rows R).1.map .int))) (some (.lst (q+1) ((Q3 rows R).2.1.map .int))) (q+2) ⋯ ⋯ ⋯ (by rw[m5];lia) (by rw[m5];lia)
   refine⟨p5,p6,q',⋯, ?_⟩
   rw[e]
   erw[A3,t8,if_false]
def zaZ rows W k l n Dd(hd: ∀R s,z0c (.tup (R.map D.int)) Dd s= .ok (.bool (!J1 rows R)) s)(hf: ∀d,rp (pl n d) Dd=Dd)(hf1: ∀d,rp (pl (n+1) d) Dd=Dd)(hw: ∀r∈rows,Wf r)(hk:W.length<=100)(hl:l<n): ∃n',n+2<=n'/\z1D [.lst l (rows.map rD),Dd, .tup (W.map .int), .int k] n= .ok (.tup [.lst n ((Y2 rows 1000 (W++[k])).1.map .int), .lst (n+1) ((Y2 rows 1000 (W++[k])).2.1.map .int), .tup ((Y2 rows 1000 (W++[k])).2.2.map .int)]) [.lst l (rows.map rD),Dd, .tup (W.map .int), .int k] n':=by
 unfold z1D z3Z
 left
 rw[z6w (by rw[zl];erw[l0,A4,C8];lia)]
 left
 rw[z6F,show W.map D.int++[D.int k]=(W++[k]).map D.int by rw[t5];rfl]
 have hl2:(W++[k]).length=W.length+1:=by simp
 obtain⟨p5,p6,q',hq',e⟩:=z6I rows hw l n Dd hd hf hf1 W k hl 1000 (W++[k]) [] [] none none (n+1+1) ⋯ ⋯ ⋯ (by erw[C8];lia) (by erw[C8];lia)
 erw[t7,B0] at e
 refine⟨q',⋯, ?_⟩
 rw[e]
 left
def kd(p:List Int):D:= .tup (p.map .int)
def dD(j:Nat)(PK:List (List Int)):D:= .dct j (PK.map kd) (PK.map λ_=> .bool true)
def z4J(PK:List (List Int))(p:List Int):List (List Int):=if p∈PK then PK else PK++[p]
def zfw(h:nkI a=nkI b):a=b:=by
 induction a generalizing b with
 |nil=>cases b with|nil=>rfl|cons _ _=>simp[nkI] at h
 |cons x a ih=>cases b with
  |nil=>simp[nkI] at h
  |cons y b=>
   erw[nkI,i7,List.cons.injEq,Sum.inl.injEq] at h
   rw[h.1,ih h.2]
def k8:(z1O (kd p)=some (nkI R))↔p=R:=by
 unfold kd
 rw[z1m,Option.some.injEq]
 exact⟨zfw,λh=>by rw[h]⟩
def zfx p:dkD (nkI p)=kd p:=by
 unfold dkD kd nkI
 rw[B7];rfl
theorem zb0(R:List Int): ∀PK:List (List Int),(findK (PK.map kd) (PK.map λ_=>D.bool true) (nkI R)).isSome=decide (R∈PK)
 |[]=>rfl
 |p::PK=>by
  erw[i7,findK]
  by_cases h:p=R
  .rw[qy (k8.mpr h)];simp[h]
  .rw[qh λz=>h (k8.mp z),zb0 R PK]
   erw[m3,decide_eq_decide]
   exact⟨.inr,λz=>z.resolve_left λe=>h e.symm⟩
def z6J(PK:List (List Int))(R:List Int):((PK.map kd).any λd=>decide (z1O d=some (nkI R)))=decide (R∈PK):=by
 rw[S7]
 induction PK with
 |nil=>rfl
 |cons p PK ih=>
  erw[O3,Function.comp,k8]
  try erw[Function.comp,k8] at ih
  rw[ih]
  by_cases h:p=R
  .simp[h]
  .erw[h,decide_false,N1,m3,decide_eq_decide]
   exact⟨.inr,λz=>z.resolve_left λe=>h e.symm⟩
def zit{j:Nat}{PK:List (List Int)}{R:List Int}{s:Stt}(hz:PK.length<=1000):z00 (dD j PK) (.tup (R.map .int)) (.bool true) s= .nx (s.put j (dD j (z4J PK R))):=by
 have hT:isT (PK.map kd)=true:=by cases PK<;>rfl
 have hl:qq (PK.map λ_=>D.bool true)=[]:=Q6 λd hd=>by obtain⟨_,_,rfl⟩:=l5.mp hd;rfl
 unfold z00 dD
 erw[z1m]
 rw[qy ⟨hT,by rw[l0,zl];lia,rfl,hl⟩]
 have e1:z3D (PK.map kd) (nkI R)=(z4J PK R).map kd:=by
  unfold z3D z4J
  rw[z6J]
  by_cases h:R∈PK
  .erw[h,decide_true,if_true]
  .erw[h,decide_false,t8,if_false,t5,zfx];rfl
 have e2:z1P (PK.map kd) (PK.map λ_=>D.bool true) (nkI R) (.bool true)=(z4J PK R).map λ_=>D.bool true:=by
  unfold z1P z4J
  rw[z6J]
  by_cases h:R∈PK
  .erw[h,decide_true,if_true]
   clear h hz hT hl e1
   induction PK with
   |nil=>rfl
   |cons p PK ih=>erw[i7,E6,ite_self,ih]
  .erw[h,decide_false,t8,if_false,t5];rfl
 rw[e1,e2]
def z5s:R∈z4J PK p↔R∈PK\/R=p:=by
 unfold z4J
 split
 .rename_i h;exact⟨.inl,λz=>z.elim id λe=>e▸h⟩
 .simp
def z5t{PK:List (List Int)}:(z4J PK p).length<=PK.length+1:=by
 unfold z4J;split<;>simp
def ziu{k j:Nat}(h:j≠k):rp (pl k d) (dD j PK)=dD j PK:=zdO h (Q6 λd hd=>by obtain⟨_,_,rfl⟩:=l5.mp hd;rfl)
def zdP{j:Nat}:rp (pl j d) (dD j PK)=d:=by unfold dD;erw[rp,pl,if_true]
def zfy{k:Nat}:rp (pl k d) (rD r)=rD r:=U2 (by rw[z7E];exact m8)
def zcS{n:Nat}(hσ: ∀d,rpO (pl n d) σ=σ)(ht: ∀d,rpO (pl n d) tm=tm):K6 (mCB [] j3) (mC (.bool true)) ⟨σ,tm,n⟩= .ok (dD n [[]]) ⟨σ,tm,n+1⟩:=by
 have e:K6 (mCB [] j3) (mC (.bool true)) ⟨σ,tm,n⟩= .ok (dD n [[]]) ⟨rpO (pl n (dD n [[]])) σ,rpO (pl n (dD n [[]])) tm,n+1⟩:=by
  unfold K6
  rfl
 rw[e,hσ,ht]
def z9i(r:Z6)(l j n:Nat)(rows:List Z6)(hl:l≠j)(hr:r.1.length<=4)(PK:List (List Int))(hz:PK.length<=900)(o3:Option D)(h3: ∀k d,B6 (rp (pl k d)) o3=o3): ∃PK' p3,(∀k d,B6 (rp (pl k d)) p3=p3)/\PK'.length<=PK.length+4/\(∀R,R∈PK'↔R∈PK\/(R≠[]/\R.length<r.1.length/\r.1.take R.length=R))/\
 V8 (z8X [(mC (.int 1)),(mCB [(y4 (y0 2) (mC (.int 0)) ixD)] X8)]) (.nm 3) (z20 (mC (.bool true)) (y0 1) (mSl (y4 (y0 2) (mC (.int 0)) ixD) none (some (y0 3))) z00) ⟨[some (.lst l (rows.map rD)),some (dD j PK),some (rD r),o3],[some (.lst l (rows.map rD)),some (.lst l (rows.map rD))],n⟩
  = .nx ⟨[some (.lst l (rows.map rD)),some (dD j PK'),some (rD r),p3],[some (.lst l (rows.map rD)),some (.lst l (rows.map rD))],n⟩:=by
 have er:zhz [.int 1, .int (r.1.length:Int)] ⟨[some (.lst l (rows.map rD)),some (dD j PK),some (rD r),o3],[some (.lst l (rows.map rD)),some (.lst l (rows.map rD))],n⟩= .ok (z84 1 (r.1.length - 1)) ⟨[some (.lst l (rows.map rD)),some (dD j PK),some (rD r),o3],[some (.lst l (rows.map rD)),some (.lst l (rows.map rD))],n⟩:=by
  erw[zhz]
  rw[qy ⋯,show((r.1.length:Int) - 1).toNat=r.1.length - 1 by lia]
  rfl
 have em:z8X [(mC (.int 1)),(mCB [(y4 (y0 2) (mC (.int 0)) ixD)] X8)] ⟨[some (.lst l (rows.map rD)),some (dD j PK),some (rD r),o3],[some (.lst l (rows.map rD)),some (.lst l (rows.map rD))],n⟩= .ok (z84 1 (r.1.length - 1)) ⟨[some (.lst l (rows.map rD)),some (dD j PK),some (rD r),o3],[some (.lst l (rows.map rD)),some (.lst l (rows.map rD))],n⟩:=by
  show bd (W8 _) zhz _=_
  left
  rw[z5J,er]
 left
 rw[em]
 left
 obtain⟨s',e,PK',p3,rfl,g3,hlen,hmem⟩:=z0L (P:=λi s=> ∃PK' p3,s=⟨[some (.lst l (rows.map rD)),some (dD j PK'),some (rD r),p3],[some (.lst l (rows.map rD)),some (.lst l (rows.map rD))],n⟩/\(∀k d,B6 (rp (pl k d)) p3=p3)/\PK'.length<=PK.length+i/\∀R,R∈PK'↔R∈PK\/∃t:Nat,1<=t/\t<=i/\R=r.1.take t) (lo:=1) (N:=r.1.length - 1) (g:= .nm 3) (b:=z20 (mC (.bool true)) (y0 1) (mSl (y4 (y0 2) (mC (.int 0)) ixD) none (some (y0 3))) z00) (by
  rintro i hi s ⟨PK',p3,rfl,g3,hlen,hmem⟩
  refine⟨_,rfl, ?_⟩
  refine⟨_, ?_,z4J PK' (r.1.take (i+1)),some (.int (1+(i:Int))),rfl,λ_ _=>rfl,C7 z5t ⋯,λR=> ?_⟩
  .left
   rw[show(1+(i:Int))=((i+1:Nat):Int) by lia,z48,z7C,zit ⋯]
   erw[z1F,Z0,Z8,i9,Z7 hl,zdP,zfy,J8]
  .rw[z5s,hmem]
   constructor
   .rintro ((h|⟨t,h1,h2,h3⟩)|h)
    .exact .inl h
    .exact .inr ⟨t,h1,⋯,h3⟩
    .exact .inr ⟨i+1,⋯,⋯,h⟩
   .rintro (h|⟨t,h1,h2,h3⟩)
    .exact .inl (.inl h)
    .by_cases ht:t=i+1
     .exact .inr (ht▸h3)
     .exact .inl (.inr ⟨t,h1,⋯,h3⟩)) (r.1.length - 1) 0 ⟨[some (.lst l (rows.map rD)),some (dD j PK),some (rD r),o3],[some (.lst l (rows.map rD)),some (.lst l (rows.map rD))],n⟩ ⋯ ⟨PK,o3,rfl,h3,⋯,λR=>⟨.inl,λh=>h.elim id λ⟨t,h1,h2,_⟩=>by lia⟩⟩
 refine⟨PK',p3,g3,⋯,λR=> ?_, ?_⟩
 .rw[hmem]
  constructor
  .rintro (h|⟨t,h1,h2,h3⟩)
   .exact .inl h
   .have hlt:(r.1.take t).length=t:=by rw[A5];lia
    refine .inr ⟨λe=> ?_,by rw[h3,hlt];lia,by rw[h3,hlt]⟩
    rw[e] at h3
    have:=congrArg E7 h3
    rw[hlt] at this
    simp at this;lia
  .rintro (h|⟨h1,h2,h3⟩)
   .exact .inl h
   .refine .inr ⟨R.length, ?_,⋯,h3.symm⟩
    cases R with
    |nil=>exact absurd rfl h1
    |cons _ _=>simp
 .exact e
def zb1 rows l n(hw: ∀r∈rows,Wf r)(hr:rows.length<=60)(hl:l<n): ∃PK:List (List Int),(∀R,R∈PK↔J1 rows R=true)/\PK.length<=1+4*rows.length/\z0T [.lst l (rows.map rD)] n= .ok (dD n PK) [.lst l (rows.map rD)] (n+1):=by
 unfold z0T z2P
 left
 rw[zcS (λd=>by erw[Z0,Z8,i9,C9,Z7 (show l≠n by lia)]) (λd=>by erw[Z0,Z8,i9,Z7 (show l≠n by lia)])]
 left
 obtain⟨s',e,PK,o2,o3,rfl,g3,hlen,hmem⟩:=U9 (P:=λi s=> ∃PK o2 o3,s=⟨[some (.lst l (rows.map rD)),some (dD n PK),o2,o3],some (.lst l (rows.map rD))::[some (.lst l (rows.map rD))],n+1⟩/\(∀k d,B6 (rp (pl k d)) o3=o3)/\PK.length<=1+4*i/\∀R,R∈PK↔R=[]\/∃r∈rows.take i,R≠[]/\R.length<r.1.length/\r.1.take R.length=R) (l:=l) (ds:=rows.map rD) (g:= .nm 2) (tm:=[some (.lst l (rows.map rD))])
  (b:=V8 (z8X [(mC (.int 1)),(mCB [(y4 (y0 2) (mC (.int 0)) ixD)] X8)]) (.nm 3) (z20 (mC (.bool true)) (y0 1) (mSl (y4 (y0 2) (mC (.int 0)) ixD) none (some (y0 3))) z00))
  (by rintro i s ⟨PK,o2,o3,rfl,_⟩;rfl) (by
   rintro i d hd s ⟨PK,o2,o3,rfl,g3,hlen,hmem⟩
   refine⟨_,rfl, ?_⟩
   rw[List.getElem?_map] at hd
   cases hr':rows[i]? with
   |none=>rw[hr'] at hd;cases hd
   |some r=>
    rw[hr'] at hd
    cases hd
    have hi:i<rows.length:=(List.getElem?_eq_some_iff.mp hr').1
    obtain⟨PK',p3,g3',hlen',hmem',e⟩:=z9i r l n (n+1) rows ⋯ (hw r (List.mem_of_getElem? hr')).2.1 PK ⋯ o3 g3
    refine⟨_,e,PK',some (rD r),p3,rfl,g3',⋯,λR=> ?_⟩
    rw[hmem',hmem,A6,hr',A8]
    constructor
    .rintro ((h|⟨q,hq,h⟩)|h)
     .exact .inl h
     .exact .inr ⟨q,i8 _ hq,h⟩
     .exact .inr ⟨r,i4 _ (m4.mpr rfl),h⟩
    .rintro (h|⟨q,hq,h⟩)
     .exact .inl (.inl h)
     .rcases l4.mp hq with hq|hq
      .exact .inl (.inr ⟨q,hq,h⟩)
      .rw[m4.mp hq] at h;exact .inr h) rows.length 0 ⟨[some (.lst l (rows.map rD)),some (dD n [[]]),none,none],some (.lst l (rows.map rD))::[some (.lst l (rows.map rD))],n+1⟩ (by simp) ⟨[[]],none,none,rfl,λ_ _=>rfl,by simp,λR=>by simp⟩
 rw[z0r (l:=l) (ds:=rows.map rD) (σ:=[some (.lst l (rows.map rD)),some (dD n [[]]),none,none]) (tm:=[some (.lst l (rows.map rD))]) (n:=n+1) (by left)]
 left
 rw[show kLst.len (some (.lst l (rows.map rD))::[some (.lst l (rows.map rD))])=rows.length by show(rows.map rD).length=_;simp,e]
 erw[px1]
 left
 rw[l0,E9] at hmem
 rw[l0] at hlen
 refine⟨PK,λR=> ?_,hlen,rfl⟩
 unfold J1
 by_cases hR:R=[]
 .erw[hR,decide_true,S6,iff_true]
  exact(hmem []).mpr (.inl rfl)
 .erw[hR,decide_false,N1]
  rw[hmem,S3]
  constructor
  .rintro (h|⟨r,h1,_,h2,h3⟩)
   .exact absurd h hR
   .exact⟨r,h1,by erw[wt,h2,h3,decide_true,T8]⟩
  .rintro ⟨r,h1,h2⟩
   erw[wt,A7,decide_eq_true_eq] at h2
   exact .inr ⟨r,h1,hR,h2⟩
def vD(r:Z6):D:= .tup [tI r.2.1,tI r.2.2]
def TD(j:Nat)(E:List Z6):D:= .dct j (E.map λr=>kd r.1) (E.map vD)
def z7G(E:List Z6)(r:Z6):List Z6:=if r.1∈E.map (·.1) then E.map (λe=>if e.1=r.1 then(e.1,r.2) else e) else E++[r]
def zb2(r:Z6):labs (vD r)=[]:=by unfold vD;erw[labs,qq,Z9];rfl
def zfz(E:List Z6):qq (E.map vD)=[]:=Q6 λd hd=>by obtain⟨r,_,rfl⟩:=l5.mp hd;exact zb2 r
def zdQ{j:Nat}{E:List Z6}{r:Z6}{s:Stt}(hz:E.length<=1000):z00 (TD j E) (.tup (r.1.map .int)) (vD r) s= .nx (s.put j (TD j (z7G E r))):=by
 have hT:isT (E.map λr=>kd r.1)=true:=by cases E<;>rfl
 have ha:((E.map λr=>kd r.1).any λd=>decide (z1O d=some (nkI r.1)))=decide (r.1∈E.map (·.1)):=by
  rw[<-z6J,B7];rfl
 unfold z00 TD
 erw[z1m]
 rw[qy ⟨hT,by rw[l0,zl];lia,zb2 r,zfz E⟩]
 have e1:z3D (E.map λr=>kd r.1) (nkI r.1)=(z7G E r).map λr=>kd r.1:=by
  unfold z3D z7G
  rw[ha]
  by_cases h:r.1∈E.map (·.1)
  .erw[h,decide_true,if_true,B7]
   refine D2 λe _=> ?_
   erw[Function.comp];split<;>rfl
  .erw[h,decide_false,t8,if_false,t5,zfx];rfl
 have e2:z1P (E.map λr=>kd r.1) (E.map vD) (nkI r.1) (vD r)=(z7G E r).map vD:=by
  unfold z1P z7G
  rw[ha]
  by_cases h:r.1∈E.map (·.1)
  .erw[h,decide_true,if_true]
   clear h hz hT ha e1
   induction E with
   |nil=>rfl
   |cons e E ih=>
    erw[i7,E6,ih]
    congr 1
    by_cases h:e.1=r.1
    .rw[qy (k8.mpr h),qy h];rfl
    .rw[qh λz=>h (k8.mp z),qh h]
  .erw[h,decide_false,t8,if_false,t5];rfl
 rw[e1,e2]
def zb3(h: ∀e∈E,Wf e)(hr:Wf r): ∀e∈z7G E r,Wf e:=λe he=>by
 unfold z7G at he
 split at he
 .obtain⟨q,hq,rfl⟩:=l5.mp he
  split
  .rename_i hk;exact hk▸hr
  .exact h q hq
 .rcases l4.mp he with he|he
  .exact h e he
  .rw[m4.mp he];exact hr
def z8n{E:List Z6}:(z7G E r).length<=E.length+1:=by unfold z7G;split<;>simp
def zb4{E:List Z6}(h:(E.map (·.1)).Nodup):((z7G E r).map (·.1)).Nodup:=by
 unfold z7G
 split
 .rw[B7]
  have:((λx:Z6=>x.1)∘λe=>if e.1=r.1 then(e.1,r.2) else e)=λx:Z6=>x.1:=by funext e;erw[Function.comp];split<;>rfl
  rw[this];exact h
 .rename_i hn
  rw[t5,L6]
  refine⟨h,by simp,λa ha b hb e=> ?_⟩
  erw[i7,t7,m4] at hb
  exact hn (hb▸e▸ha)
def zfA{E:List Z6}{r:Z6}(h:(E.map (·.1)).Nodup)(hr:r∈E):findK (E.map λr=>kd r.1) (E.map vD) (nkI r.1)=some (vD r):=by
 induction E with
 |nil=>cases hr
 |cons e E ih=>
  erw[i7,C0] at h
  erw[i7,findK]
  by_cases hk:e.1=r.1
  .rw[qy (k8.mpr hk)]
   rcases m3.mp hr with rfl|hm
   .rfl
   .exact absurd (l5.mpr ⟨r,hm,hk.symm⟩) h.1
  .rw[qh λz=>hk (k8.mp z)]
   rcases m3.mp hr with rfl|hm
   .exact absurd rfl hk
   .exact ih h.2 hm
def zcT{k j:Nat}(h:j≠k):rp (pl k d) (TD j E)=TD j E:=zdO h (zfz E)
def zb5{j:Nat}:rp (pl j d) (TD j E)=d:=by unfold TD;erw[rp,pl,if_true]
def FD(E:List Z6):D:= .fdc (E.map λr=>kd r.1) (E.map vD)
def ziv{E:List Z6}{r:Z6}(h:(E.map (·.1)).Nodup)(hr:r∈E):z08 (FD E) (.tup (r.1.map .int)) s= .ok (vD r) s:=by
 unfold z08 FD
 have hT:isT (E.map λr=>kd r.1)=true:=by cases E<;>rfl
 erw[rdD,qy hT,z1m,zfA h hr]
 rfl
def gE(E:List Z6)(d:D):D:=match E.find? (λr=>decide (r.1=unI d)) with
 |some r=>rD r
 |none=>d
def ziw{E:List Z6}{r:Z6}(h:(E.map (·.1)).Nodup)(hr:r∈E):gE E (kd r.1)=rD r:=by
 unfold gE kd
 rw[zdL]
 have:E.find? (λe=>decide (e.1=r.1))=some r:=by
  induction E with
  |nil=>cases hr
  |cons e E ih=>
   erw[i7,C0] at h
   rw[List.find?_cons]
   by_cases hk:e.1=r.1
   .erw[hk,decide_true]
    rcases m3.mp hr with rfl|hm
    .rfl
    .exact absurd (l5.mpr ⟨r,hm,hk.symm⟩) h.1
   .erw[hk,decide_false]
    rcases m3.mp hr with rfl|hm
    .exact absurd rfl hk
    .exact ih h.2 hm
 rw[this]
def zcU{E:List Z6}{j:Nat}{n:Nat}(hn:(E.map (·.1)).Nodup)(hz:E.length<=1000) i0(hσ:σ[i0]? =some (some (FD E)))(hm:z01 m0 s= .ok kDct ⟨σ,some (FD E)::tm,n⟩):
 ∃n',n<=n'/\V4 (z01 m0) (.nm 0) (rt true) (y4 (mCB [(y0 0)] j3) (y4 (y0 1) (y0 0) z08) K1) 1 [i0] s= .ok (.lst n' (E.map rD)) ⟨σ,tm,n'+1⟩:=by
 obtain⟨n',h1,h2⟩:=z6A (mi:=z01 m0) (K:=kDct) (mt:=rt true) (me:=y4 (mCB [(y0 0)] j3) (y4 (y0 1) (y0 0) z08) K1) (p:=λ_=>true) (g:=gE E) (qv:=E.map λr=>kd r.1) (its:=[some (FD E)]) (ix:=[i0]) (s:=s) (σ:=σ) (tm:=tm) (n:=n) hm rfl (by rw[l0,zl];lia) (λi rest=>rfl) (by show(E.map λr=>kd r.1).length=_;rfl) (λd hd tm n=>⟨n,i6 _,rfl⟩) (by
  intro d hd _ tm n
  obtain⟨r,hr,rfl⟩:=l5.mp hd
  refine⟨n,i6 _, ?_⟩
  rw[ziw hn hr]
  erw[i7,t7,hσ,B4]
  left
  unfold kd
  rw[ziv hn hr]
  left
  unfold vD
  rw[z6w (by rw[zl];simp)]
  rfl)
 refine⟨n',h1, ?_⟩
 rw[h2,P5.mpr (λ_ _=>rfl),B7]
 have e:u0l (gE E∘λr=>kd r.1) E=E.map rD:=D2 λr hr=>ziw hn hr
 rw[e]
abbrev sg(l:Nat)(c x:Int)(o1:Option D)(lt fi tp:Int)(dc:D)(o6 o7 o8 o9 oa:Option D):Qq:=[some (.lst l [.int c, .int x]),o1,some (.int lt),some (.int fi),some (.int tp),some dc,o6,o7,o8,o9,oa]
theorem zb6: ∀{ys:List D},(∀y∈ys,∃i:Int,y= .int i)->∃ns:List Int,ys=ns.map .int
 |[],_=>⟨[],rfl⟩
 |y::ys,h=>by
  obtain⟨i,rfl⟩:=h y (l6 ..)
  obtain⟨ns,rfl⟩:=zb6 λz hz=>h z (i5 _ hz)
  exact⟨i::ns,rfl⟩
theorem z8o: ∀{ys:List D},(∀y∈ys,∃i:Int,(0<=i/\i<26)/\y= .int i)->∃ns:List Int,(∀i∈ns,0<=i/\i<26)/\ys=ns.map .int
 |[],_=>⟨[],(λ_ h=>nomatch h),rfl⟩
 |y::ys,h=>by
  obtain⟨i,hi,rfl⟩:=h y (l6 ..)
  obtain⟨ns,hn,rfl⟩:=z8o λz hz=>h z (i5 _ hz)
  exact⟨i::ns,F9.mpr ⟨hi,hn⟩,rfl⟩
def zlx l n c x lt fi tp N o1 o6 o7 o8 o9 oa dc ms s(hms:W8 ms s= .ok [.int N] ⟨sg l c x o1 lt fi tp dc o6 o7 o8 o9 oa,[some (.lst l [.int c, .int x])],n⟩)(h0:0<=N)(h1:N<=100)(hb:Bg c x)(hn:l<n)(hlt:0<lt)(hlt':lt<1000)
 (r1: ∀d,B6 (rp (pl l d)) o1=o1) (rd: ∀d,rp (pl l d) dc=dc) (r6: ∀d,B6 (rp (pl l d)) o6=o6) (r7: ∀d,B6 (rp (pl l d)) o7=o7) (r8: ∀d,B6 (rp (pl l d)) o8=o8) (r9: ∀d,B6 (rp (pl l d)) o9=o9) (ra: ∀d,B6 (rp (pl l d)) oa=oa):
 ∃(ns:List Int) (c' x':Int) (n':Nat),(ns.length:Int)=N/\(∀i∈ns,0<=i/\i<26)/\Bg c' x'/\n<=n'/\V4 (X4 ms) (.nm 0) (rt true) (y4 (y4 (y0 1) (Z2 y9 [(y0 2),(y0 3)]) K1) (mC (.int 26)) z3j) 1 [3,0,2] s= .ok (.lst n' (ns.map .int)) ⟨sg l c' x' o1 lt fi tp dc o6 o7 o8 o9 oa,[some (.lst l [.int c', .int x'])],n'+1⟩:=by
 obtain⟨ys,b',n',g1,g2,g3,⟨c3,x3,rfl,h3⟩,g5,g6⟩:=z6z (ms:=ms) (me:=y4 (y4 (y0 1) (Z2 y9 [(y0 2),(y0 3)]) K1) (mC (.int 26)) z3j) (N:=N.toNat) (ix:=[3,0,2]) (s:=s) (l:=l) (n:=n) (j:=N) (σ0:=sg l c x o1 lt fi tp dc o6 o7 o8 o9 oa) (tm0:=[some (.lst l [.int c, .int x])]) (b:=[.int c, .int x]) (Bg:=λb=> ∃c x,b=[.int c, .int x]/\Bg c x) (Q:=λ_ d=> ∃i:Int,(0<=i/\i<26)/\d= .int i) (λ_ _ _ _ h=>h)
  hms rfl ⟨⋯,⋯⟩ (by rw[zl];lia) ⟨c,x,rfl,hb⟩ hn (by erw[sg,Z0,Z8,i9,z0v,J8,r1,rd,r6,r7,r8,r9,ra]) (by erw[Z0,Z8,i9,z0v]) (by erw[sg,i7,t7,List.getElem?_cons_zero,List.getElem?_cons_succ,B4,Z0,Z8,i9,z0v,J8]) (by
   rintro i hi b tm m ⟨c,x,rfl,hb⟩ hm hf
   obtain⟨r,c',x',hs0,hs1,h',e'⟩:=J7 l c x lt m hb hlt ⋯
   refine⟨.int ((fi+r) %26),[.int c', .int x'],m,⟨c',x',rfl,h'⟩,⟨_,⟨⋯,⋯⟩,rfl⟩,i6 _,by simp[labs], ?_⟩
   erw[sg,i7,t7,List.getElem?_cons_zero,List.getElem?_cons_succ,B4]
   left
   rw[e',z0W rfl rfl rfl (by left) (by left;erw[hf])]
   left
   rw[z45 (by decide)]
   try rfl)
 obtain⟨ns,hns,rfl⟩:=z8o g2
 refine⟨ns,c3,x3,n',by simp at g1;lia,hns,h3,⋯, ?_⟩
 rw[g6]
 erw[sg,Z0,Z8,i9,z0v,J8,r1,rd,r6,r7,r8,r9,ra]
def zmm l n c x lt fi tp N o1 o6 o7 o8 o9 oa dc ms s(hms:W8 ms s= .ok [.int N] ⟨sg l c x o1 lt fi tp dc o6 o7 o8 o9 oa,[some (.lst l [.int c, .int x])],n⟩)(h0:0<=N)(h1:N<=100)(hb:Bg c x)(hn:l<n)(hlt:0<tp)(hlt':tp<1000)
 (r1: ∀d,B6 (rp (pl l d)) o1=o1) (rd: ∀d,rp (pl l d) dc=dc) (r6: ∀d,B6 (rp (pl l d)) o6=o6) (r7: ∀d,B6 (rp (pl l d)) o7=o7) (r8: ∀d,B6 (rp (pl l d)) o8=o8) (r9: ∀d,B6 (rp (pl l d)) o9=o9) (ra: ∀d,B6 (rp (pl l d)) oa=oa):
 ∃(ns:List Int) (c' x':Int) (n':Nat),(ns.length:Int)=N/\Bg c' x'/\n<=n'/\V4 (X4 ms) (.nm 0) (rt true) (Z2 y9 [(y0 1),(y0 2)]) 1 [0,4] s= .ok (.lst n' (ns.map .int)) ⟨sg l c' x' o1 lt fi tp dc o6 o7 o8 o9 oa,[some (.lst l [.int c', .int x'])],n'+1⟩:=by
 obtain⟨ys,b',n',g1,g2,g3,⟨c3,x3,rfl,h3⟩,g5,g6⟩:=z6z (ms:=ms) (me:=Z2 y9 [(y0 1),(y0 2)]) (N:=N.toNat) (ix:=[0,4]) (s:=s) (l:=l) (n:=n) (j:=N) (σ0:=sg l c x o1 lt fi tp dc o6 o7 o8 o9 oa) (tm0:=[some (.lst l [.int c, .int x])]) (b:=[.int c, .int x]) (Bg:=λb=> ∃c x,b=[.int c, .int x]/\Bg c x) (Q:=λ_ d=> ∃i:Int,d= .int i) (λ_ _ _ _ h=>h)
  hms rfl ⟨⋯,⋯⟩ (by rw[zl];lia) ⟨c,x,rfl,hb⟩ hn (by erw[sg,Z0,Z8,i9,z0v,J8,r1,rd,r6,r7,r8,r9,ra]) (by erw[Z0,Z8,i9,z0v]) (by erw[sg,i7,t7,List.getElem?_cons_zero,List.getElem?_cons_succ,B4,Z0,Z8,i9,z0v,J8]) (by
   rintro i hi b tm m ⟨c,x,rfl,hb⟩ hm hf
   obtain⟨r,c',x',hs0,hs1,h',e'⟩:=J7 l c x tp m hb hlt ⋯
   refine⟨.int r,[.int c', .int x'],m,⟨c',x',rfl,h'⟩,⟨_,rfl⟩,i6 _,by simp[labs], ?_⟩
   erw[sg,i7,t7,List.getElem?_cons_zero,List.getElem?_cons_succ,B4]
   left
   rw[e',z0W rfl rfl rfl (by left) hf]
   left)
 obtain⟨ns,rfl⟩:=zb6 g2
 refine⟨ns,c3,x3,n',by simp at g1;lia,h3,⋯, ?_⟩
 rw[g6]
 erw[sg,Z0,Z8,i9,z0v,J8,r1,rd,r6,r7,r8,r9,ra]
def tb:MS:=(Z1 (Y1 (.nm 8) (mCB [(V4 (X4 [(y4 (mC (.int 1)) (Z2 y9 [(y0 0),(mC (.int 4))]) K1)]) (.nm 0) (rt true) (y4 (y4 (y0 1) (Z2 y9 [(y0 2),(y0 3)]) K1) (mC (.int 26)) z3j) 1 [3,0,2])] z68))
 (Z1 (Y1 (.nm 9) (mCB [(V4 (X4 [(Z2 y9 [(y0 0),(mC (.int 4))])]) (.nm 0) (rt true) (Z2 y9 [(y0 1),(y0 2)]) 1 [0,4])] z68))
 (Z1 (Y1 (.nm 10) (mCB [(V4 (X4 [(Z2 y9 [(y0 0),(mCB [(y0 8)] X8)])]) (.nm 0) (rt true) (y4 (y4 (y0 1) (Z2 y9 [(y0 2),(y0 3)]) K1) (mC (.int 26)) z3j) 1 [3,0,2])] z68))
 (z20 (mCB [(y0 9),(y0 10)] j3) (y0 5) (y0 8) z00))))
abbrev Fre(o:Option D):Prop:= ∀k d,B6 (rp (pl k d)) o=o
def z2r(ns:List Int):Fre (some (.tup (ns.map .int))):=λ_ _=>by rw[i9,z2q]
def z0M i:Fre (some (.int i)):=λ_ _=>rfl
def J3:Fre none:=λ_ _=>rfl
def zkV(l j n:Nat)(c x lt fi tp:Int)(o1 o6 o7 o8 o9 oa:Option D)(E:List Z6)(hE:E.length<=900)(hb:Bg c x)(hn:l<n)(hj:j<n)(hlj:l≠j)(h0:0<lt)(h1:lt<1000)(h2:0<tp)(h3:tp<1000)(f1:Fre o1)(f6:Fre o6)(f7:Fre o7)(f8:Fre o8)(f9:Fre o9)(fa:Fre oa):
 ∃(r:Z6) (c' x':Int) (n':Nat) (p8 p9 pa:Option D),Wf r/\Bg c' x'/\n<=n'/\Fre p8/\Fre p9/\Fre pa/\tb ⟨sg l c x o1 lt fi tp (TD j E) o6 o7 o8 o9 oa,[some (.lst l [.int c, .int x])],n⟩= .nx ⟨sg l c' x' o1 lt fi tp (TD j (z7G E r)) o6 o7 p8 p9 pa,[some (.lst l [.int c', .int x'])],n'⟩:=by
 have rd: ∀d,rp (pl l d) (TD j E)=TD j E:=λd=>zcT (λh=>hlj h.symm)
 unfold tb
 left
 obtain⟨q,c1,x1,hq0,hq1,b1,e1⟩:=J7 l c x 4 n hb (by decide) (by decide)
 obtain⟨ks,c2,x2,n2,lk,kb,b2,hn2,e2⟩:=zlx l n c1 x1 lt fi tp (1+q) o1 o6 o7 o8 o9 oa (TD j E) [(y4 (mC (.int 1)) (Z2 y9 [(y0 0),(mC (.int 4))]) K1)] ⟨sg l c x o1 lt fi tp (TD j E) o6 o7 o8 o9 oa,[some (.lst l [.int c, .int x])],n⟩ (by
  unfold sg
  left
  rw[e1,W6 rfl rfl rfl (λq=>by left;try erw[f1 l,f6 l,f7 l,f8 l,f9 l,fa l,rd];rfl) (λq=>by left;rfl)]
  try (left)) ⋯ ⋯ b1 hn h0 h1 (f1 l) rd (f6 l) (f7 l) (f8 l) (f9 l) (fa l)
 rw[e2]
 unfold sg
 left
 obtain⟨q3,c3,x3,hq30,hq31,b3,e3⟩:=J7 l c2 x2 4 (n2+1) b2 (by decide) (by decide)
 obtain⟨ss,c4,x4,n4,ls,b4,hn4,e4⟩:=zmm l (n2+1) c3 x3 lt fi tp q3 o1 o6 o7 (some (.tup (ks.map .int))) o9 oa (TD j E) [(Z2 y9 [(y0 0),(mC (.int 4))])] ⟨sg l c2 x2 o1 lt fi tp (TD j E) o6 o7 (some (.tup (ks.map .int))) o9 oa,[some (.lst l [.int c2, .int x2])],n2+1⟩ (by
  unfold sg
  left
  rw[e3,W6 rfl rfl rfl (λq=>by left;try erw[f1 l,f6 l,f7 l,f9 l,fa l,rd,Y8];rfl) (λq=>by left;rfl)]
  try (left)) ⋯ ⋯ b3 ⋯ h2 h3 (f1 l) rd (f6 l) (f7 l) (z2r ks l) (f9 l) (fa l)
 unfold sg at e4
 rw[e4]
 left
 obtain⟨q5,c5,x5,hq50,hq51,b5,e5⟩:=J7 l c4 x4 ks.length (n4+1) b4 ⋯ ⋯
 obtain⟨fs,c6,x6,n6,lf,_,b6,hn6,e6⟩:=zlx l (n4+1) c5 x5 lt fi tp q5 o1 o6 o7 (some (.tup (ks.map .int))) (some (.tup (ss.map .int))) oa (TD j E) [(Z2 y9 [(y0 0),(mCB [(y0 8)] X8)])] ⟨sg l c4 x4 o1 lt fi tp (TD j E) o6 o7 (some (.tup (ks.map .int))) (some (.tup (ss.map .int))) oa,[some (.lst l [.int c4, .int x4])],n4+1⟩ (by
  unfold sg
  left
  rw[z5J,e5,z0W rfl rfl rfl (by left;erw[f1 l,f6 l,f7 l,fa l,rd,Y8]) (by left)]
  left
  erw[f1 l,f6 l,f7 l,fa l,rd,Y8]) ⋯ ⋯ b5 ⋯ h0 h1 (f1 l) rd (f6 l) (f7 l) (z2r ks l) (z2r ss l) (fa l)
 unfold sg at e6
 rw[e6]
 left
 have hp:=zdQ (j:=j) (E:=E) (r:=(ks,ss,fs)) (s:=⟨[some (.lst l [.int c6, .int x6]),o1,some (.int lt),some (.int fi),some (.int tp),some (TD j E),o6,o7,some (.tup (ks.map .int)),some (.tup (ss.map .int)),some (.tup (fs.map .int))],[some (.lst l [.int c6, .int x6])],n6+1⟩) ⋯
 unfold vD tI at hp
 rw[hp]
 refine⟨(ks,ss,fs),c6,x6,n6+1,some (.tup (ks.map .int)),some (.tup (ss.map .int)),some (.tup (fs.map .int)),⟨by show 1<=ks.length;lia,by show ks.length<=4;lia,by show ss.length<=3;lia,by show fs.length<ks.length;lia,kb⟩,b6,⋯,z2r ks,z2r ss,z2r fs, ?_⟩
 erw[z1F,Z0,Z8,i9,z2q,J8,zb5,f1 j,f6 j,f7 j,z0y hlj,U8,V3]
def zgj{a b w:Int}(h0:0<=w)(h1:w<2): ∃v,(v=a\/v=b)/\atI [D.int a,D.int b] w=some (.int v):=by
 have:w=0\/w=1:=by lia
 rcases this with rfl|rfl
 .exact⟨a, .inl rfl,at0⟩
 .exact⟨b, .inr rfl,at1⟩
def tb1:MS:=z20 (mCB [(mCB [(Z2 y9 [(y0 0),(y0 4)])] j3),(mCB [] j3)] j3) (y0 5) (mCB [(y4 (y4 (y0 3) (y0 6) K1) (mC (.int 26)) z3j)] j3) z00
def zix{n:Nat}:z2G ⟨σ,tm,n⟩= .ok (TD n []) ⟨σ,tm,n+1⟩:=(rfl)
def ziy(l j n:Nat)(c x lt fi tp k:Int)(o1 o7 o8 o9 oa:Option D)(E:List Z6)(hE:E.length<=900)(hb:Bg c x)(hlj:l≠j)(h2:0<tp)(h3:tp<1000)(f1:Fre o1)(f7:Fre o7)(f8:Fre o8)(f9:Fre o9)(fa:Fre oa):
 ∃(r:Z6) (c' x':Int),Wf r/\Bg c' x'/\tb1 ⟨sg l c x o1 lt fi tp (TD j E) (some (.int k)) o7 o8 o9 oa,[some (.lst l [.int c, .int x])],n⟩= .nx ⟨sg l c' x' o1 lt fi tp (TD j (z7G E r)) (some (.int k)) o7 o8 o9 oa,[some (.lst l [.int c', .int x'])],n⟩:=by
 have rd: ∀d,rp (pl l d) (TD j E)=TD j E:=λd=>zcT (λh=>hlj h.symm)
 unfold tb1 sg
 left
 obtain⟨q,c1,x1,hq0,hq1,b1,e1⟩:=J7 l c x tp n hb h2 ⋯
 rw[e1,W6 rfl rfl rfl (λq=>by left;try erw[f1 l,f7 l,f8 l,f9 l,fa l,rd];rfl) (λq=>by left;rfl)]
 try (left)
 rw[z45 (by decide)]
 left
 have hp:=zdQ (j:=j) (E:=E) (r:=([(fi+k) %26],[q],[])) (s:=⟨[some (.lst l [.int c1, .int x1]),o1,some (.int lt),some (.int fi),some (.int tp),some (TD j E),some (.int k),o7,o8,o9,oa],[some (.lst l [.int c1, .int x1])],n⟩) ⋯
 unfold vD tI at hp
 erw[i7,t7] at hp
 rw[hp]
 refine⟨([(fi+k) %26],[q],[]),c1,x1,⟨by simp,by simp,by simp,by simp,λz hz=>by rw[m4.mp hz];lia⟩,b1, ?_⟩
 erw[z1F,Z0,Z8,i9,J8,zb5,f1 j,f7 j,f8 j,f9 j,fa j,z0y hlj,U8,V3]
def zcV(l n:Nat)(c x:Int)(hb:Bg c x)(hn:l<n): ∃(rows:List Z6) (c' x':Int) (k n':Nat),(∀r∈rows,Wf r)/\rows.length<=40/\Bg c' x'/\n<=k/\k<n'/\z0S [.lst l [.int c, .int x]] n= .ok (.lst k (rows.map rD)) [.lst l [.int c', .int x']] n':=by
 generalize hr:z0S [.lst l [.int c, .int x]] n=r
 unfold z0S at hr
 have e0:z3X=(Z1 (Y1 (.nm 1) (y4 (Z2 y9 [(y0 0),(mC (.int 8))]) (mC (.int 7)) z4W))
  (Z1 (Y1 (.nm 2) (y4 (mCB [(y4 (mC (.int 1)) (Z2 y9 [(y0 0),(mC (.int 4))]) K1),(mC (.int 26))] lstM) (y0 1) ixD))
  (Z1 (Y1 (.nm 3) (Z2 y9 [(y0 0),(mC (.int 26))]))
  (Z1 (Y1 (.nm 4) (y4 (mCB [(mC (.int 3)),(mC (.int 40))] lstM) (Z2 y9 [(y0 0),(mC (.int 2))]) ixD))
  (Z1 (Y1 (.nm 5) z2G)
  (Z1 (sIf (J4 (y4 (Z2 y9 [(y0 0),(mC (.int 2))]) (mC (.int 0)) eqD)) (V8 (X4 [(y0 2)]) (.nm 6) tb1) sNx)
  (Z1 (V8 (X4 [(y4 (mCB [(Z2 y9 [(y0 0),(mC (.int 8))]),(mC (.int 40))] lstM) (y0 1) ixD)]) (.nm 7) tb)
  (K5 (mSl (V4 (z01 (y0 5)) (.nm 0) (rt true) (y4 (mCB [(y0 0)] j3) (y4 (y0 1) (y0 0) z08) K1) 1 [5]) none (some (mC (.int 40)))))))))))):=rfl
 rw[e0] at hr
 revert hr
 left
 obtain⟨q1,c1,x1,hq1,hq1',b1,e1⟩:=J7 l c x 8 n hb (by decide) (by decide)
 rw[e1,W6 rfl rfl rfl (λq=>by left;rfl) (λq=>by left;rfl)]
 left
 rw[zaP ⟨by decide,by decide⟩]
 left
 obtain⟨q2,c2,x2,hq2,hq2',b2,e2⟩:=J7 l c1 x1 4 n b1 (by decide) (by decide)
 rw[e2,W6 rfl rfl rfl (λq=>by left;rfl) (λq=>by left;rfl)]
 left
 generalize hw:q1/7=w
 have hw0:0<=w:=by lia
 have hw1:w<2:=by lia
 obtain⟨lt,hlt,elt⟩:=zgj (a:=1+q2) (b:=26) hw0 hw1
 rw[elt]
 left
 obtain⟨fi,c3,x3,hq3,hq3',b3,e3⟩:=J7 l c2 x2 26 (n+1) b2 (by decide) (by decide)
 rw[e3,W6 rfl rfl rfl (λq=>by left;rfl) (λq=>by left;rfl)]
 left
 obtain⟨q4,c4,x4,hq4,hq4',b4,e4⟩:=J7 l c3 x3 2 (n+1+1) b3 (by decide) (by decide)
 rw[e4,z0W rfl rfl rfl (by left;try erw[z0y (show n+1≠l by lia),U8,V3,J8]) (by left;try erw[z0y (show n+1≠l by lia),U8,V3,J8])]
 left
 erw[z0y (show n+1≠l by lia),U8,V3,J8]
 left
 obtain⟨tp,htp,etp⟩:=zgj (a:=3) (b:=40) hq4 hq4'
 rw[etp]
 left
 rw[zix]
 left
 have hj:l≠n+1+1:=by lia
 have rd0: ∀d,rp (pl l d) (TD (n+1+1) [])=TD (n+1+1) []:=λd=>zcT (λh=>hj h.symm)
 obtain⟨q5,c5,x5,hq5,hq5',b5,e5⟩:=J7 l c4 x4 2 (n+1+1+1) b4 (by decide) (by decide)
 rw[e5,W6 rfl rfl rfl (λq=>by left;try erw[rd0];rfl) (λq=>by left;rfl)]
 try (left)
 have k1: ∃(E:List Z6) (c6 x6:Int) (o6:Option D),(∀e∈E,Wf e)/\E.length<=26/\(E.map (·.1)).Nodup/\Bg c6 x6/\Fre o6/\zdw (q5==0) (V8 (X4 [(y0 2)]) (.nm 6) tb1) sNx ⟨sg l c5 x5 (some (.int w)) lt fi tp (TD (n+1+1) []) none none none none none,[some (.lst l [.int c5, .int x5])],n+1+1+1⟩= .nx ⟨sg l c6 x6 (some (.int w)) lt fi tp (TD (n+1+1) E) o6 none none none none,[some (.lst l [.int c6, .int x6])],n+1+1+1⟩:=by
  cases(q5==0) with
  |false=>exact⟨[],c5,x5,none,λe h=>absurd h m8,by simp,by simp,b5,J3,by unfold sg;left⟩
  |true=>
   unfold sg
   left
   rw[z1V ⟨⋯,⋯⟩]
   left
   obtain⟨s',e,E,c6,x6,o6,rfl,g1,g2,g3,g4,g5⟩:=z0L (P:=λi s=> ∃(E:List Z6) (c6 x6:Int) (o6:Option D),s=⟨sg l c6 x6 (some (.int w)) lt fi tp (TD (n+1+1) E) o6 none none none none,[some (.lst l [.int c6, .int x6])],n+1+1+1⟩/\(∀e∈E,Wf e)/\E.length<=i/\(E.map (·.1)).Nodup/\Bg c6 x6/\Fre o6) (lo:=0) (N:=lt.toNat) (g:= .nm 6) (b:=tb1) (by
    rintro i hi s ⟨E,c6,x6,o6,rfl,g1,g2,g3,g4,g5⟩
    refine⟨sg l c6 x6 (some (.int w)) lt fi tp (TD (n+1+1) E) (some (.int (0+(i:Int)))) none none none none,rfl, ?_⟩
    obtain⟨r,c7,x7,hr,b7,e7⟩:=ziy l (n+1+1) (n+1+1+1) c6 x6 lt fi tp (0+(i:Int)) (some (.int w)) none none none none E ⋯ g4 hj ⋯ ⋯ (z0M w) J3 J3 J3 J3
    exact⟨_,e7,z7G E r,c7,x7,_,rfl,zb3 g1 hr,C7 z8n ⋯,zb4 g3,b7,z0M _⟩) lt.toNat 0 ⟨sg l c5 x5 (some (.int w)) lt fi tp (TD (n+1+1) []) none none none none none,[some (.lst l [.int c5, .int x5])],n+1+1+1⟩ ⋯ ⟨[],c5,x5,none,rfl,λe h=>absurd h m8,by simp,by simp,b5,J3⟩
   exact⟨E,c6,x6,o6,g1,⋯,g3,g4,g5,e⟩
 obtain⟨E,c6,x6,o6,g1,g2,g3,b6,f6,e6⟩:=k1
 unfold sg at e6
 rw[e6]
 left
 have rd1: ∀d,rp (pl l d) (TD (n+1+1) E)=TD (n+1+1) E:=λd=>zcT (λh=>hj h.symm)
 obtain⟨q7,c7,x7,hq7,hq7',b7,e7⟩:=J7 l c6 x6 8 (n+1+1+1) b6 (by decide) (by decide)
 rw[e7,W6 rfl rfl rfl (λq=>by left;try erw[rd1,f6 l];rfl) (λq=>by left;rfl)]
 try (left)
 obtain⟨N,hN,eN⟩:=zgj (a:=q7) (b:=40) hw0 hw1
 rw[eN]
 left
 rw[z1V ⟨⋯,⋯⟩]
 left
 obtain⟨s',e8,E2,c8,x8,o7,o8,o9,oa,n8,rfl,g1',g2',g3',b8,hn8,f7,f8,f9,fa⟩:=z0L (P:=λi s=> ∃(E2:List Z6) (c8 x8:Int) (o7 o8 o9 oa:Option D) (n8:Nat),s=⟨sg l c8 x8 (some (.int w)) lt fi tp (TD (n+1+1) E2) o6 o7 o8 o9 oa,[some (.lst l [.int c8, .int x8])],n8⟩/\(∀e∈E2,Wf e)/\E2.length<=26+i/\(E2.map (·.1)).Nodup/\Bg c8 x8/\n+1+1+1+1<=n8/\Fre o7/\Fre o8/\Fre o9/\Fre oa) (lo:=0) (N:=N.toNat) (g:= .nm 7) (b:=tb) (by
  rintro i hi s ⟨E2,c8,x8,o7,o8,o9,oa,n8,rfl,g1',g2',g3',b8,hn8,f7,f8,f9,fa⟩
  refine⟨sg l c8 x8 (some (.int w)) lt fi tp (TD (n+1+1) E2) o6 (some (.int (0+(i:Int)))) o8 o9 oa,rfl, ?_⟩
  obtain⟨r,c9,x9,n9,p8,p9,pa,hr,b9,hn9,h8,h9,ha,e9⟩:=zkV l (n+1+1) n8 c8 x8 lt fi tp (some (.int w)) o6 (some (.int (0+(i:Int)))) o8 o9 oa E2 ⋯ b8 ⋯ ⋯ hj ⋯ ⋯ ⋯ ⋯ (z0M w) f6 (z0M _) f8 f9 fa
  exact⟨_,e9,z7G E2 r,c9,x9,_,p8,p9,pa,n9,rfl,zb3 g1' hr,C7 z8n ⋯,zb4 g3',b9,⋯,z0M _,h8,h9,ha⟩) N.toNat 0 ⟨sg l c7 x7 (some (.int w)) lt fi tp (TD (n+1+1) E) o6 none none none none,[some (.lst l [.int c7, .int x7])],n+1+1+1+1⟩ ⋯ ⟨E,c7,x7,none,none,none,none,n+1+1+1+1,rfl,g1,⋯,g3,b7,i6 _,J3,J3,J3,J3⟩
 unfold sg at e8
 rw[e8]
 left
 have hT:isT (E2.map λr=>kd r.1)=true:=by cases E2<;>rfl
 obtain⟨n9,hn9,e9⟩:=zcU (E:=E2) (j:=n+1+1) (m0:=y0 5) (σ:=[some (.lst l [.int c8, .int x8]),some (.int w),some (.int lt),some (.int fi),some (.int tp),some (FD E2),o6,o7,o8,o9,oa]) (tm:=[some (.lst l [.int c8, .int x8])]) (n:=n8) (s:=⟨[some (.lst l [.int c8, .int x8]),some (.int w),some (.int lt),some (.int fi),some (.int tp),some (TD (n+1+1) E2),o6,o7,o8,o9,oa],[some (.lst l [.int c8, .int x8])],n8⟩) g3' ⋯ 5 rfl (by
  unfold z01
  left
  show(if isT (E2.map λr=>kd r.1)=true/\qq (E2.map vD)=[] then _ else _)=_
  rw[qy ⟨hT,zfz E2⟩]
  erw[z1F,Z0,Z8,i9,J8,zb5,f6 (n+1+1),f7 (n+1+1),f8 (n+1+1),f9 (n+1+1),fa (n+1+1),z0y hj,U8,V3]
  rfl)
 rw[e9]
 left
 intro hr
 subst hr
 refine⟨E2.take 40,c8,x8,n9+1,n9+1+1,λr hr=>g1' r (F8 hr),by rw[A5];lia,b8,⋯,⋯, ?_⟩
 rw[show(40:Int)=((40:Nat):Int) from rfl,z48,<-R9]
def y_app{l:Nat}{ds:List D}{n:Nat}(h:ds.length<qg)(hl:labs y=[]):z1N (.lst l ds) [y] ⟨σ,tm,n⟩= .ok .non ⟨rpO (pl l (.lst l (ds++[y]))) σ,rpO (pl l (.lst l (ds++[y]))) tm,n⟩:=by
 erw[z1N]
 rw[qy ⟨h,by rw[hl];exact m8⟩]
 rfl
def at_ints{ns:List Int}{i:Int}(h0:0<=i)(h1:i<ns.length): ∃v:Int,atI (ns.map D.int) i=some (.int v):=by
 obtain⟨d,hd,e⟩:=zio (ds:=ns.map D.int) h0 (by simpa using h1)
 obtain⟨v,_,rfl⟩:=l5.mp hd
 exact⟨v,e⟩
def zkW{b:Bool}: ∃v:Int,(0<=v/\v<2)/\(if b then(1:Int) else 0)=v:=by cases b<;>exact⟨_,⟨by decide,by decide⟩,rfl⟩
def ziz(rows:List Z6)(hw: ∀r∈rows,Wf r)(hr:rows.length<=60)(B:D)(k n:Nat)(m7:Option D)(hk:k<n)(hB: ∀d,rp (pl n d) B=B): ∃(ms:List Int) (o4 o5 o6:Option D),ms≠[]/\ms.length<=300/\Fre o4/\Fre o5/\Fre o6/\
 V8 (j6 (y0 1)) (.tp [(.nm 4),(.nm 5),(.nm 6)]) (Q8 (Q2 (y0 3) [(y0 4)] z2k)) ⟨[some B,some (.lst k (rows.map rD)),some (.int 60),some (.lst n [.int 0]),none,none,none,none,none,none],[some B,some (.lst k (rows.map rD)),some (.int 60)],n+1⟩
  = .nx ⟨[some B,some (.lst k (rows.map rD)),some (.int 60),some (.lst n (ms.map .int)),o4,o5,o6,none,none,none],[some B,some (.lst k (rows.map rD)),some (.int 60)],n+1⟩:=by
 left
 obtain⟨s',e,ms,o4,o5,o6,rfl,g1,g2,g4,g5,g6⟩:=U9 (P:=λi s=> ∃(ms:List Int) (o4 o5 o6:Option D),s=⟨[some B,some (.lst k (rows.map rD)),some (.int 60),some (.lst n (ms.map .int)),o4,o5,o6,none,none,none],some (.lst k (rows.map rD))::[some B,some (.lst k (rows.map rD)),some (.int 60)],n+1⟩/\ms≠[]/\ms.length<=1+4*i/\Fre o4/\Fre o5/\Fre o6) (l:=k) (ds:=rows.map rD) (g:= .tp [(.nm 4),(.nm 5),(.nm 6)]) (tm:=[some B,some (.lst k (rows.map rD)),some (.int 60)])
  (b:=Q8 (Q2 (y0 3) [(y0 4)] z2k)) (by rintro i s ⟨ms,o4,o5,o6,rfl,_⟩;rfl) (by
   rintro i d hd s ⟨ms,o4,o5,o6,rfl,g1,g2,g4,g5,g6⟩
   rw[List.getElem?_map] at hd
   cases hr':rows[i]? with
   |none=>rw[hr'] at hd;cases hd
   |some r=>
    rw[hr'] at hd
    cases hd
    have hi:i<rows.length:=(List.getElem?_eq_some_iff.mp hr').1
    have hl:=(hw r (List.mem_of_getElem? hr')).2.1
    refine⟨[some B,some (.lst k (rows.map rD)),some (.int 60),some (.lst n (ms.map .int)),some (.tup (r.1.map .int)),some (.tup (r.2.1.map .int)),some (.tup (r.2.2.map .int)),none,none,none],rfl, ?_⟩
    refine⟨_, ?_,ms++r.1,some (.tup (r.1.map .int)),some (.tup (r.2.1.map .int)),some (.tup (r.2.2.map .int)),rfl,by simp[g1],by rw[m5];lia,z2r _,z2r _,z2r _⟩
    left
    rw[z4H (by rw[zl];erw[l0];lia) (Z9 _)]
    left
    simp only[<-t5,Z7 (show k≠n by lia),Y8,hB]) rows.length 0 ⟨[some B,some (.lst k (rows.map rD)),some (.int 60),some (.lst n [.int 0]),none,none,none,none,none,none],some (.lst k (rows.map rD))::[some B,some (.lst k (rows.map rD)),some (.int 60)],n+1⟩ (by simp) ⟨[0],none,none,none,rfl,by simp,by simp,J3,J3,J3⟩
 rw[l0] at g2
 refine⟨ms,o4,o5,o6,g1,⋯,g4,g5,g6, ?_⟩
 rw[z0r (l:=k) (ds:=rows.map rD) (σ:=[some B,some (.lst k (rows.map rD)),some (.int 60),some (.lst n [.int 0]),none,none,none,none,none,none]) (tm:=[some B,some (.lst k (rows.map rD)),some (.int 60)]) (n:=n+1) (by left)]
 left
 rw[show kLst.len (some (.lst k (rows.map rD))::[some B,some (.lst k (rows.map rD)),some (.int 60)])=rows.length by show(rows.map rD).length=_;simp,e]
 rfl
def pb:MS:=(Z1 (Y1 (.nm 9) (mCB [(y4 (Z2 y9 [(y0 0),(mC (.int 8))]) (mC (.int 7)) eqD)] zbJ))
 (Q8 (Q2 (y0 7) [(y4 (mCB [(y4 (y0 3) (Z2 y9 [(y0 0),(mCB [(y0 3)] X8)]) ixD),(Z2 y9 [(y0 0),(mC (.int 26))])] lstM) (y0 9) ixD)] z1N)))
def zkX(rows:List Z6)(l k n q:Nat)(c x i:Int)(ms ks:List Int)(o4 o5 o6 o9:Option D)(hb:Bg c x)(hl:l<n)(hk:k<n)(hlk:k≠l)(hq:n+1<q)(hm:ms≠[])(lm:ms.length<=300)(lk:ks.length<=500)(f4:Fre o4)(f5:Fre o5)(f6:Fre o6)(f9:Fre o9): ∃(v c' x' w:Int) (q':Nat),Bg c' x'/\q<=q'/\
 pb ⟨[some (.lst l [.int c, .int x]),some (.lst k (rows.map rD)),some (.int 60),some (.lst n (ms.map .int)),o4,o5,o6,some (.lst (n+1) (ks.map .int)),some (.int i),o9],[some (.lst l [.int c, .int x]),some (.lst k (rows.map rD)),some (.int 60)],q⟩
  = .nx ⟨[some (.lst l [.int c', .int x']),some (.lst k (rows.map rD)),some (.int 60),some (.lst n (ms.map .int)),o4,o5,o6,some (.lst (n+1) ((ks++[v]).map .int)),some (.int i),some (.int w)],[some (.lst l [.int c', .int x']),some (.lst k (rows.map rD)),some (.int 60)],q'⟩:=by
 have rr: ∀d,rp (pl l d) (.lst k (rows.map rD))= .lst k (rows.map rD):=λd=>Z7 hlk
 have rm: ∀d,rp (pl l d) (.lst n (ms.map .int))= .lst n (ms.map .int):=λd=>W3 ⋯
 have rk: ∀d,rp (pl l d) (.lst (n+1) (ks.map .int))= .lst (n+1) (ks.map .int):=λd=>W3 ⋯
 have lpos:0<ms.length:=by cases ms with|nil=>exact absurd rfl hm|cons _ _=>simp
 unfold pb
 left
 obtain⟨q1,c1,x1,hq1,hq1',b1,e1⟩:=J7 l c x 8 q hb (by decide) (by decide)
 rw[e1,W6 rfl rfl rfl (λq=>by left;try erw[rr,rm,rk,f4 l,f5 l,f6 l,f9 l];rfl) (λq=>by left;try erw[rr];rfl)]
 try (left)
 obtain⟨w,⟨hw0,hw1⟩,ew⟩:= @zkW (q1==7)
 rw[ew]
 try (left)
 rw[z5J]
 obtain⟨q2,c2,x2,hq2,hq2',b2,e2⟩:=J7 l c1 x1 ms.length q b1 ⋯ ⋯
 rw[e2,W6 rfl rfl rfl (λq=>by left;try erw[rr,rm,rk,f4 l,f5 l,f6 l];rfl) (λq=>by left;try erw[rr,rm,rk];rfl)]
 try (left)
 obtain⟨v1,ev1⟩:=at_ints hq2 hq2'
 rw[ev1]
 left
 obtain⟨v2,c3,x3,hq3,hq3',b3,e3⟩:=J7 l c2 x2 26 q b2 (by decide) (by decide)
 rw[e3,W6 rfl rfl rfl (λq=>by left;try erw[rr,rm,rk,f4 l,f5 l,f6 l];rfl) (λq=>by left;try erw[rr,rk];rfl)]
 try (left)
 obtain⟨v,hv,ev⟩:=zgj (a:=v1) (b:=v2) hw0 hw1
 rw[ev]
 left
 try erw[rk]
 rw[y_app (by rw[zl,l0];lia) rfl]
 left
 refine⟨v,c3,x3,w,q+1,b3,⋯, ?_⟩
 have hs:ks.map D.int++[D.int v]=(ks++[v]).map D.int:=by rw[t5];rfl
 erw[hs,Z7 (show k≠n+1 by lia),W3 (show n≠n+1 by lia),f4 (n+1),f5 (n+1),f6 (n+1),z0y (show l≠n+1 by lia),U8,V3,J8]
def z9j(rows:List Z6)(hw: ∀r∈rows,Wf r)(hr:rows.length<=60)(l k n:Nat)(c x:Int)(hb:Bg c x)(hl:l<n)(hk:k<n)(hlk:k≠l): ∃(ks:List Int) (c' x':Int) (q n':Nat),ks.length<=60/\Bg c' x'/\n<=q/\q<n'/\z1k [.lst l [.int c, .int x], .lst k (rows.map rD), .int 60] n= .ok (.lst q (ks.map .int)) [.lst l [.int c', .int x'], .lst k (rows.map rD), .int 60] n':=by
 unfold z1k z29
 left
 obtain⟨ms,o4,o5,o6,hm,lm,f4,f5,f6,e1⟩:=ziz rows hw hr (.lst l [.int c, .int x]) k n none hk (λd=>by rw[z0y ⋯];erw[U8,V3,J8])
 rw[z46] at e1
 rw[e1]
 left
 obtain⟨q2,c2,x2,hq2,hq2',b2,e2⟩:=J7 l c x 61 (n+1+1) hb (by decide) (by decide)
 have rr: ∀d,rp (pl l d) (.lst k (rows.map rD))= .lst k (rows.map rD):=λd=>Z7 hlk
 have rm: ∀d,rp (pl l d) (.lst n (ms.map .int))= .lst n (ms.map .int):=λd=>W3 ⋯
 rw[show(60:Int)+1=61 from rfl,e2,z0W rfl rfl rfl (by left;erw[rr,rm,f4 l,f5 l,f6 l,z0y (show n+1≠l by lia),V3]) (by left;erw[rr])]
 left
 erw[rr,rm,f4 l,f5 l,f6 l,z0y (show n+1≠l by lia),V3]
 try (left)
 rw[z1V ⟨⋯,⋯⟩]
 left
 obtain⟨s',e3,ks,c3,x3,o8,o9,q,rfl,b3,hq,lk,f8,f9⟩:=z0L (P:=λi s=> ∃(ks:List Int) (c3 x3:Int) (o8 o9:Option D) (q:Nat),s=⟨[some (.lst l [.int c3, .int x3]),some (.lst k (rows.map rD)),some (.int 60),some (.lst n (ms.map .int)),o4,o5,o6,some (.lst (n+1) (ks.map .int)),o8,o9],[some (.lst l [.int c3, .int x3]),some (.lst k (rows.map rD)),some (.int 60)],q⟩/\Bg c3 x3/\n+1<q/\ks.length=i/\Fre o8/\Fre o9) (lo:=0) (N:=q2.toNat) (g:= .nm 8) (b:=pb) (by
  rintro i hi s ⟨ks,c3,x3,o8,o9,q,rfl,b3,hq,lk,f8,f9⟩
  refine⟨[some (.lst l [.int c3, .int x3]),some (.lst k (rows.map rD)),some (.int 60),some (.lst n (ms.map .int)),o4,o5,o6,some (.lst (n+1) (ks.map .int)),some (.int (0+(i:Int))),o9],rfl, ?_⟩
  obtain⟨v,c4,x4,w,q',b4,hq',e4⟩:=zkX rows l k n q c3 x3 (0+(i:Int)) ms ks o4 o5 o6 o9 b3 hl hk hlk hq hm lm ⋯ f4 f5 f6 f9
  exact⟨_,e4,ks++[v],c4,x4,_,_,q',rfl,b4,⋯,by rw[m5,lk];rfl,z0M _,z0M _⟩) q2.toNat 0 ⟨[some (.lst l [.int c2, .int x2]),some (.lst k (rows.map rD)),some (.int 60),some (.lst n (ms.map .int)),o4,o5,o6,some (.lst (n+1) []),none,none],[some (.lst l [.int c2, .int x2]),some (.lst k (rows.map rD)),some (.int 60)],n+1+1⟩ ⋯ ⟨[],c2,x2,none,none,n+1+1,rfl,b2,⋯,rfl,J3,J3⟩
 unfold pb at e3
 rw[e3]
 left
 exact⟨ks,c3,x3,n+1,q,⋯,b3,⋯,⋯,rfl⟩
def z8p{R ext:List Int}{k:Nat}(h:k<=R.length):(R++ext).take k=R.take k:=O6 h
def z8q{R ext:List Int}{k:Nat}(h:k<=R.length):(R++ext).drop k=R.drop k++ext:=by rw[E5 h]
def zfB{R ext:List Int}{r:Z6}(hs:J1 rows R=false)(hr:r∈rows):(R++ext).take r.1.length=r.1↔R.take r.1.length=r.1:=by
 by_cases h:r.1.length<=R.length
 .rw[z8p h]
 .have h':R.length<r.1.length:=by lia
  constructor
  .intro e
   exfalso
   have:wt R r=true:=by
    erw[wt,h',decide_true,E8,decide_eq_true_eq]
    rw[<-e,List.take_take,N3 ⋯,O6 (i6 _),E9]
   erw[J1,Bool.or_eq_false_iff,N9] at hs
   exact absurd this (hs.2 r hr)
  .intro e
   have:=congrArg E7 e
   rw[A5] at this
   lia
theorem z8r{rows0:List Z6}{R ext:List Int}(hs:J1 rows0 R=false): ∀(rows:List Z6) (best:Option Z6),(∀r∈rows,r∈rows0)->rows.foldl (J9 (R++ext)) best=rows.foldl (J9 R) best
 |[],_,_=>rfl
 |r::rows,best,h=>by
  have e:J9 (R++ext) best r=J9 R best r:=by
   unfold J9
   erw[zfB hs (h r (l6 ..))]
  rw[N4,N4,e,z8r hs rows _ λq hq=>h q (i5 _ hq)]
def zcW{rows:List Z6}{R ext:List Int}(hs:J1 rows R=false):Q3 rows (R++ext)=((Q3 rows R).1,(Q3 rows R).2.1,(Q3 rows R).2.2++ext):=by
 have hl:z0s rows (R++ext)=z0s rows R:=z8r hs rows none λ_ h=>h
 have hR:1<=R.length:=by
  cases R with
  |nil=>simp[J1] at hs
  |cons _ _=>simp
 unfold Q3
 rw[hl]
 cases e:z0s rows R with
 |none=>dsimp only;rw[z8p hR,z8q hR]
 |some r=>
  have ht:=(z0t e).2
  have:r.1.length<=R.length:=by have:=congrArg E7 ht;rw[A5] at this;lia
  dsimp only
  rw[z8q this,A3]
theorem z4K(hw: ∀r∈rows,Wf r)(ext:List Int): ∀(m:Nat) (R:List Int),readA rows (R++ext)=((Y2 rows m R).1++(readA rows ((Y2 rows m R).2.2++ext)).1,(Y2 rows m R).2.1++(readA rows ((Y2 rows m R).2.2++ext)).2)
 |0,R=>by simp[Y2]
 |m+1,R=>by
  unfold Y2
  cases hs:J1 rows R with
  |true=>simp
  |false=>
   have hne:R++ext≠[]:=λe=>by
    have:=(N7.mp e).1
    rw[this] at hs;simp[J1] at hs
   erw[t8,if_false]
   rw[z1I hw hne,zcW hs,z4K hw ext m]
   erw[A3]
theorem z6K(hw: ∀r∈rows,Wf r): ∀(m:Nat) (R:List Int),(Y2 rows m R).2.2.length<=R.length
 |0,R=>i6 _
 |m+1,R=>by
  unfold Y2
  cases hs:J1 rows R with
  |true=>simp
  |false=>
   have hne:R≠[]:=λe=>by rw[e] at hs;simp[J1] at hs
   have:=(K2 hw hne).1
   have:=z6K hw m (Q3 rows R).2.2
   erw[t8,if_false]
   lia
def ziA(rows:List Z6)(p S L W:List Int):Prop:=W.length<=p.length/\∀ext,readA rows (p++ext)=(S++(readA rows (W++ext)).1,L++(readA rows (W++ext)).2)
def zfC rows:ziA rows [] [] [] []:=⟨i6 _,λext=>by simp⟩
def zb7(hw: ∀r∈rows,Wf r){k:Int}(h:ziA rows p S L W):ziA rows (p++[k]) (S++(Y2 rows 1000 (W++[k])).1) (L++(Y2 rows 1000 (W++[k])).2.1) (Y2 rows 1000 (W++[k])).2.2:=by
 refine⟨?_,λext=> ?_⟩
 .have:=z6K hw 1000 (W++[k])
  have:=h.1
  erw[m5,A4,C8] at*
  lia
 .rw[A3,h.2,<-A3 W,z4K hw ext 1000 (W++[k])]
  erw[A3]
def zfD(h:ziA rows p S L W):readA rows p=(S++(readA rows W).1,L++(readA rows W).2):=by
 have:=h.2 []
 rwa [l7,l7] at this
theorem z4L(hw: ∀r∈rows,Wf r){k:Int}(hk: ∀r∈rows,k∉r.1): ∀(m:Nat) (R:List Int),R.length+1<=m->(Y2 rows m (R++[k])).2.1≠[]
 |0,R,h=>by lia
 |m+1,R,h=>by
  have hs:J1 rows (R++[k])=false:=by
   unfold J1
   have e1:decide (R++[k]=[])=false:=by simp
   rw[e1,N1,N9]
   intro r hr hw'
   erw[wt,A7,decide_eq_true_eq] at hw'
   refine hk r hr (F8 (i:=(R++[k]).length) ?_)
   rw[hw'.2];simp
  unfold Y2
  erw[hs,t8,if_false]
  unfold Q3
  cases e:z0s rows (R++[k]) with
  |none=>
   dsimp only
   intro h0
   have:=(N7.mp h0).1
   cases R<;>simp at this
  |some r=>
   obtain⟨hm,ht⟩:=z0t e
   have wf:=hw r hm
   have hl:r.1.length<=R.length:=by
    rcases P7 R.length r.1.length with q|q
    .exfalso
     refine hk r hm ?_
     rw[<-ht,t9 (by simp;lia)]
     simp
    .exact q
   dsimp only
   rw[E5 hl,<-A3,B0]
   exact z4L hw hk m (r.2.2++R.drop r.1.length) (by
    rw[m5,C2]
    have:=wf.2.2.2.1
    have:=wf.1
    lia)
theorem z4M(hw: ∀r∈rows,Wf r): ∀(m:Nat) (R:List Int),R.length<=m->J1 rows (Y2 rows m R).2.2=true
 |0,R,h=>by
  have e:R=[]:=C1 ⋯
  subst e;simp[Y2,J1]
 |m+1,R,h=>by
  unfold Y2
  cases hs:J1 rows R with
  |true=>erw[if_true];exact hs
  |false=>
   have hne:R≠[]:=λe=>by rw[e] at hs;simp[J1] at hs
   erw[t8,if_false]
   exact z4M hw m _ (by have:=(K2 hw hne).1;lia)
abbrev Ent:=Int×List Int×List Int
def okK(rows:List Z6)(W:List Int)(k:Int):Bool:=(Y2 rows 1000 (W++[k])).2.1.isEmpty
def ent(rows:List Z6)(W:List Int)(k:Int):Ent:=(k,(Y2 rows 1000 (W++[k])).1,(Y2 rows 1000 (W++[k])).2.2)
def K26:List Int:=(D5 26).map λ(i:Nat)=>(i:Int)
def z0X(rows:List Z6)(k:Int):Bool:=rows.any λr=>decide (k∈r.1)
def z03(rows:List Z6)(W:List Int):List Ent:=(K26.filter (okK rows W)).map (ent rows W)
def ziB(rows:List Z6)(W:List Int):List Ent:=((K26.filter (z0X rows)).filter (okK rows W)).map (ent rows W)
def zfE(hw: ∀r∈rows,Wf r){W:List Int}(hz:W.length<=900):ziB rows W=z03 rows W:=by
 unfold ziB z03
 rw[List.filter_filter]
 congr 1
 refine u08 λk _=> ?_
 cases h:z0X rows k with
 |true=>simp
 |false=>
  have hk: ∀r∈rows,k∉r.1:=λr hr hm=>by
   unfold z0X at h
   rw[N9] at h
   exact h r hr (by simpa using hm)
  have:=z4L hw hk 1000 W ⋯
  have:okK rows W k=false:=by
   unfold okK
   cases e:(Y2 rows 1000 (W++[k])).2.1 with
   |nil=>exact absurd e this
   |cons _ _=>rfl
  simp[this]
abbrev Sg:=Nat×List Int
def z6U(sn:List Int)(p:Nat)(e:Ent):Bool:=decide ((sn.drop p).take e.2.1.length=e.2.1)
def W9(rows:List Z6)(sn:List Int)(g:Sg):List (Int×Sg):=((z03 rows g.2).filter (z6U sn g.1)).map λe=>(e.1,(g.1+e.2.1.length,e.2.2))
abbrev Fd:=List (Sg×List Int)
def addF(F:Fd)(c:List Int)(x:Int×Sg):Fd:=if x.2∈F.map (·.1) then F else F++[(x.2,c++[x.1])]
def putF(F:Fd)(c:List Int)(gs:List (Int×Sg)):Fd:=gs.foldl (λF x=>addF F c x) F
def proc(gl:Sg->List (Int×Sg))(F:Fd)(i:Nat):Fd:=match F[i]? with
 |some q=>putF F q.2 (gl q.1)
 |none=>F
def runF'(gl:Sg->List (Int×Sg)):Nat->Nat->Fd->Fd
 |0,_,F=>F
 |n+1,i,F=>runF' gl n (i+1) (proc gl F i)
def zcX: ∃A,addF F c g=F++A:=by
 unfold addF
 split
 .exact⟨[],by simp⟩
 .exact⟨_,rfl⟩
theorem z1J: ∀{gs:List (Int×Sg)} {F:Fd},∃A,putF F c gs=F++A
 |[],F=>⟨[],by simp[putF]⟩
 |g::gs,F=>by
  obtain⟨A,h⟩:=zcX (F:=F) (c:=c) (g:=g)
  obtain⟨B,h'⟩:=z1J (c:=c) (gs:=gs) (F:=addF F c g)
  refine⟨A++B, ?_⟩
  show putF (addF F c g) c gs=_
  rw[h',h,A3]
def z5u{i:Nat}: ∃A,proc gl F i=F++A:=by
 unfold proc
 split
 .exact z1J
 .exact⟨[],by simp⟩
theorem z2b: ∀(n m i:Nat) (F:Fd),runF' gl (n+m) i F=runF' gl m (i+n) (runF' gl n i F)
 |0,m,i,F=>by simp[runF']
 |n+1,m,i,F=>by
  rw[show n+1+m=(n+m)+1 by lia]
  show runF' gl (n+m) (i+1) (proc gl F i)=_
  rw[z2b n m (i+1)]
  show _=runF' gl m (i+(n+1)) (runF' gl n (i+1) (proc gl F i))
  rw[show i+1+n=i+(n+1) by lia]
theorem z49: ∀(n i:Nat) (F:Fd),∃A,runF' gl n i F=F++A
 |0,i,F=>⟨[],by simp[runF']⟩
 |n+1,i,F=>by
  obtain⟨A,h⟩:=z5u (gl:=gl) (F:=F) (i:=i)
  obtain⟨B,h'⟩:=z49 n (i+1) (proc gl F i)
  refine⟨A++B, ?_⟩
  show runF' gl n (i+1) (proc gl F i)=_
  rw[h',h,A3]
def z5v{n m:Nat}(h:n<=m):(runF' gl n 0 F).length<=(runF' gl m 0 F).length:=by
 obtain⟨d,rfl⟩:=Nat.exists_eq_add_of_le h
 rw[z2b]
 obtain⟨A,e⟩:=z49 (gl:=gl) d (0+n) (runF' gl n 0 F)
 rw[e,m5];lia
def zb8{B:Nat}(hB: ∀n,(runF' gl n 0 F).length<=B): ∃N,N<=B/\(runF' gl N 0 F).length=N/\∀i,i<N->i<(runF' gl i 0 F).length:=by
 have key: ∀d,(∀i,i<d->i<(runF' gl i 0 F).length)\/∃N,N<d/\(runF' gl N 0 F).length<=N/\∀i,i<N->i<(runF' gl i 0 F).length:=by
  intro d
  induction d with
  |zero=>exact .inl λi h=>absurd h (P1 _)
  |succ d ih=>
   rcases ih with h|⟨N,h1,h2⟩
   .rcases P7 d (runF' gl d 0 F).length with q|q
    .exact .inl λi hi=>by
      rcases F6 (u09 hi) with z|z
      .exact h i z
      .rw[z];exact q
    .exact .inr ⟨d,B2 _,q,h⟩
   .exact .inr ⟨N,⋯,h2⟩
 rcases key (B+1) with h|⟨N,h1,h2,h3⟩
 .exact absurd (h B (B2 _)) (by have:=hB B;lia)
 .refine⟨N,⋯, ?_,h3⟩
  rcases Nat.eq_zero_or_pos N with z|z
  .subst z;lia
  .have:=h3 (N - 1) ⋯
   have:=z5v (gl:=gl) (F:=F) (show N - 1<=N by lia)
   lia
def zb9{F:Fd}(h:(F.map (·.1)).Nodup):((addF F c g).map (·.1)).Nodup:=by
 unfold addF
 split
 .exact h
 .rename_i hn
  rw[t5,L6]
  refine⟨h,by simp,λa ha b hb e=> ?_⟩
  erw[i7,t7,m4] at hb
  exact hn (hb▸e▸ha)
theorem z3m{Q:Sg×List Int->Prop}: ∀{gs:List (Int×Sg)} {F:Fd},(F.map (·.1)).Nodup->(∀q∈F,Q q)->(∀g∈gs,Q (g.2,c++[g.1]))->((putF F c gs).map (·.1)).Nodup/\∀q∈putF F c gs,Q q
 |[],F,h1,h2,_=>⟨h1,h2⟩
 |g::gs,F,h1,h2,h3=>by
  refine z3m (gs:=gs) (F:=addF F c g) (zb9 h1) (λq hq=> ?_) (λg' h'=>h3 g' (i5 _ h'))
  unfold addF at hq
  split at hq
  .exact h2 q hq
  .rcases l4.mp hq with hq|hq
   .exact h2 q hq
   .rw[m4.mp hq];exact h3 g (l6 ..)
theorem z5w{Q:Sg×List Int->Prop}(hq: ∀q,Q q->∀x∈gl q.1,Q (x.2,q.2++[x.1])): ∀(n i:Nat) (F:Fd),(F.map (·.1)).Nodup->(∀q∈F,Q q)->((runF' gl n i F).map (·.1)).Nodup/\∀q∈runF' gl n i F,Q q
 |0,i,F,h1,h2=>⟨h1,h2⟩
 |n+1,i,F,h1,h2=>by
  have key:((proc gl F i).map (·.1)).Nodup/\∀q∈proc gl F i,Q q:=by
   unfold proc
   split
   .rename_i q e
    exact z3m h1 h2 (hq _ (h2 q (List.mem_of_getElem? e)))
   .exact⟨h1,h2⟩
  exact z5w hq n (i+1) _ key.1 key.2
def z5x(rows:List Z6):List (List Int):=[]::(rows.map λr=>(D5 r.1.length).map λn=>r.1.take n).flatten
def zcY(h:J1 rows W=true):W∈z5x rows:=by
 unfold J1 at h
 erw[T2,decide_eq_true_eq,S3] at h
 unfold z5x
 rcases h with rfl|⟨r,hr,hw⟩
 .simp
 .erw[wt,A7,decide_eq_true_eq] at hw
  refine i5 _ (u0e.mpr ⟨_,l5.mpr ⟨r,hr,rfl⟩,l5.mpr ⟨W.length,by simpa using hw.1,hw.2⟩⟩)
def zba{rows:List Z6}(hw: ∀r∈rows,Wf r):(z5x rows).length<=1+4*rows.length:=by
 have:((rows.map λr=>(D5 r.1.length).map λn=>r.1.take n).flatten).length<=4*rows.length:=by
  induction rows with
  |nil=>simp
  |cons r rows ih=>
   have:=ih λq hq=>hw q (i5 _ hq)
   have w:=(hw r (l6 ..)).2.1
   erw[i7,List.flatten_cons,m5,l0,R7,A4]
   lia
 unfold z5x
 rw[A4];lia
theorem z1K{α:Type}[DecidableEq α]: ∀{xs ys:List α},xs.Nodup->(∀x∈xs,x∈ys)->xs.length<=ys.length
 |[],ys,_,_=>B9 _
 |x::xs,ys,h,hm=>by
  have h':=C0.mp h
  have hx:=hm x (l6 ..)
  have:=z1K (xs:=xs) (ys:=ys.erase x) h'.2 λz hz=>by
   rw[List.mem_erase_of_ne (λ(e:z=x)=>h'.1 (e▸hz))]
   exact hm z (i5 _ hz)
  rw[List.length_erase_of_mem hx] at this
  have hp:0<ys.length:=List.length_pos_of_mem hx
  rw[A4];lia
def zjx(rows:List Z6)(n:Nat):List Sg:=((D5 (n+1)).map λp=>(z5x rows).map λw=>(p,w)).flatten
def zcZ{n:Nat}:(zjx rows n).length=(n+1)*(z5x rows).length:=by
 unfold zjx
 rw[List.length_flatten,B7]
 have:((D5 (n+1)).map (E7∘λp=>(z5x rows).map λw=>(p,w)))=B8 (n+1) (z5x rows).length:=by
  rw[List.eq_replicate_iff]
  refine⟨by simp,λx hx=> ?_⟩
  obtain⟨p,_,rfl⟩:=l5.mp hx
  simp
 rw[this,List.sum_replicate_nat]
def Ok(rows:List Z6)(n:Nat)(g:Sg):Prop:=g.1<=n/\J1 rows g.2=true
def ziC{n:Nat}(h:Ok rows n g):g∈zjx rows n:=by
 refine u0e.mpr ⟨_,l5.mpr ⟨g.1,P9.mpr (Nat.lt_succ_of_le h.1),rfl⟩,l5.mpr ⟨g.2,zcY h.2,rfl⟩⟩
abbrev gl(rows:List Z6)(sn:List Int)(g:Sg):List (Int×Sg):=W9 rows sn g
def z0D(hw: ∀r∈rows,Wf r){W:List Int}(h:J1 rows W=true):W.length<=3:=by
 unfold J1 at h
 erw[T2,decide_eq_true_eq,S3] at h
 rcases h with rfl|⟨r,hr,hw'⟩
 .simp
 .erw[wt,A7,decide_eq_true_eq] at hw'
  have:=(hw r hr).2.1;lia
def ziD(hw: ∀r∈rows,Wf r){sn:List Int}(h:Ok rows sn.length g): ∀g'∈gl rows sn g,Ok rows sn.length g'.2:=λg' hg=>by
 unfold gl W9 at hg
 obtain⟨e,he,rfl⟩:=l5.mp hg
 obtain⟨he,hf⟩:=E1.mp he
 unfold z03 at he
 obtain⟨k,_,rfl⟩:=l5.mp he
 refine⟨?_,z4M hw 1000 _ (by have:=z0D hw h.2;simp;lia)⟩
 unfold z6U at hf
 erw[decide_eq_true_eq] at hf
 have:=congrArg E7 hf
 rw[A5,C2] at this
 have:=h.1
 show g.1+(ent rows g.2 k).2.1.length<=sn.length
 lia
def z2s{rows:List Z6}(hw: ∀r∈rows,Wf r)(hr:rows.length<=40){sn:List Int}(hs:sn.length<=24) n:(runF' (gl rows sn) n 0 [((0,[]),[])]).length<=5000:=by
 obtain⟨h1,h2⟩:=z5w (gl:=gl rows sn) (Q:=λq=>Ok rows sn.length q.1) (λq h=>ziD hw h) n 0 [((0,[]),[])] (by simp) (λq hq=>by
  rw[m4.mp hq]
  exact⟨B9 _,by simp[J1]⟩)
 have:=z1K h1 (ys:=zjx rows sn.length) λg hg=>by
  obtain⟨q,hq,rfl⟩:=l5.mp hg
  exact ziC (h2 q hq)
 rw[l0,zcZ] at this
 have hl:=zba hw
 have:(sn.length+1)*(z5x rows).length<=25*161:=Nat.mul_le_mul ⋯ ⋯
 lia
abbrev Gl:=Sg->List (Int×Sg)
def st1(gl:Gl)(g:Sg)(k:Int):Option Sg:=((gl g).find? λx=>decide (x.1=k)).map (·.2)
def go(gl:Gl)(o:Option Sg)(ks:List Int):Option Sg:=ks.foldl (λo k=>o.bind λg=>st1 gl g k) o
def z8s{gl:Gl}{o:Option Sg}{u v:List Int}:go gl o (u++v)=go gl (go gl o u) v:=by unfold go;rw[D9]
theorem z4a{gl:Gl}: ∀ks,go gl none ks=none
 |[]=>rfl
 |_::ks=>z4a ks
def Asc(gl:Gl):Prop:= ∀g,(gl g).Pairwise λx y=>x.1<y.1
def z5y{gl:Gl}{g g':Sg}{k:Int}(h:st1 gl g k=some g'):(k,g')∈gl g:=by
 unfold st1 at h
 obtain⟨x,h1,rfl⟩:=L0.mp h
 have:=List.find?_some h1
 rw[<-of_decide_eq_true this]
 exact List.mem_of_find?_eq_some h1
def z8t{gl:Gl}(ha:Asc gl){g:Sg}{x:Int×Sg}(h:x∈gl g):st1 gl g x.1=some x.2:=by
 have:=ha g
 unfold st1
 generalize gl g=L at*
 induction L with
 |nil=>cases h
 |cons y L ih=>
  obtain⟨p1,p2⟩:=N5.mp this
  rcases m3.mp h with rfl|h
  .simp
  .have:=p1 x h
   rw[List.find?_cons_of_neg (by simp;lia)]
   exact ih h p2
def z1W rows sn:Asc (gl rows sn):=λg=>by
 unfold gl W9 z03
 refine I0.mpr ?_
 refine List.Pairwise.filter _ ?_
 refine I0.mpr ?_
 refine List.Pairwise.filter _ ?_
 show K26.Pairwise (· < ·)
 decide
def z5z a b:ltE (.int a) (.int b)=decide (a<b):=by
 unfold ltE
 erw[er,So.ltD,B4]
def z8u(ks:List Int):Lin (ks.map D.int):=by
 refine⟨λx hx y hy h=> ?_,λx hx y hy z hz h1 h2=> ?_,λx hx y hy h1 h2=> ?_⟩
 .obtain⟨v,_,rfl⟩:=l5.mp hx
  obtain⟨w,_,rfl⟩:=l5.mp hy
  rw[z5z] at h⊢
  erw[decide_eq_true_eq,decide_eq_false_iff_not] at h⊢
  lia
 .obtain⟨v,_,rfl⟩:=l5.mp hx
  obtain⟨w,_,rfl⟩:=l5.mp hy
  obtain⟨u,_,rfl⟩:=l5.mp hz
  rw[z5z] at h1 h2⊢
  erw[decide_eq_false_iff_not] at h1 h2⊢
  lia
 .obtain⟨v,_,rfl⟩:=l5.mp hx
  obtain⟨w,_,rfl⟩:=l5.mp hy
  rw[z5z] at h1 h2
  erw[decide_eq_false_iff_not] at h1 h2
  congr 1;lia
def z7H{k:Int}:k∈K26↔0<=k/\k<26:=by
 unfold K26
 erw[l5,P9]
 constructor
 .rintro ⟨n,h,rfl⟩;lia
 .intro h;exact⟨k.toNat,⋯,⋯⟩
def zdR:K26.Pairwise (· < ·):=by
 unfold K26
 rw[I0]
 exact List.pairwise_lt_range.imp λh=>by lia
def zfF{ks:List Int}(hn:ks.Nodup)(hk: ∀k∈ks,0<=k/\k<26):z7l (ks.map D.int)=(K26.filter λk=>decide (k∈ks)).map D.int:=by
 have hp:(K26.filter λk=>decide (k∈ks)).Perm ks:=by
  refine(List.perm_ext_iff_of_nodup ((zdR.filter _).imp λh=> ?_) hn).mpr λk=> ?_
  .lia
  .erw[E1,decide_eq_true_eq,z7H]
   exact⟨λh=>h.2,λh=>⟨hk k h,h⟩⟩
 have hs:((K26.filter λk=>decide (k∈ks)).map D.int).Pairwise λa b=>ltE b a=false:=by
  rw[I0]
  refine(zdR.filter _).imp λh=> ?_
  rw[z5z];erw[decide_eq_false_iff_not];lia
 obtain⟨p1,s1⟩:=zf4 (z8u ks)
 refine List.Perm.eq_of_pairwise (le:=λa b=>ltE b a=false) (λa b ha hb h1 h2=> ?_) s1 hs (p1.trans (hp.map D.int).symm)
 exact(z8u ks).e a (p1.mem_iff.mp ha) b ((hp.map D.int).mem_iff.mp hb) h2 h1
def kkD(j:Nat)(ks:List Int):D:= .dct j (.non::ks.map .int) (ks.map λ_=> .bool true)
def zbK(ks:List Int)(k:Int):List Int:=if k∈ks then ks else ks++[k]
def zdS(ks:List Int)(k:Int):((ks.map D.int).any λd=>decide (z0x d=some (.inl k)))=decide (k∈ks):=by
 induction ks with
 |nil=>rfl
 |cons p ks ih=>
  have e0:z0x (D.int p)=some (.inl p):=rfl
  rw[i7,O3,ih,e0]
  by_cases h:p=k
  .subst h;simp
  .have h': ¬k=p:=λe=>h e.symm
   simp[h,h']
def ziE{j:Nat}{ks:List Int}{k:Int}{s:Stt}(hz:ks.length<=1000):z6h (kkD j ks) (.int k) (.bool true) s= .nx (s.put j (kkD j (zbK ks k))):=by
 have hl:qq (ks.map λ_=>D.bool true)=[]:=Q6 λd hd=>by obtain⟨_,_,rfl⟩:=l5.mp hd;rfl
 unfold z6h kkD
 erw[z0x]
 rw[qy ⟨by rw[l0,zl];lia,rfl,hl⟩]
 have e1:zay (ks.map D.int) (.inl k)=(zbK ks k).map D.int:=by
  unfold zay zbK
  rw[zdS]
  by_cases h:k∈ks
  .erw[h,decide_true,if_true]
  .erw[h,decide_false,t8,if_false,t5];rfl
 have e2:z7k (ks.map D.int) (ks.map λ_=>D.bool true) (.inl k) (.bool true)=(zbK ks k).map λ_=>D.bool true:=by
  unfold z7k zbK
  rw[zdS]
  by_cases h:k∈ks
  .erw[h,decide_true,if_true]
   clear h hz hl e1
   induction ks with
   |nil=>rfl
   |cons p ks ih=>erw[i7,E6,ite_self,ih]
  .erw[h,decide_false,t8,if_false,t5];rfl
 rw[e1,e2]
def zfG{j:Nat}:labs (kkD j ks)=[j]:=by
 have hl:qq (ks.map λ_=>D.bool true)=[]:=Q6 λd hd=>by obtain⟨_,_,rfl⟩:=l5.mp hd;rfl
 erw[kkD,labs,qq,Z9,hl,l7]
def zfH{k j:Nat}(h:j≠k):rp (pl k d) (kkD j ks)=kkD j ks:=U2 (by rw[zfG];erw[m4];lia)
def ziF{j:Nat}:rp (pl j d) (kkD j ks)=d:=by unfold kkD;erw[rp,pl,if_true]
def ziG{j n:Nat}{ks:List Int}(hn:ks.Nodup)(hk: ∀k∈ks,0<=k/\k<26):zdD [kkD j ks] ⟨σ,tm,n⟩= .ok (.lst n ((K26.filter λk=>decide (k∈ks)).map .int)) ⟨σ,tm,n+1⟩:=by
 have e: ∀ns:List Int,z1S (ns.map D.int)=some ns:=λns=>by
  induction ns with
  |nil=>rfl
  |cons n ns ih=>erw[i7,z1S,ih]
 have hz:=z1K hn (ys:=K26) λk h=>z7H.mpr (hk k h)
 have:K26.length=26:=by simp[K26]
 unfold zdD kkD
 erw[e]
 rw[qy ⋯,zfF hn hk]
 rfl
def zfI{ks:List Int}{k:Int}(h:ks.Nodup):(zbK ks k).Nodup:=by
 unfold zbK
 split
 .exact h
 .rename_i hn
  rw[L6]
  refine⟨h,by simp,λa ha b hb e=> ?_⟩
  rw[m4] at hb
  exact hn (hb▸e▸ha)
def z8v{k z:Int}:z∈zbK ks k↔z∈ks\/z=k:=by
 unfold zbK
 split
 .rename_i h
  exact⟨.inl,λq=>q.elim id λe=>e▸h⟩
 .simp
def ziH{ks:List Int}(hn:ks.Nodup)(hk: ∀k∈ks,0<=k/\k<26):ks.length<=26:=by
 have hz:=z1K hn (ys:=K26) λk h=>z7H.mpr (hk k h)
 have:K26.length=26:=by simp[K26]
 lia
def FdP(PK:List (List Int)):D:= .fdc (PK.map kd) (PK.map λ_=> .bool true)
def z5A(PK:List (List Int)):qq (PK.map λ_=>D.bool true)=[]:=Q6 λd hd=>by obtain⟨_,_,rfl⟩:=l5.mp hd;rfl
def z6L{k:Nat}:rp (pl k d) (FdP PK)=FdP PK:=U2 (by erw[FdP,labs,z5A];exact m8)
def zfJ(h: ∀R,R∈PK↔J1 rows R=true) R s:z0c (.tup (R.map .int)) (FdP PK) s= .ok (.bool (!J1 rows R)) s:=by
 have e:decide (R∈PK)=J1 rows R:=by
  rw[O8,decide_eq_true_iff];exact h R
 unfold z0c FdP
 have hT:isT (PK.map kd)=true:=by cases PK<;>rfl
 erw[rdD,qy hT,z1m,zb0,e]
 rfl
theorem z2X(hw: ∀r∈rows,Wf r): ∀(m:Nat) (R:List Int),(Y2 rows m R).1.length<=3*R.length/\(Y2 rows m R).2.1.length<=R.length
 |0,R=>by simp[Y2]
 |m+1,R=>by
  unfold Y2
  cases hs:J1 rows R with
  |true=>simp
  |false=>
   have hne:R≠[]:=λe=>by rw[e] at hs;simp[J1] at hs
   have h1:=K2 hw hne
   have h2:=z2X hw m (Q3 rows R).2.2
   erw[t8,if_false,m5]
   lia
def zfK{a m:Nat}{L:List Int}(h:L.length<=2000):eqD (.lst a (L.map D.int)) (.lst m []) s= .ok (.bool L.isEmpty) s:=by
 have r:=z6B (n:=0) (k:=0) (l:=a) (es:=L.map D.int) (B9 _) (by simpa using h) λe he=>by
  obtain⟨i,_,rfl⟩:=l5.mp he;exact⟨rfl,by simp[er,PyData.depth]⟩
 have g:=zaV _ r.1
 have g0:(er (.lst m [])).canLay0=true/\Mi.z0I (.lst m [])=true:=⟨rfl,rfl⟩
 rw[zi8 (by
  erw[eqC,g.1,g.2,g0.1,g0.2,N2,E8,decide_eq_true_eq]
  have:=u0h (er (.lst a (L.map D.int))).depth (er (.lst m [])).depth
  have:=r.2
  lia)]
 congr 2
 cases L with
 |nil=>rfl
 |cons c cs=>rfl
def EnD(lo hi:Nat):List Ent->List D->Prop
 |[],ds=>ds=[]
 |e::es,ds=> ∃a r,ds= .tup [.int e.1, .lst a (e.2.1.map .int), .tup (e.2.2.map .int)]::r/\lo<=a/\a<hi/\EnD lo hi es r
theorem EnD.mono{lo hi lo' hi':Nat}(h1:lo'<=lo)(h2:hi<=hi'): ∀{es:List Ent} {ds:List D},EnD lo hi es ds->EnD lo' hi' es ds
 |[],ds,h=>h
 |e::es,ds,⟨a,r,h,ha,hb,hr⟩=>⟨a,r,h,⋯,⋯,EnD.mono h1 h2 hr⟩
theorem EnD.snoc{lo hi a:Nat}{e:Ent}(ha:lo<=a)(hb:a<hi): ∀{es:List Ent} {ds:List D},EnD lo hi es ds->EnD lo hi (es++[e]) (ds++[.tup [.int e.1, .lst a (e.2.1.map .int), .tup (e.2.2.map .int)]])
 |[],ds,h=>by
  have h:ds=[]:=h
  subst h
  exact⟨a,[],rfl,ha,hb,rfl⟩
 |e'::es,ds,⟨a',r,h,h1,h2,hr⟩=>⟨a',r++[_],by rw[h];rfl,h1,h2,EnD.snoc ha hb hr⟩
theorem EnD.labs{lo hi:Nat}: ∀{es:List Ent} {ds:List D},EnD lo hi es ds->∀j∈qq ds,lo<=j/\j<hi
 |[],ds,h,j,hj=>by
  have h:ds=[]:=h
  subst h;erw[qq] at hj;cases hj
 |e::es,ds,⟨a,r,h,h1,h2,hr⟩,j,hj=>by
  subst h
  erw[qq,Mi.labs,Z9,l7,B0,l4,m4,m3,m8,or_false] at hj
  rcases hj with rfl|hj
  .exact⟨h1,h2⟩
  .exact EnD.labs hr j hj
theorem EnD.len{lo hi:Nat}: ∀{es:List Ent} {ds:List D},EnD lo hi es ds->ds.length=es.length
 |[],ds,h=>by
  have h:ds=[]:=h
  subst h;rfl
 |e::es,ds,⟨a,r,h,h1,h2,hr⟩=>by rw[h,A4,A4,EnD.len hr]
def Lo(n:Nat)(o:Option D):Prop:= ∀k,k<=n->∀d,o.map (rp (pl k d))=o
def Lo.li{n q:Nat}{ns:List Int}(h:n<q):Lo n (some (.lst q (ns.map .int))):=λk hk d=>by rw[i9,W3 (show q≠k by lia)]
def Lo.tI{n:Nat}{ns:List Int}:Lo n (some (.tup (ns.map .int))):=λk hk d=>by rw[i9,z2q]
def Lo.int{n:Nat}{i:Int}:Lo n (some (.int i)):=λ_ _ _=>rfl
def Lo.no{n:Nat}:Lo n none:=λ_ _ _=>rfl
def Lo.mono{n m:Nat}(h:Lo n o)(hm:m<=n):Lo m o:=λk hk d=>h k ⋯ d
def stB:MS:=(Z1 (Y1 (.tp [(.nm 8),(.nm 9),(.nm 10)]) (Z2 z1D [(y0 0),(y0 1),(y0 6),(y0 4)]))
 (sIf (J4 (y4 (y0 9) (mCB [] lstM) eqD)) (Q8 (Q2 (y0 7) [(mCB [(y0 4),(y0 8),(y0 10)] j3)] z1N)) sNx))
def ziI rows(hw: ∀r∈rows,Wf r) PK(hP: ∀R,R∈PK↔J1 rows R=true) l n7 m(hl:l<n7)(h7:n7<m) W(hW:W.length<=100) k C F o3 o8 o9 o10(tm:Qq)(hC: ∀d,rp (pl n7 d) C=C)(hF: ∀d,rp (pl n7 d) F=F)(h3: ∀d,o3.map (rp (pl n7 d))=o3)(ht: ∀d,rpO (pl n7 d) tm=tm) es ds(he:EnD (n7+1) m es ds)(hz:ds.length<=1000):
 ∃ds' p8 p9 p10 m',m<=m'/\Lo n7 p8/\Lo n7 p9/\Lo n7 p10/\EnD (n7+1) m' (es++(([k].filter (okK rows W)).map (ent rows W))) ds'/\stB ⟨[some (.lst l (rows.map rD)),some (FdP PK),some C,o3,some (.int k),some F,some (.tup (W.map .int)),some (.lst n7 ds),o8,o9,o10],tm,m⟩= .nx ⟨[some (.lst l (rows.map rD)),some (FdP PK),some C,o3,some (.int k),some F,some (.tup (W.map .int)),some (.lst n7 ds'),p8,p9,p10],tm,m'⟩:=by
 obtain⟨n',hn',e1⟩:=zaZ rows W k l m (FdP PK) (zfJ hP) (λd=>z6L) (λd=>z6L) hw hW ⋯
 have hlen:=z2X hw 1000 (W++[k])
 rw[m5,D3] at hlen
 unfold stB
 left
 rw[e1]
 left
 rw[zfK ⋯]
 cases hk:(Y2 rows 1000 (W++[k])).2.1.isEmpty with
 |false=>
  have ef:[k].filter (okK rows W)=[]:=by simp[okK,hk]
  refine⟨ds,some (.lst m ((Y2 rows 1000 (W++[k])).1.map .int)),some (.lst (m+1) ((Y2 rows 1000 (W++[k])).2.1.map .int)),some (.tup ((Y2 rows 1000 (W++[k])).2.2.map .int)),n'+1,⋯,Lo.li ⋯,Lo.li ⋯,Lo.tI, ?_, ?_⟩
  .rw[ef,t7,l7]
   exact he.mono (i6 _) ⋯
  .left
 |true=>
  have ef:[k].filter (okK rows W)=[k]:=by simp[okK,hk]
  left
  rw[Mi.y_app ⟨by rw[zl];lia,by
   erw[labs,qq,Z9,l7,B0,m4]
   lia⟩]
  left
  erw[Z7 (show l≠n7 by lia),z6L,hC,hF,h3,ht,Y8,W3 (show m≠n7 by lia),W3 (show m+1≠n7 by lia)]
  refine⟨_,_,_,_,n'+1,⋯,Lo.li (q:=m) ⋯,Lo.li (q:=m+1) ⋯,Lo.tI, ?_,rfl⟩
  rw[ef]
  exact EnD.snoc (e:=ent rows W k) ⋯ ⋯ (he.mono (i6 _) ⋯)
def VL(rows:List Z6)(lo hi:Nat)(W:List Int)(v:D):Prop:= ∃q ds,v= .lst q ds/\lo<=q/\q<hi/\EnD lo hi (z03 rows W) ds
def DV(rows:List Z6)(lo hi:Nat):List (List Int)->List D->Prop
 |[],vs=>vs=[]
 |W::FK,vs=> ∃v r,vs=v::r/\VL rows lo hi W v/\DV rows lo hi FK r
def VL.mono{lo hi hi':Nat}(h2:hi<=hi')(h:VL rows lo hi W v):VL rows lo hi' W v:=by
 obtain⟨q,ds,e,a,b,c⟩:=h
 exact⟨q,ds,e,a,⋯,c.mono (i6 _) h2⟩
def VL.labs{lo hi:Nat}(h:VL rows lo hi W v): ∀j∈labs v,lo<=j/\j<hi:=λj hj=>by
 obtain⟨q,ds,rfl,a,b,c⟩:=h
 erw[Mi.labs,m3] at hj
 rcases hj with rfl|hj
 .exact⟨a,b⟩
 .exact c.labs j hj
theorem DV.mono{lo hi hi':Nat}(h2:hi<=hi'): ∀{FK:List (List Int)} {vs:List D},DV rows lo hi FK vs->DV rows lo hi' FK vs
 |[],vs,h=>h
 |W::FK,vs,⟨v,r,e,h,hr⟩=>⟨v,r,e,h.mono h2,DV.mono h2 hr⟩
theorem DV.labs{lo hi:Nat}: ∀{FK:List (List Int)} {vs:List D},DV rows lo hi FK vs->∀j∈qq vs,lo<=j/\j<hi
 |[],vs,h,j,hj=>by
  have h:vs=[]:=h
  subst h;erw[qq] at hj;cases hj
 |W::FK,vs,⟨v,r,e,h,hr⟩,j,hj=>by
  subst e
  erw[qq,l4] at hj
  exact hj.elim (h.labs j) (DV.labs hr j)
theorem DV.snoc{lo hi:Nat}(h:VL rows lo hi W v): ∀{FK:List (List Int)} {vs:List D},DV rows lo hi FK vs->DV rows lo hi (FK++[W]) (vs++[v])
 |[],vs,h'=>by
  have h':vs=[]:=h'
  subst h'
  exact⟨v,[],rfl,h,rfl⟩
 |W'::FK,vs,⟨v',r,e,h1,hr⟩=>⟨v',r++[v],by rw[e];rfl,h1,DV.snoc h hr⟩
theorem DV.zip{lo hi:Nat}(h:VL rows lo hi W v): ∀{FK:List (List Int)} {vs:List D},DV rows lo hi FK vs->DV rows lo hi FK (P8 (λd w=>if z1O d=some (nkI W) then v else w) (FK.map kd) vs)
 |[],vs,h'=>by
  have h':vs=[]:=h'
  subst h';rfl
 |W'::FK,vs,⟨v',r,e,h1,hr⟩=>by
  subst e
  refine⟨_,_,rfl, ?_,DV.zip h hr⟩
  show VL rows lo hi W' (if z1O (kd W')=some (nkI W) then v else v')
  split
  .rename_i q
   rw[k8.mp q];exact h
  .exact h1
theorem DV.find{lo hi:Nat}: ∀{FK:List (List Int)} {vs:List D},DV rows lo hi FK vs->W∈FK->∃v,findK (FK.map kd) vs (nkI W)=some v/\VL rows lo hi W v
 |[],vs,h,hm=>by cases hm
 |W'::FK,vs,⟨v',r,e,h1,hr⟩,hm=>by
  subst e
  erw[i7,findK]
  by_cases q:W'=W
  .subst q
   exact⟨v',by rw[qy (k8.mpr rfl)],h1⟩
  .obtain⟨v,f,g⟩:=DV.find hr ((m3.mp hm).resolve_left λz=>q z.symm)
   exact⟨v,by rw[qh (λz=>q (k8.mp z))];exact f,g⟩
theorem DV.has{lo hi:Nat}: ∀{FK:List (List Int)} {vs:List D},DV rows lo hi FK vs->(findK (FK.map kd) vs (nkI W)).isSome=decide (W∈FK)
 |[],vs,h=>by
  have h:vs=[]:=h
  subst h;rfl
 |W'::FK,vs,⟨v',r,e,h1,hr⟩=>by
  subst e
  erw[i7,findK]
  by_cases q:W'=W
  .subst q
   rw[qy (k8.mpr rfl)];simp
  .rw[qh (λz=>q (k8.mp z)),DV.has hr]
   have:W≠W':=λz=>q z.symm
   simp[this]
def zdT{lo hi j:Nat}{FK:List (List Int)}{s:Stt}(hz:FK.length<=10000)(hj:j∉labs v)(h:VL rows lo hi W v)(hv:DV rows lo hi FK vs):
 ∃vs',DV rows lo hi (z4J FK W) vs'/\z54 (.dct j (FK.map kd) vs) (.tup (W.map .int)) v s= .nx (s.put j (.dct j ((z4J FK W).map kd) vs')):=by
 have hT:isT (FK.map kd)=true:=by cases FK<;>rfl
 have e1:z3D (FK.map kd) (nkI W)=(z4J FK W).map kd:=by
  unfold z3D z4J
  rw[z6J]
  by_cases h:W∈FK
  .erw[h,decide_true,if_true]
  .erw[h,decide_false,t8,if_false,t5,zfx];rfl
 refine⟨z1P (FK.map kd) vs (nkI W) v, ?_, ?_⟩
 .unfold z1P z4J
  rw[z6J]
  by_cases q:W∈FK
  .erw[q,decide_true,if_true]
   exact hv.zip h
  .erw[q,decide_false,t8,if_false]
   exact hv.snoc h
 .unfold z54
  erw[z1m]
  rw[qy ⟨hT,by rw[l0,zl];lia,hj⟩,e1]
def zfL(PK:List (List Int)):qq (PK.map kd)=[]:=Q6 λd hd=>by obtain⟨p,_,rfl⟩:=l5.mp hd;exact Z9 p
def z3d{lo hi j k:Nat}{FK:List (List Int)}(h:DV rows lo hi FK vs)(hj:j≠k)(hk:k<lo\/hi<=k):rp (pl k d) (.dct j (FK.map kd) vs)= .dct j (FK.map kd) vs:=U2 (by
 erw[labs,zfL,B0,m3,not_or]
 exact⟨λe=>hj e.symm,λq=>by have:=h.labs k q;lia⟩)
def z35{j:Nat}:rp (pl j d) (.dct j ks vs)=d:=by erw[rp,pl,if_true]
def stO:MS:=(Z1 (Y1 (.nm 7) (mCB [] lstM))
 (Z1 (V8 (j6 (mCB [(y0 2)] zdD)) (.nm 4) stB)
 (z20 (y0 7) (y0 5) (y0 6) z54)))
def stS(l:Nat)(rows:List Z6)(PK:List (List Int))(j2:Nat)(ks:List Int)(o3 o4:Option D)(j5:Nat)(FK:List (List Int))(vs:List D)(o6 o7 o8 o9 o10:Option D):Qq:=[some (.lst l (rows.map rD)),some (FdP PK),some (kkD j2 ks),o3,o4,some (.dct j5 (FK.map kd) vs),o6,o7,o8,o9,o10]
def zkY{rows:List Z6}{ks:List Int}(hk: ∀k,k∈ks↔z0X rows k=true):(K26.filter λk=>decide (k∈ks))=K26.filter (z0X rows):=u08 λk _=>by
 rw[O8,decide_eq_true_iff];exact hk k
def ziJ rows(hw: ∀r∈rows,Wf r) PK(hP: ∀R,R∈PK↔J1 rows R=true) ks(hn:ks.Nodup)(hk: ∀k,k∈ks↔z0X rows k=true)(hk26: ∀k∈ks,0<=k/\k<26) l j2 j5 n(hl:l<n)(h2:j2<n)(h5:j5<n)(h52:j5≠j2)(hl5:l≠j5) FK vs(hFz:FK.length<=1000)(hV:DV rows (j5+1) n FK vs) W(hW:W.length<=100) o3 o4 o7 o8 o9 o10(u3:UpO j5 o3)(w4:Lo j5 o4)(w8:Lo j5 o8)(w9:Lo j5 o9)(w10:Lo j5 o10)(tm:Qq)(ht: ∀k,j5<=k->∀d,rpO (pl k d) tm=tm):
 ∃vs' p4 p7 p8 p9 p10 n',n<=n'/\Lo j5 p4/\Lo j5 p8/\Lo j5 p9/\Lo j5 p10/\DV rows (j5+1) n' (z4J FK W) vs'/\stO ⟨stS l rows PK j2 ks o3 o4 j5 FK vs (some (.tup (W.map .int))) o7 o8 o9 o10,tm,n⟩= .nx ⟨stS l rows PK j2 ks o3 p4 j5 (z4J FK W) vs' (some (.tup (W.map .int))) p7 p8 p9 p10,tm,n'⟩:=by
 unfold stO stS
 left
 have hi:j6 (mCB [(y0 2)] zdD) ⟨[some (.lst l (rows.map rD)),some (FdP PK),some (kkD j2 ks),o3,o4,some (.dct j5 (FK.map kd) vs),some (.tup (W.map .int)),some (.lst n []),o8,o9,o10],tm,n+1⟩= .ok kLst ⟨[some (.lst l (rows.map rD)),some (FdP PK),some (kkD j2 ks),o3,o4,some (.dct j5 (FK.map kd) vs),some (.tup (W.map .int)),some (.lst n []),o8,o9,o10],some (.lst (n+1) ((K26.filter (z0X rows)).map .int))::tm,n+1+1⟩:=z0r (by
  left
  rw[ziG hn hk26,zkY hk])
 rw[hi,z2a]
 generalize hK:K26.filter (z0X rows)=K at*
 have hKz:K.length<=26:=by rw[<-hK];exact C7 (D4 _ _) (by simp[K26])
 obtain⟨s',e2,o4',p8,p9,p10,ds,m,hm,v4,v8,v9,v10,hE,rfl⟩:=U9 (P:=λi s=> ∃(o4 o8 o9 o10:Option D) (ds:List D) (m:Nat),n+1+1<=m/\Lo j5 o4/\Lo j5 o8/\Lo j5 o9/\Lo j5 o10/\EnD (n+1) m (((K.take i).filter (okK rows W)).map (ent rows W)) ds/\s=⟨[some (.lst l (rows.map rD)),some (FdP PK),some (kkD j2 ks),o3,o4,some (.dct j5 (FK.map kd) vs),some (.tup (W.map .int)),some (.lst n ds),o8,o9,o10],some (.lst (n+1) (K.map .int))::tm,m⟩) (l:=n+1) (ds:=K.map D.int) (g:= .nm 4) (tm:=tm) (b:=stB)
  (by rintro i s ⟨_,_,_,_,_,_,_,_,_,_,_,_,rfl⟩;rfl) (by
   rintro i d hd s ⟨o4,o8,o9,o10,ds,m,hm,_,_,_,_,hE,rfl⟩
   rw[List.getElem?_map] at hd
   cases hk':K[i]? with
   |none=>rw[hk'] at hd;cases hd
   |some k=>
    rw[hk'] at hd
    cases hd
    refine⟨_,rfl, ?_⟩
    have hi:i<K.length:=(List.getElem?_eq_some_iff.mp hk').1
    have hds:=hE.len
    rw[l0] at hds
    have:=D4 (okK rows W) (K.take i)
    rw[A5] at this
    obtain⟨ds',q8,q9,q10,m',hm',l8,l9,l10,hE',e⟩:=ziI rows hw PK hP l n m hl ⋯ W hW k (kkD j2 ks) (.dct j5 (FK.map kd) vs) o3 o8 o9 o10 (some (.lst (n+1) (K.map .int))::tm) (λd=>zfH ⋯) (λd=>z3d hV ⋯ (.inr (i6 _))) (λd=>u3.fixk ⋯ d) (λd=>by rw[Z0,i9,W3 (show n+1≠n by lia),ht n ⋯]) _ ds hE ⋯
    refine⟨_,e,some (.int k),q8,q9,q10,ds',m',⋯,Lo.int,l8.mono ⋯,l9.mono ⋯,l10.mono ⋯, ?_,rfl⟩
    rw[A6,hk',A8,F4,t5]
    exact hE') K.length 0 ⟨[some (.lst l (rows.map rD)),some (FdP PK),some (kkD j2 ks),o3,o4,some (.dct j5 (FK.map kd) vs),some (.tup (W.map .int)),some (.lst n []),o8,o9,o10],some (.lst (n+1) (K.map .int))::tm,n+1+1⟩ (by simp) ⟨o4,o8,o9,o10,[],n+1+1,i6 _,w4,w8,w9,w10,rfl,rfl⟩
 dsimp only
 rw[show kLst.len (some (.lst (n+1) (K.map D.int))::tm)=K.length by show(K.map D.int).length=_;simp,e2]
 erw[px1]
 rw[l0,t9 (i6 _),<-hK] at hE
 have hE':EnD (n+1) m (z03 rows W) ds:=by rw[<-zfE hw ⋯];exact hE
 have hvl:VL rows (j5+1) m W (.lst n ds):=⟨n,ds,rfl,⋯,⋯,hE'.mono ⋯ (i6 _)⟩
 obtain⟨vs',hv',ep⟩:=zdT (j:=j5) (s:=⟨[some (.lst l (rows.map rD)),some (FdP PK),some (kkD j2 ks),o3,o4',some (.dct j5 (FK.map kd) vs),some (.tup (W.map .int)),some (.lst n ds),p8,p9,p10],tm,m⟩) ⋯ (λq=>by have:=hvl.labs j5 q;lia) hvl (hV.mono ⋯)
 have f7: ∀d,rp (pl j5 d) (.lst n ds)= .lst n ds:=λd=>U2 λq=>by have:=hvl.labs j5 q;lia
 left
 rw[ep]
 refine⟨vs',o4',some (.lst n ds),p8,p9,p10,m,⋯,v4,v8,v9,v10,hv', ?_⟩
 erw[z1F,Z0,Z8,i9,Z7 hl5,z6L,zfH (show j2≠j5 by lia),u3.fix,v4 j5 (i6 _),v8 j5 (i6 _),v9 j5 (i6 _),v10 j5 (i6 _),z35,z2q,f7,ht j5 (i6 _)]
theorem z4b{K:ItK}{g:Tg}{b:MS}{P:Nat->Stt->Prop}{item:Nat->D}{N:Nat}(hat: ∀i s,P i s->K.at' i s.tm=some (if i<N then some (item i) else none))
 (body: ∀i,i<N->∀s,P i s->∃σ',asg g (item i) s.σ=some σ'/\∃s',b {s with σ:=σ'}= .nx s'/\P (i+1) s'):
 ∀(f i:Nat) (s:Stt),i+f=N->P i s->∃s',forGo K g b f i s= .nx (s'.popn K.k)/\P N s'
 |0,i,s,hi,h=>by
  have e:i=N:=by lia
  subst e
  exact⟨s,zaU (by rw[hat i s h,qh (D8 _)]),h⟩
 |f+1,i,s,hi,h=>by
  obtain⟨σ',h1,s1,h2,h3⟩:=body i ⋯ s h
  obtain⟨s2,h4,h5⟩:=z4b hat body f (i+1) s1 ⋯ h3
  exact⟨s2,by rw[z8h (by rw[hat i s h,qy ⋯]) h1 h2,h4],h5⟩
def zkZ{ds:List D}{i:Nat}:zdy.at' i (some (.tup ds)::tm)=some (if i<ds.length then some (ds.getD i .non) else none):=by
 show some (ds[i]?)=_
 by_cases h:i<ds.length
 .rw[qy h];simp[h]
 .rw[qh h];simp[S1 h]
def zfM{ks vs:List D}{i:Nat}:kDct.at' i (some (.fdc ks vs)::tm)=some (if i<ks.length then some (ks.getD i .non) else none):=by
 show some (ks[i]?)=_
 by_cases h:i<ks.length
 .rw[qy h];simp[h]
 .rw[qh h];simp[S1 h]
def ziK{n:Nat}(h:m s= .ok (.tup ds) ⟨σ,tm,n⟩):j6 m s= .ok zdy ⟨σ,some (.tup ds)::tm,n⟩:=by
 unfold j6 bd
 rw[h];rfl
def kkB:MS:=V8 (j6 (y4 (y0 3) (mC (.int 0)) ixD)) (.nm 4) (z20 (mC (.bool true)) (y0 2) (y0 4) z6h)
def ziL(rows:List Z6)(r:Z6)(hr: ∀k∈r.1,0<=k/\k<26)(l j j2 n:Nat)(hl:l≠j2)(hj:j≠j2)(PK:List (List Int))(ks:List Int)(hn:ks.Nodup)(hk: ∀k∈ks,0<=k/\k<26)(o4:Option D)(r4:Qq)(h4: ∀q,Lo q o4)(h5: ∀d,rpO (pl j2 d) r4=r4)(tm:Qq)(ht: ∀d,rpO (pl j2 d) tm=tm):
 ∃ks' p4,ks'.Nodup/\(∀k∈ks',0<=k/\k<26)/\(∀k,k∈ks'↔k∈ks\/k∈r.1)/\(∀q,Lo q p4)/\kkB ⟨some (.lst l (rows.map rD))::some (dD j PK)::some (kkD j2 ks)::some (rD r)::o4::r4,tm,n⟩= .nx ⟨some (.lst l (rows.map rD))::some (dD j PK)::some (kkD j2 ks')::some (rD r)::p4::r4,tm,n⟩:=by
 unfold kkB
 have hi:j6 (y4 (y0 3) (mC (.int 0)) ixD) ⟨some (.lst l (rows.map rD))::some (dD j PK)::some (kkD j2 ks)::some (rD r)::o4::r4,tm,n⟩= .ok zdy ⟨some (.lst l (rows.map rD))::some (dD j PK)::some (kkD j2 ks)::some (rD r)::o4::r4,some (.tup (r.1.map .int))::tm,n⟩:=ziK (by
  left)
 rw[z46,hi,z2a]
 obtain⟨s',e,ks',p4,g1,g2,g3,g4,rfl⟩:=z4b (K:=zdy) (g:= .nm 4) (b:=z20 (mC (.bool true)) (y0 2) (y0 4) z6h) (item:=λi=>(r.1.map D.int).getD i .non) (N:=r.1.length) (P:=λi s=> ∃ks' p4,ks'.Nodup/\(∀k∈ks',0<=k/\k<26)/\(∀k,k∈ks'↔k∈ks\/k∈r.1.take i)/\(∀q,Lo q p4)/\s=⟨some (.lst l (rows.map rD))::some (dD j PK)::some (kkD j2 ks')::some (rD r)::p4::r4,some (.tup (r.1.map .int))::tm,n⟩)
  (by rintro i s ⟨_,_,_,_,_,_,rfl⟩;rw[zkZ,l0]) (by
   rintro i hi s ⟨ks',p4,g1,g2,g3,g4,rfl⟩
   have ei:(r.1.map D.int).getD i .non= .int r.1[i]:=by simp[hi]
   rw[ei]
   refine⟨_,rfl, ?_⟩
   refine⟨_, ?_,zbK ks' r.1[i],some (.int r.1[i]),zfI g1,λk hk'=> ?_,λk=> ?_,λ_=>Lo.int,rfl⟩
   .left
    rw[ziE (by have:=ziH g1 g2;lia)]
    erw[z1F,Z0,Z8,i9,Z7 hl,ziu hj,ziF,zfy,J8,z2q,h5,ht]
   .rcases z8v.mp hk' with h|h
    .exact g2 k h
    .rw[h];exact hr _ (A9 hi)
   .rw[z8v,g3,A6,List.getElem?_eq_getElem hi,A8,l4,m4,or_assoc]) r.1.length 0 ⟨some (.lst l (rows.map rD))::some (dD j PK)::some (kkD j2 ks)::some (rD r)::o4::r4,some (.tup (r.1.map .int))::tm,n⟩ ⋯ ⟨ks,o4,hn,hk,λk=>by simp,h4,rfl⟩
 dsimp only
 rw[show zdy.len (some (.tup (r.1.map D.int))::tm)=r.1.length by show(r.1.map D.int).length=_;simp,e]
 refine⟨ks',p4,g1,g2,λk=> ?_,g4,rfl⟩
 rw[g3,t9 (i6 _)]
def zfN{rows:List Z6}{i:Nat}{r:Z6}(h:rows[i]? =some r) k:z0X (rows.take (i+1)) k=true↔z0X (rows.take i) k=true\/k∈r.1:=by
 unfold z0X
 rw[A6,h,A8,List.any_append,T2]
 simp
def zd0{PK:List (List Int)}{i:Nat}(h:i<PK.length)(hm: ∀W,W∈FK↔W∈PK.take i) W:W∈z4J FK PK[i]↔W∈PK.take (i+1):=by
 rw[z5s,hm,A6,List.getElem?_eq_getElem h,A8,l4,m4]
def zl0{j k:Nat}(h:j≠k):rp (pl k d) (.dct j [] [])= .dct j [] []:=U2 (by erw[labs,qq,l7,m4];lia)
def zd1 rows(hw: ∀r∈rows,Wf r) PK(hP: ∀R,R∈PK↔J1 rows R=true)(hPz:PK.length<=900) l j n(hl:l<n)(hj:j<n)(hlj:l≠j):
 ∃(FK:List (List Int)) (vs:List D) (j5 n':Nat),n<=j5/\j5<n'/\DV rows (j5+1) n' FK vs/\(∀W,W∈FK↔J1 rows W=true)/\FK.length<=900/\z1E [.lst l (rows.map rD),dD j PK] n= .ok (.dct j5 (FK.map kd) vs) [.lst l (rows.map rD),FdP PK] n':=by
 unfold z1E
 have e0:z41=(Z1 (Y1 (.nm 2) zcq)
  (Z1 (V8 (j6 (y0 0)) (.nm 3) kkB)
  (Z1 (Y1 (.nm 5) z2G)
  (Z1 (V8 (z01 (y0 1)) (.nm 6) stO)
  (K5 (y0 5)))))):=rfl
 rw[e0]
 left
 have eK: ∀σ tm,zcq ⟨σ,tm,n⟩= .ok (kkD n []) ⟨σ,tm,n+1⟩:=λ_ _=>rfl
 rw[eK]
 left
 rw[z0r (l:=l) (ds:=rows.map rD) (σ:=[some (.lst l (rows.map rD)),some (dD j PK),some (kkD n []),none,none,none,none,none,none,none,none]) (tm:=[some (.lst l (rows.map rD)),some (dD j PK)]) (n:=n+1) (by left),z2a]
 obtain⟨s',e,ks,o3,o4,g1,g2,g3,g4,g5,rfl⟩:=U9 (P:=λi s=> ∃(ks:List Int) (o3 o4:Option D),ks.Nodup/\(∀k∈ks,0<=k/\k<26)/\(∀k,k∈ks↔z0X (rows.take i) k=true)/\(o3=none\/∃r,o3=some (rD r))/\(∀q,Lo q o4)/\s=⟨[some (.lst l (rows.map rD)),some (dD j PK),some (kkD n ks),o3,o4,none,none,none,none,none,none],some (.lst l (rows.map rD))::[some (.lst l (rows.map rD)),some (dD j PK)],n+1⟩) (l:=l) (ds:=rows.map rD) (g:= .nm 3) (tm:=[some (.lst l (rows.map rD)),some (dD j PK)]) (b:=kkB)
  (by rintro i s ⟨_,_,_,_,_,_,_,_,rfl⟩;rfl) (by
   rintro i d hd s ⟨ks,o3,o4,g1,g2,g3,_,g5,rfl⟩
   rw[List.getElem?_map] at hd
   cases hr':rows[i]? with
   |none=>rw[hr'] at hd;cases hd
   |some r=>
    rw[hr'] at hd
    cases hd
    refine⟨_,rfl, ?_⟩
    obtain⟨ks',p4,q1,q2,q3,q4,e⟩:=ziL rows r (hw r (List.mem_of_getElem? hr')).2.2.2.2 l j n (n+1) ⋯ ⋯ PK ks g1 g2 o4 [none,none,none,none,none,none] g5 (λ_=>rfl) (some (.lst l (rows.map rD))::[some (.lst l (rows.map rD)),some (dD j PK)]) (λd=>by erw[Z0,Z8,i9,Z7 (show l≠n by lia),ziu (show j≠n by lia)])
    exact⟨_,e,ks',some (rD r),p4,q1,q2,λk=>by rw[q3,g3,zfN hr'], .inr ⟨r,rfl⟩,q4,rfl⟩) rows.length 0 ⟨[some (.lst l (rows.map rD)),some (dD j PK),some (kkD n []),none,none,none,none,none,none,none,none],some (.lst l (rows.map rD))::[some (.lst l (rows.map rD)),some (dD j PK)],n+1⟩ (by simp) ⟨[],none,none, .nil,(λ_ h=>nomatch h),λk=>by simp[z0X], .inl rfl,λ_=>Lo.no,rfl⟩
 dsimp only
 rw[show kLst.len (some (.lst l (rows.map rD))::[some (.lst l (rows.map rD)),some (dD j PK)])=rows.length by show(rows.map rD).length=_;simp,e]
 erw[px1]
 rw[l0,t9 (i6 _)] at g3
 left
 have eD: ∀σ tm,z2G ⟨σ,tm,n+1⟩= .ok (.dct (n+1) [] []) ⟨σ,tm,n+1+1⟩:=λ_ _=>rfl
 rw[eD]
 left
 have f3: ∀k d,o3.map (rp (pl k d))=o3:=λk d=>by
  rcases g4 with rfl|⟨r,rfl⟩
  .rfl
  .rw[i9,zfy]
 have hT:isT (PK.map kd)=true:=by cases PK<;>rfl
 have hi:z01 (y0 1) ⟨[some (.lst l (rows.map rD)),some (dD j PK),some (kkD n ks),o3,o4,some (.dct (n+1) [] []),none,none,none,none,none],[some (.lst l (rows.map rD)),some (dD j PK)],n+1+1⟩= .ok kDct ⟨stS l rows PK n ks o3 o4 (n+1) [] [] none none none none none,some (FdP PK)::[some (.lst l (rows.map rD)),some (FdP PK)],n+1+1⟩:=by
  unfold z01 stS
  left
  show(if isT (PK.map kd)=true/\qq (PK.map λ_=>D.bool true)=[] then _ else _)=_
  rw[qy ⟨hT,z5A PK⟩]
  erw[z1F,Z0,Z8,i9,C9,Z7 hlj,zdP,zfH (show n≠j by lia),f3,g5 j j (i6 _),zl0 (show n+1≠j by lia)]
  rfl
 rw[hi,z2a]
 obtain⟨s',e2,FK,vs,p4,o6,p7,p8,p9,p10,m,hm,w4,w8,w9,w10,hV,hFz,hF,rfl⟩:=z4b (K:=kDct) (g:= .nm 6) (b:=stO) (item:=λi=>(PK.map kd).getD i .non) (N:=PK.length) (P:=λi s=> ∃(FK:List (List Int)) (vs:List D) (p4 o6 p7 p8 p9 p10:Option D) (m:Nat),n+1+1<=m/\Lo (n+1) p4/\Lo (n+1) p8/\Lo (n+1) p9/\Lo (n+1) p10/\DV rows (n+1+1) m FK vs/\FK.length<=i/\(∀W,W∈FK↔W∈PK.take i)/\s=⟨stS l rows PK n ks o3 p4 (n+1) FK vs o6 p7 p8 p9 p10,some (FdP PK)::[some (.lst l (rows.map rD)),some (FdP PK)],m⟩)
  (by rintro i s ⟨_,_,_,_,_,_,_,_,_,_,_,_,_,_,_,_,_,rfl⟩;unfold FdP;rw[zfM,l0]) (by
   rintro i hi s ⟨FK,vs,p4,o6,p7,p8,p9,p10,m,hm,w4,w8,w9,w10,hV,hFz,hF,rfl⟩
   have ei:(PK.map kd).getD i .non= .tup (PK[i].map .int):=by simp[hi,kd]
   rw[ei]
   refine⟨_,rfl, ?_⟩
   have hst:=(hP PK[i]).mp (A9 hi)
   obtain⟨vs',q4,q7,q8,q9,q10,m',hm',x4,x8,x9,x10,hV',e⟩:=ziJ rows hw PK hP ks g1 g3 g2 l n (n+1) m ⋯ ⋯ ⋯ ⋯ ⋯ FK vs ⋯ hV PK[i] (by have:=z0D hw hst;lia) o3 p4 p7 p8 p9 p10 (λd hd k hk=>by
    rcases g4 with rfl|⟨r,rfl⟩
    .cases hd
    .cases hd;rw[z7E] at hk;cases hk) w4 w8 w9 w10 (some (FdP PK)::[some (.lst l (rows.map rD)),some (FdP PK)]) (λk hk d=>by erw[Z0,Z8,i9,z6L,Z7 (show l≠k by lia)])
   exact⟨_,e,z4J FK PK[i],vs',q4,some (.tup (PK[i].map .int)),q7,q8,q9,q10,m',⋯,x4,x8,x9,x10,hV',C7 z5t ⋯,zd0 hi hF,rfl⟩) PK.length 0 ⟨stS l rows PK n ks o3 o4 (n+1) [] [] none none none none none,some (FdP PK)::[some (.lst l (rows.map rD)),some (FdP PK)],n+1+1⟩ ⋯ ⟨[],[],o4,none,none,none,none,none,n+1+1,i6 _,g5 _,Lo.no,Lo.no,Lo.no,rfl,i6 _,λW=>by simp,rfl⟩
 dsimp only
 rw[show kDct.len (some (FdP PK)::[some (.lst l (rows.map rD)),some (FdP PK)])=PK.length by show(PK.map kd).length=_;simp,e2]
 show ∃FK' vs' j5 n',_
 rw[show kDct.k=1 from rfl,px1]
 unfold stS
 left
 refine⟨FK,vs,n+1,m,⋯,⋯,hV,λW=> ?_,⋯,rfl⟩
 rw[hF,t9 (i6 _)]
 exact hP W
def prB:MS:=(Z1 (Y1 (.tp [(.nm 4),(.nm 5),(.nm 6)]) (Z2 z1B [(y0 0),(y0 1),(y0 3)]))
 (sIf (z9s (z1r (y0 5))) (Q8 (Q2 (y0 2) [(mCB [(y0 3),(y0 4),(y0 6)] j3)] z1N)) sNx))
def ziM{i:Nat}(h:i<26):K26[i]? =some (i:Int):=by simp[K26,h]
def ziN rows(hw: ∀r∈rows,Wf r)(hr:rows.length<1000) l n2 m(hl:l<n2)(h2:n2<m) W(hW:W.length<=100) k o4 o5 o6 es ds(he:EnD (n2+1) m es ds)(hz:ds.length<=1000):
 ∃ds' p4 p5 p6 m',m<=m'/\EnD (n2+1) m' (es++(([k].filter (okK rows W)).map (ent rows W))) ds'/\prB ⟨[some (.lst l (rows.map rD)),some (.tup (W.map .int)),some (.lst n2 ds),some (.int k),o4,o5,o6],[some (.lst l (rows.map rD)),some (.tup (W.map .int))],m⟩= .nx ⟨[some (.lst l (rows.map rD)),some (.tup (W.map .int)),some (.lst n2 ds'),some (.int k),p4,p5,p6],[some (.lst l (rows.map rD)),some (.tup (W.map .int))],m'⟩:=by
 obtain⟨n',hn',e1⟩:=zaY rows W k l m hw hr hW ⋯
 unfold prB
 left
 rw[e1]
 left
 cases hk:(Y2 rows 1000 (W++[k])).2.1 with
 |cons x L=>
  have ef:[k].filter (okK rows W)=[]:=by simp[okK,hk]
  refine⟨ds,some (.lst m ((Y2 rows 1000 (W++[k])).1.map .int)),some (.lst (m+1) ((x::L).map .int)),some (.tup ((Y2 rows 1000 (W++[k])).2.2.map .int)),n',⋯, ?_, ?_⟩
  .rw[ef,t7,l7]
   exact he.mono (i6 _) ⋯
  .erw[i7,u0a]
   left
 |nil=>
  have ef:[k].filter (okK rows W)=[k]:=by simp[okK,hk]
  erw[t7,O2]
  left
  rw[Mi.y_app ⟨by rw[zl];lia,by
   erw[labs,qq,Z9,l7,B0,m4]
   lia⟩]
  left
  erw[Z7 (show l≠n2 by lia),Y8,z2q,W3 (show m≠n2 by lia),z0y (show m+1≠n2 by lia),V3]
  refine⟨_,_,_,_,n',⋯, ?_,rfl⟩
  rw[ef]
  exact EnD.snoc (e:=ent rows W k) ⋯ ⋯ (he.mono (i6 _) ⋯)
def ziO rows(hw: ∀r∈rows,Wf r)(hr:rows.length<1000) l n(hl:l<n) W(hW:W.length<=100):
 ∃ds n',n<n'/\EnD (n+1) n' (z03 rows W) ds/\W5 [.lst l (rows.map rD), .tup (W.map .int)] n= .ok (.lst n ds) [.lst l (rows.map rD), .tup (W.map .int)] n':=by
 unfold W5
 have e0:G6=(Z1 (Y1 (.nm 2) (mCB [] lstM))
  (Z1 (V8 (X4 [(y4 (mC (.int 25)) (mC (.int 1)) K1)]) (.nm 3) prB)
  (K5 (y0 2)))):=rfl
 rw[e0]
 left
 rw[z1V ⟨by decide,by decide⟩]
 left
 obtain⟨s',e,ds,o3,o4,o5,o6,m,hm,hE,rfl⟩:=z0L (P:=λi s=> ∃(ds:List D) (o3 o4 o5 o6:Option D) (m:Nat),n+1<=m/\EnD (n+1) m (((K26.take i).filter (okK rows W)).map (ent rows W)) ds/\s=⟨[some (.lst l (rows.map rD)),some (.tup (W.map .int)),some (.lst n ds),o3,o4,o5,o6],[some (.lst l (rows.map rD)),some (.tup (W.map .int))],m⟩) (lo:=0) (N:=((25:Int)+1).toNat) (g:= .nm 3) (b:=prB) (by
  rintro i hi s ⟨ds,o3,o4,o5,o6,m,hm,hE,rfl⟩
  have hi:i<26:=hi
  refine⟨_,rfl, ?_⟩
  have hds:=hE.len
  rw[l0] at hds
  have:=D4 (okK rows W) (K26.take i)
  rw[A5] at this
  obtain⟨ds',p4,p5,p6,m',hm',hE',e⟩:=ziN rows hw hr l n m hl ⋯ W hW i o4 o5 o6 _ ds hE ⋯
  rw[S9]
  refine⟨_,e,ds',some (.int i),p4,p5,p6,m',⋯, ?_,rfl⟩
  rw[A6,ziM hi,A8,F4,t5]
  exact hE') ((25:Int)+1).toNat 0 ⟨[some (.lst l (rows.map rD)),some (.tup (W.map .int)),some (.lst n []),none,none,none,none],[some (.lst l (rows.map rD)),some (.tup (W.map .int))],n+1⟩ ⋯ ⟨[],none,none,none,none,n+1,i6 _,rfl,rfl⟩
 rw[e]
 left
 refine⟨ds,m,⋯, ?_,rfl⟩
 rw[t9 (by simp[K26])] at hE
 exact hE
def gD(g:Sg):D:= .tup [.int g.1, .tup (g.2.map .int)]
def nkG(g:Sg):NK:=[.inl (.inl (g.1:Int)), .inr (g.2.map Sum.inl)]
theorem z4c: ∀ns:List Int,z1u (ns.map D.int)=some (ns.map Sum.inl)
 |[]=>rfl
 |n::ns=>by
  have ih:=z4c ns
  erw[i7,z1u,z0x,ih]
def X7(g:Sg):z1O (gD g)=some (nkG g):=by
 unfold gD nkG
 erw[z1O,z3C,zdB,z0x,z4c]
def z2Y(h:nkG a=nkG b):a=b:=by
 obtain⟨p,W⟩:=a
 obtain⟨q,V⟩:=b
 unfold nkG at h
 erw[List.cons.injEq,Sum.inl.injEq,Sum.inr.injEq,and_true] at h
 obtain⟨h1,h2⟩:=h
 have e1:p=q:=by lia
 have e2:W=V:=by
  have: ∀(A B:List Int),(A.map Sum.inl:List Key)=B.map Sum.inl->A=B:=by
   intro A
   induction A with
   |nil=>intro B h;cases B with|nil=>rfl|cons _ _=>simp at h
   |cons x A ih=>
    intro B h
    cases B with
    |nil=>simp at h
    |cons y B=>
     erw[i7,List.cons.injEq,Sum.inl.injEq] at h
     rw[h.1,ih B h.2]
  exact this W V h2
 rw[e1,e2]
def ziP(g:Sg):dkD (nkG g)=gD g:=by
 unfold dkD nkG gD
 erw[i7,t7,nkD,z1M,B7]
 rfl
def z04(g:Sg):labs (gD g)=[]:=by
 unfold gD
 erw[labs,qq,Z9,l7]
def ksF(F:Fd):List D:=F.map λq=>gD q.1
def GV(R:Sg×List Int->D->Prop):Fd->List D->Prop
 |[],vs=>vs=[]
 |q::F,vs=> ∃v r,vs=v::r/\R q v/\labs v=[]/\GV R F r
theorem GV.labs{R:Sg×List Int->D->Prop}: ∀{F:Fd} {vs:List D},GV R F vs->qq vs=[]
 |[],vs,h=>by
  have h:vs=[]:=h
  subst h;rfl
 |q::F,vs,⟨v,r,e,_,hl,hr⟩=>by subst e;erw[qq,hl,GV.labs hr];rfl
def z5B(F:Fd):qq (ksF F)=[]:=Q6 λd hd=>by obtain⟨q,_,rfl⟩:=l5.mp hd;exact z04 _
theorem GV.snoc{R:Sg×List Int->D->Prop}(h:R q v)(hl:Mi.labs v=[]): ∀{F:Fd} {vs:List D},GV R F vs->GV R (F++[q]) (vs++[v])
 |[],vs,h'=>by
  have h':vs=[]:=h'
  subst h'
  exact⟨v,[],rfl,h,hl,rfl⟩
 |q'::F,vs,⟨v',r,e,h1,h2,hr⟩=>⟨v',r++[v],by rw[e];rfl,h1,h2,GV.snoc h hl hr⟩
theorem GV.has{R:Sg×List Int->D->Prop}: ∀{F:Fd} {vs:List D},GV R F vs->(findK (ksF F) vs (nkG g)).isSome=decide (g∈F.map (·.1))
 |[],vs,h=>by
  have h:vs=[]:=h
  subst h;rfl
 |q::F,vs,⟨v,r,e,h1,h2,hr⟩=>by
  subst e
  have ih:=GV.has (g:=g) hr
  erw[ksF,i7,findK,X7,Option.some.injEq] at ih⊢
  by_cases e:q.1=g
  .subst e;simp
  .rw[qh (λz=>e (z2Y z)),ih]
   have:g≠q.1:=λz=>e z.symm
   simp[this]
theorem GV.find{R:Sg×List Int->D->Prop}{q:Sg×List Int}: ∀{F:Fd} {vs:List D},GV R F vs->(F.map (·.1)).Nodup->q∈F->∃v,findK (ksF F) vs (nkG q.1)=some v/\R q v/\Mi.labs v=[]
 |[],vs,h,_,hm=>by cases hm
 |q'::F,vs,⟨v,r,e,h1,h2,hr⟩,hn,hm=>by
  subst e
  rw[i7,C0] at hn
  rcases m3.mp hm with rfl|hm
  .exact⟨v,by erw[ksF,i7,findK,X7,if_true],h1,h2⟩
  .obtain⟨w,f,g⟩:=GV.find hr hn.2 hm
   have ne:q'.1≠q.1:=λz=>hn.1 (z▸l5.mpr ⟨q,hm,rfl⟩)
   refine⟨w, ?_,g⟩
   erw[ksF,i7,findK,X7,Option.some.injEq] at f⊢
   rw[qh (λz=>ne (z2Y z))];exact f
def z5C(F:Fd):isT (ksF F)=true:=by cases F<;>rfl
def z5D{R:Sg×List Int->D->Prop}{F:Fd}{j:Nat}(h:GV R F vs):z0c (gD g) (.dct j (ksF F) vs) s= .ok (.bool (!decide (g∈F.map (·.1)))) s:=by
 unfold z0c
 erw[rdD,qy (z5C F),X7,h.has]
 rfl
def zbb{R:Sg×List Int->D->Prop}{F:Fd}{j:Nat}{q:Sg×List Int}(h:GV R F vs)(hn:(F.map (·.1)).Nodup)(hq:q∈F): ∃v,R q v/\Mi.labs v=[]/\∀s:Stt,z08 (.dct j (ksF F) vs) (gD q.1) s= .ok v s:=by
 obtain⟨v,f,r,l⟩:=h.find hn hq
 refine⟨v,r,l,λs=> ?_⟩
 unfold z08
 erw[rdD,qy (z5C F),X7,f]
 rfl
def z8w{R:Sg×List Int->D->Prop}{F:Fd}{j:Nat}{s:Stt}(h:GV R F vs)(hz:F.length<=100000)(hg:g∉F.map (·.1))(hv:R (g,c) v)(hl:Mi.labs v=[]):
 GV R (F++[(g,c)]) (vs++[v])/\z00 (.dct j (ksF F) vs) (gD g) v s= .nx (s.put j (.dct j (ksF (F++[(g,c)])) (vs++[v]))):=by
 refine⟨h.snoc hv hl, ?_⟩
 have ha:((ksF F).any λd=>decide (z1O d=some (nkG g)))=false:=by
  rw[N9]
  intro d hd
  obtain⟨q,hq,rfl⟩:=l5.mp hd
  rw[X7]
  erw[Option.some.injEq,decide_eq_true_eq]
  exact λz=>hg (z2Y z▸l5.mpr ⟨q,hq,rfl⟩)
 unfold z00
 erw[X7]
 rw[qy ⟨z5C F,by unfold ksF;rw[l0,zl];lia,hl,h.labs⟩]
 unfold z3D z1P
 rw[ha]
 erw[t8,if_false,ziP,ksF,t5,i7,t7]
def z9k{R:Sg×List Int->D->Prop}{j k:Nat}(h:GV R F vs)(hj:j≠k):rp (pl k d) (.dct j (ksF F) vs)= .dct j (ksF F) vs:=U2 (by
 erw[Mi.labs,z5B,h.labs,l7,m4];lia)
def zbc{ws:List D}{a k:Nat}:z67 ws (some (a:Int)) (some ((a:Int)+(k:Int)))=(ws.drop a).take k:=by
 unfold z67
 rw[show(a:Int)+(k:Int)=((a+k:Nat):Int) by lia,HT.sIx_nat,HT.sIx_nat]
 rcases T0 a ws.length with h|h
 .rw[N3 h]
  rcases T0 (a+k) ws.length with h2|h2
  .rw[N3 h2,show a+k -a=k by lia]
  .rw[O1 h2,t9 (by rw[C2];lia),t9 (by rw[C2];lia)]
 .rw[O1 h,D7 (i6 _),D7 h,u02,u02]
def zbd{a b:Nat}{A B:List Int}(hA:A.length<=2000)(hB:B.length<=2000):eqD (.lst a (A.map D.int)) (.lst b (B.map D.int)) s= .ok (.bool (decide (A=B))) s:=by
 have g: ∀(q:Nat) (L:List Int),L.length<=2000->Gd (.lst q (L.map D.int))/\(er (.lst q (L.map D.int))).depth<=1:=λq L h=>by
  have r:=z6B (n:=0) (k:=0) (l:=q) (es:=L.map D.int) (B9 _) (by simpa using h) λe he=>by
   obtain⟨i,_,rfl⟩:=l5.mp he;exact⟨rfl,by simp[er,PyData.depth]⟩
  exact⟨zaV _ r.1,r.2⟩
 have gA:=g a A hA
 have gB:=g b B hB
 rw[zi8 (by
  erw[eqC,gA.1.1,gA.1.2,gB.1.1,gB.1.2,N2,E8,decide_eq_true_eq]
  have:=u0h (er (.lst a (A.map D.int))).depth (er (.lst b (B.map D.int))).depth
  have:=gA.2
  lia)]
 congr 2
 have:=L2.za6 A B
 erw[er,z2W]
 erw[L2.dT,PyData.eqv] at this⊢
 exact this
def RP(rows:List Z6)(sn:List Int)(q:Sg×List Int)(v:D):Prop:=(q.2=[]/\v= .tup [.int 0, .non, .non])\/∃u k h,q.2=u++[k]/\go (gl rows sn) (some (0,[])) u=some h/\v= .tup [.int ((u.length:Int)+1),gD h, .int k]
def RP.c{q:Sg×List Int}(h:RP rows sn q v): ∃x y,v= .tup [.int (q.2.length:Int),x,y]:=by
 rcases h with⟨h1,rfl⟩|⟨u,k,h,h1,_,rfl⟩
 .rw[h1];exact⟨_,_,rfl⟩
 .rw[h1];exact⟨gD h, .int k,by simp⟩
def z05(sn:List Int)(p:Nat)(c:List Int)(F:Fd)(e:Ent):Fd:=if z6U sn p e=true then addF F c (e.1,(p+e.2.1.length,e.2.2)) else F
theorem z6M(sn:List Int)(p:Nat)(c:List Int): ∀(es:List Ent) (F:Fd),putF F c ((es.filter (z6U sn p)).map λe=>(e.1,((p+e.2.1.length,e.2.2):Sg)))=es.foldl (z05 sn p c) F
 |[],F=>rfl
 |e::es,F=>by
  rw[N4,<-z6M sn p c es]
  unfold z05
  cases h:z6U sn p e with
  |true=>erw[u0f,h,if_true,i7];rfl
  |false=>erw[u0f,h,t8,if_false]
def goB:MS:=(Z1 (Y1 (.nm 13) (mCB [(y4 (y0 8) (mCB [(y0 11)] X8) K1),(y0 12)] j3))
 (sIf (z9r (J4 (y4 (y0 13) (y0 3) z0c)) (J4 (y4 (mSl (y0 1) (some (y0 8)) (some (y4 (y0 8) (mCB [(y0 11)] X8) K1))) (y0 11) eqD))) (Z1 (z20 (mCB [(y4 (y4 (y4 (y0 3) (y0 7) z08) (mC (.int 0)) ixD) (mC (.int 1)) K1),(y0 7),(y0 10)] j3) (y0 3) (y0 13) z00)
 (Q8 (Q2 (y0 4) [(y0 13)] z1N))) sNx))
def foD(F:Fd):List D:=F.map λq=>gD q.1
def zd2(F:Fd):qq (foD F)=[]:=z5B F
def z4p{k:Nat}:rp (pl k d) (gD g)=gD g:=U2 (by rw[z04];exact m8)
def z2Z{j k:Nat}(h:j≠k):rp (pl k d) (.lst j (foD F))= .lst j (foD F):=by rw[z0y h,rpL_id _ λi hi=>by rw[zd2] at hi;cases hi]
def wsS(l:Nat)(rows:List Z6)(ls:Nat)(sn:List Int)(jw:Nat)(F:Fd)(vs:List D)(jf:Nat)(C5:D)(i:Int)(g:Sg)(o10 o11 o12 o13:Option D):Qq:=[some (.lst l (rows.map rD)),some (.lst ls (sn.map .int)),some (gD (0,[])),some (.dct jw (ksF F) vs),some (.lst jf (foD F)),some C5,some (.int i),some (gD g),some (.int g.1),some (.tup (g.2.map .int)),o10,o11,o12,o13]
def zd3(h:q∈F):q∈addF F c g:=by
 unfold addF
 split
 .exact h
 .exact i8 _ h
def zbe{p:Nat}(h:q∈F):q∈z05 sn p c F e:=by
 unfold z05
 split
 .exact zd3 h
 .exact h
def zd4{p:Nat}{F:Fd}(h:(F.map (·.1)).Nodup):((z05 sn p c F e).map (·.1)).Nodup:=by
 unfold z05
 split
 .exact zb9 h
 .exact h
def zbf{p:Nat}{F:Fd}:(z05 sn p c F e).length<=F.length+1:=by
 unfold z05 addF
 split
 .split<;>simp
 .lia
def zbg{sn:List Int}{p:Nat}{e:Ent}:decide ((sn.drop p).take e.2.1.length=e.2.1)=z6U sn p e:=rfl
def ziQ rows sn(hsn:sn.length<=2000) l ls jw jf n a C5 i(g:Sg) c(hgo:go (gl rows sn) (some (0,[])) c=some g)(F:Fd) vs(hV:GV (RP rows sn) F vs)(hn:(F.map (·.1)).Nodup)(hg:(g,c)∈F)(hz:F.length<=90000)(e:Ent)(he:e.2.1.length<=2000) o13(hwf:jw≠jf)(hlw:l≠jw)(hlf:l≠jf)(hsw:ls≠jw)(hsf:ls≠jf)(haw:a≠jw)(haf:a≠jf)(h5w: ∀d,rp (pl jw d) C5=C5)(h5f: ∀d,rp (pl jf d) C5=C5)(h13w: ∀d,o13.map (rp (pl jw d))=o13)(tm:Qq)(htw: ∀d,rpO (pl jw d) tm=tm)(htf: ∀d,rpO (pl jf d) tm=tm):
 ∃vs' p13 n',n<=n'/\(∀k d,p13.map (rp (pl k d))=p13)/\GV (RP rows sn) (z05 sn g.1 c F e) vs'/\goB ⟨wsS l rows ls sn jw F vs jf C5 i g (some (.int e.1)) (some (.lst a (e.2.1.map .int))) (some (.tup (e.2.2.map .int))) o13,tm,n⟩= .nx ⟨wsS l rows ls sn jw (z05 sn g.1 c F e) vs' jf C5 i g (some (.int e.1)) (some (.lst a (e.2.1.map .int))) (some (.tup (e.2.2.map .int))) p13,tm,n'⟩:=by
 have eg:D.tup [.int ((g.1:Int)+((e.2.1.map D.int).length:Int)), .tup (e.2.2.map .int)]=gD (g.1+e.2.1.length,e.2.2):=by
  unfold gD
  rw[l0]
  erw[u0i]
 have fgD: ∀(k:Nat) (d:D) (h:Sg),rp (pl k d) (gD h)=gD h:=λk d h=>z4p
 unfold goB wsS
 left
 rw[eg,z5D hV]
 by_cases hin:((g.1+e.2.1.length,e.2.2):Sg)∈F.map (·.1)
 .have es:z05 sn g.1 c F e=F:=by
   unfold z05 addF
   rw[qy hin];split<;>rfl
  rw[es]
  erw[hin,decide_true,D6]
  left
  exact⟨vs,some (gD (g.1+e.2.1.length,e.2.2)),n,i6 _,λk d=>by rw[i9,fgD],hV,rfl⟩
 .erw[hin,decide_false,E4]
  left
  rw[z5J,zbc,z7D,z7C,zbd (by rw[A5,C2];lia) he,zbg]
  cases hf:z6U sn g.1 e with
  |false=>
   have es:z05 sn g.1 c F e=F:=by unfold z05;rw[qh (by rw[hf];decide)]
   rw[es]
   left
   exact⟨vs,some (gD (g.1+e.2.1.length,e.2.2)),n+1,⋯,λk d=>by rw[i9,fgD],hV,rfl⟩
  |true=>
   have es:z05 sn g.1 c F e=F++[((g.1+e.2.1.length,e.2.2),c++[e.1])]:=by
    unfold z05 addF
    rw[qy hf,qh hin]
   rw[es]
   obtain⟨v,hv,hvl,ev⟩:=zbb (j:=jw) hV hn hg
   obtain⟨x,y,rfl⟩:=hv.c
   left
   rw[ev]
   left
   have ep:=λs:Stt=>z8w (j:=jw) (s:=s) (c:=c++[e.1]) (v:= .tup [.int ((c.length:Int)+1),gD g, .int e.1]) hV ⋯ hin (.inr ⟨c,e.1,g,rfl,hgo,rfl⟩) (by erw[Mi.labs,qq,z04,l7])
   rw[(ep _).2]
   left
   erw[Z7 hlw,W3 hsw,fgD,z35,z2Z (show jf≠jw by lia),h5w,htw,W3 haw,Y8]
   left
   erw[z2Z (show jf≠jw by lia)]
   rw[Mi.y_app ⟨by unfold foD;rw[l0,zl];lia,by rw[z04];exact m8⟩]
   have efo:foD F++[gD (g.1+e.2.1.length,e.2.2)]=foD (F++[((g.1+e.2.1.length,e.2.2),c++[e.1])]):=by simp[foD]
   rw[efo]
   left
   erw[Z7 hlf,W3 hsf,fgD,z9k (ep ⟨[],[],0⟩).1 hwf,h5f,htf,W3 haf,Y8]
   exact⟨_,some (gD (g.1+e.2.1.length,e.2.2)),n+1,⋯,λk d=>by rw[i9,fgD],(ep ⟨[],[],0⟩).1,rfl⟩
theorem EnD.at{lo hi:Nat}: ∀{es:List Ent} {ds:List D} {i:Nat} {d:D},EnD lo hi es ds->ds[i]? =some d->∃e a,es[i]? =some e/\d= .tup [.int e.1, .lst a (e.2.1.map .int), .tup (e.2.2.map .int)]/\lo<=a/\a<hi
 |[],ds,i,d,h,hd=>by
  have h:ds=[]:=h
  subst h;cases hd
 |e::es,ds,i,d,⟨a,r,h,h1,h2,hr⟩,hd=>by
  subst h
  cases i with
  |zero=>cases hd;exact⟨e,a,rfl,rfl,h1,h2⟩
  |succ i=>
   obtain⟨e',a',q1,q2,q3⟩:=EnD.at (es:=es) (ds:=r) (i:=i) hr (by simpa using hd)
   exact⟨e',a',by simpa using q1,q2,q3⟩
def z2t: ∀W,(z03 rows W).length<=26:=λW=>by
 unfold z03
 rw[l0]
 exact C7 (D4 _ _) (by simp[K26])
def zbh(hw: ∀r∈rows,Wf r){W:List Int}(hW:W.length<=100): ∀e∈z03 rows W,e.2.1.length<=303:=λe he=>by
 unfold z03 at he
 obtain⟨k,_,rfl⟩:=l5.mp he
 have:=(z2X hw 1000 (W++[k])).1
 rw[m5,D3] at this
 show(Y2 rows 1000 (W++[k])).1.length<=303
 lia
theorem z8x{p:Nat}: ∀(es:List Ent) (F:Fd),(F.map (·.1)).Nodup->((es.foldl (z05 sn p c) F).map (·.1)).Nodup/\(∀q∈F,q∈es.foldl (z05 sn p c) F)/\(es.foldl (z05 sn p c) F).length<=F.length+es.length
 |[],F,h=>⟨h,λ_ h=>h,i6 _⟩
 |e::es,F,h=>by
  obtain⟨h1,h2,h3⟩:=z8x es (z05 sn p c F e) (zd4 h)
  have:=zbf (sn:=sn) (p:=p) (c:=c) (F:=F) (e:=e)
  exact⟨h1,λq hq=>h2 q (zbe hq),by rw[N4,A4];lia⟩
def enB:MS:=V8 (j6 (y4 (y0 5) (y0 9) z08)) (.tp [(.nm 10),(.nm 11),(.nm 12)]) goB
def ziR rows(hw: ∀r∈rows,Wf r) sn(hsn:sn.length<=2000) l ls jw jf jp n FK vp(hD:DV rows (jp+1) n FK vp) i(g:Sg)(hgF:g.2∈FK)(hg2:g.2.length<=100) c(hgo:go (gl rows sn) (some (0,[])) c=some g)(F:Fd) vs(hV:GV (RP rows sn) F vs)(hn:(F.map (·.1)).Nodup)(hg:(g,c)∈F)(hz:F.length<=80000) o10 o11 o12 o13(hwf:jw≠jf)(hlw:l≠jw)(hlf:l≠jf)(hsw:ls≠jw)(hsf:ls≠jf)(hpw:jw<jp)(hpf:jf<jp)(hpn:jp<n)(w10:Lo jp o10)(w11:Lo jp o11)(w12:Lo jp o12)(w13:Lo jp o13):
 ∃vs' p10 p11 p12 p13 n',n<=n'/\Lo jp p10/\Lo jp p11/\Lo jp p12/\Lo jp p13/\GV (RP rows sn) ((z03 rows g.2).foldl (z05 sn g.1 c) F) vs'/\enB ⟨wsS l rows ls sn jw F vs jf (.dct jp (FK.map kd) vp) i g o10 o11 o12 o13,[some (.lst l (rows.map rD)),some (.lst ls (sn.map .int))],n⟩= .nx ⟨wsS l rows ls sn jw ((z03 rows g.2).foldl (z05 sn g.1 c) F) vs' jf (.dct jp (FK.map kd) vp) i g p10 p11 p12 p13,[some (.lst l (rows.map rD)),some (.lst ls (sn.map .int))],n'⟩:=by
 obtain⟨v,fv,q,ds,rfl,q1,q2,hE⟩:=hD.find hgF
 have ed: ∀s:Stt,z08 (.dct jp (FK.map kd) vp) (.tup (g.2.map .int)) s= .ok (.lst q ds) s:=λs=>by
  have hT:isT (FK.map kd)=true:=by cases FK<;>rfl
  unfold z08
  erw[rdD,qy hT,z1m,fv]
  rfl
 have h5: ∀k,k<jp->∀d,rp (pl k d) (.dct jp (FK.map kd) vp)= .dct jp (FK.map kd) vp:=λk hk d=>z3d hD ⋯ (.inl ⋯)
 have hq: ∀k,k<jp->∀d,rp (pl k d) (.lst q ds)= .lst q ds:=λk hk d=>U2 λh=>by
  erw[Mi.labs,m3] at h
  rcases h with h|h
  .lia
  .have:=hE.labs k h;lia
 have hds:=hE.len
 have h26:=z2t (rows:=rows) g.2
 unfold enB
 have hi:j6 (y4 (y0 5) (y0 9) z08) ⟨wsS l rows ls sn jw F vs jf (.dct jp (FK.map kd) vp) i g o10 o11 o12 o13,[some (.lst l (rows.map rD)),some (.lst ls (sn.map .int))],n⟩= .ok kLst ⟨wsS l rows ls sn jw F vs jf (.dct jp (FK.map kd) vp) i g o10 o11 o12 o13,some (.lst q ds)::[some (.lst l (rows.map rD)),some (.lst ls (sn.map .int))],n⟩:=z0r (by
  unfold wsS
  left
  rw[ed])
 rw[z46,hi,z2a]
 obtain⟨s',e,vs',p10,p11,p12,p13,m,hm,k10,k11,k12,k13,hV',rfl⟩:=U9 (P:=λt s=> ∃(vs':List D) (p10 p11 p12 p13:Option D) (m:Nat),n<=m/\Lo jp p10/\Lo jp p11/\Lo jp p12/\Lo jp p13/\GV (RP rows sn) (((z03 rows g.2).take t).foldl (z05 sn g.1 c) F) vs'/\s=⟨wsS l rows ls sn jw (((z03 rows g.2).take t).foldl (z05 sn g.1 c) F) vs' jf (.dct jp (FK.map kd) vp) i g p10 p11 p12 p13,some (.lst q ds)::[some (.lst l (rows.map rD)),some (.lst ls (sn.map .int))],m⟩) (l:=q) (ds:=ds) (g:= .tp [(.nm 10),(.nm 11),(.nm 12)]) (tm:=[some (.lst l (rows.map rD)),some (.lst ls (sn.map .int))]) (b:=goB)
  (by rintro t s ⟨_,_,_,_,_,_,_,_,_,_,_,_,rfl⟩;rfl) (by
   rintro t d hd s ⟨vs',p10,p11,p12,p13,m,hm,_,_,_,k13,hV',rfl⟩
   obtain⟨en,a,he,rfl,a1,a2⟩:=hE.at hd
   refine⟨_,rfl, ?_⟩
   obtain⟨i1,i2,i3⟩:=z8x (sn:=sn) (p:=g.1) (c:=c) ((z03 rows g.2).take t) F hn
   rw[A5] at i3
   obtain⟨vs2,q13,m',hm',z13,hV2,e⟩:=ziQ rows sn hsn l ls jw jf m a (.dct jp (FK.map kd) vp) i g c hgo _ vs' hV' i1 (i2 _ hg) ⋯ en (by have:=zbh hw hg2 en (List.mem_of_getElem? he);lia) p13 hwf hlw hlf hsw hsf ⋯ ⋯ (h5 jw hpw) (h5 jf hpf) (λd=>k13 jw ⋯ d) (some (.lst q ds)::[some (.lst l (rows.map rD)),some (.lst ls (sn.map .int))]) (λd=>by erw[Z0,Z8,i9,hq jw hpw,Z7 hlw,W3 hsw]) (λd=>by erw[Z0,Z8,i9,hq jf hpf,Z7 hlf,W3 hsf])
   refine⟨_,e,vs2,some (.int en.1),some (.lst a (en.2.1.map .int)),some (.tup (en.2.2.map .int)),q13,m',⋯,Lo.int,Lo.li ⋯,Lo.tI,λk _ d=>z13 k d, ?_, ?_⟩
   .rw[A6,he,A8,D9];exact hV2
   .rw[A6,he,A8,D9];rfl) ds.length 0 ⟨wsS l rows ls sn jw F vs jf (.dct jp (FK.map kd) vp) i g o10 o11 o12 o13,some (.lst q ds)::[some (.lst l (rows.map rD)),some (.lst ls (sn.map .int))],n⟩ ⋯ ⟨vs,o10,o11,o12,o13,n,i6 _,w10,w11,w12,w13,hV,rfl⟩
 dsimp only
 rw[show kLst.len (some (.lst q ds)::[some (.lst l (rows.map rD)),some (.lst ls (sn.map D.int))])=ds.length from rfl,e,px1]
 rw[t9 ⋯] at hV'⊢
 exact⟨vs',p10,p11,p12,p13,m,hm,k10,k11,k12,k13,hV',rfl⟩
def inB:MS:=sIf (J4 (y4 (y0 9) (y0 5) z0c)) (z20 (Z2 W5 [(y0 0),(y0 9)]) (y0 5) (y0 9) z54) sNx
def wbM:MS:=(Z1 (Y1 (.nm 7) (y4 (y0 4) (y0 6) ixD))
 (Z1 (Y1 (.tp [(.nm 8),(.nm 9)]) (y0 7))
 (Z1 inB
 (Z1 enB
 (z94 6 (mC (.int 1)))))))
def wtS(l:Nat)(rows:List Z6)(ls:Nat)(sn:List Int)(jw:Nat)(F:Fd)(vs:List D)(jf:Nat)(jp:Nat)(FK:List (List Int))(vp:List D)(i:Int)(o7 o8 o9 o10 o11 o12 o13:Option D):Qq:=[some (.lst l (rows.map rD)),some (.lst ls (sn.map .int)),some (gD (0,[])),some (.dct jw (ksF F) vs),some (.lst jf (foD F)),some (.dct jp (FK.map kd) vp),some (.int i),o7,o8,o9,o10,o11,o12,o13]
def zl1{F:Fd}{i:Nat}{q:Sg×List Int}(h:F[i]? =some q):atI (foD F) (i:Int)=some (gD q.1):=z4C ⋯ (by simp[foD,h])
def zbi{lo hi j:Nat}{FK:List (List Int)}{W:List Int}(h:DV rows lo hi FK vs):z0c (.tup (W.map .int)) (.dct j (FK.map kd) vs) s= .ok (.bool (!decide (W∈FK))) s:=by
 have hT:isT (FK.map kd)=true:=by cases FK<;>rfl
 unfold z0c
 erw[rdD,qy hT,z1m,h.has]
 rfl
def ziS{i n:Nat}{a:Int}(h:σ[i]? =some (some (.int a))):z94 i m ⟨σ,tm,n⟩=z1o m (zhO i a) ⟨σ,tm,n⟩:=by
 unfold z94;erw[h]
def ziT{i:Nat}{a b:Int}:zhO i a (.int b) s= .nx {s with σ:=s.σ.set i (some (.int (a+b)))}:=rfl
def zl2 rows(hw: ∀r∈rows,Wf r)(hr:rows.length<1000) sn(hsn:sn.length<=2000) l ls jw jf jp n(hlw:l<jw)(hsw:ls<jw)(hwf:jw<jf)(hfp:jf<jp)(hpn:jp<n) FK vp(hFK:FK.length<=9000)(hD:DV rows (jp+1) n FK vp) i(q:Sg×List Int)(F:Fd) vs(hV:GV (RP rows sn) F vs)(hn:(F.map (·.1)).Nodup)(hq:F[i]? =some q)(hgo:go (gl rows sn) (some (0,[])) q.2=some q.1)(hg2:q.1.2.length<=100)(hz:F.length<=80000) o7 o8 o9 o10 o11 o12 o13(w10:Lo jp o10)(w11:Lo jp o11)(w12:Lo jp o12)(w13:Lo jp o13):
 ∃FK' vp' vs' p7 p8 p9 p10 p11 p12 p13 n',n<=n'/\FK'.length<=FK.length+1/\DV rows (jp+1) n' FK' vp'/\Lo jp p10/\Lo jp p11/\Lo jp p12/\Lo jp p13/\GV (RP rows sn) (proc (gl rows sn) F i) vs'/\wbM ⟨wtS l rows ls sn jw F vs jf jp FK vp i o7 o8 o9 o10 o11 o12 o13,[some (.lst l (rows.map rD)),some (.lst ls (sn.map .int))],n⟩= .nx ⟨wtS l rows ls sn jw (proc (gl rows sn) F i) vs' jf jp FK' vp' (i+1:Nat) p7 p8 p9 p10 p11 p12 p13,[some (.lst l (rows.map rD)),some (.lst ls (sn.map .int))],n'⟩:=by
 have ep:proc (gl rows sn) F i=(z03 rows q.1.2).foldl (z05 sn q.1.1 q.2) F:=by
  unfold proc
  rw[hq]
  exact z6M sn q.1.1 q.2 (z03 rows q.1.2) F
 rw[ep]
 have fgD: ∀(k:Nat) (d:D) (h:Sg),rp (pl k d) (gD h)=gD h:=λk d h=>z4p
 have key: ∃FK' vp' n1,n<=n1/\FK'.length<=FK.length+1/\q.1.2∈FK'/\DV rows (jp+1) n1 FK' vp'/\inB ⟨wsS l rows ls sn jw F vs jf (.dct jp (FK.map kd) vp) i q.1 o10 o11 o12 o13,[some (.lst l (rows.map rD)),some (.lst ls (sn.map .int))],n⟩= .nx ⟨wsS l rows ls sn jw F vs jf (.dct jp (FK'.map kd) vp') i q.1 o10 o11 o12 o13,[some (.lst l (rows.map rD)),some (.lst ls (sn.map .int))],n1⟩:=by
  by_cases hin:q.1.2∈FK
  .refine⟨FK,vp,n,i6 _,⋯,hin,hD, ?_⟩
   unfold wsS inB
   left
   rw[zbi hD]
   erw[hin,decide_true,D6]
   left
  .obtain⟨ds,n1,hn1,hE,e1⟩:=ziO rows hw hr l n ⋯ q.1.2 hg2
   have hvl:VL rows (jp+1) n1 q.1.2 (.lst n ds):=⟨n,ds,rfl,⋯,⋯,hE.mono ⋯ (i6 _)⟩
   obtain⟨vp',hv',e2⟩:=zdT (j:=jp) (s:=⟨wsS l rows ls sn jw F vs jf (.dct jp (FK.map kd) vp) i q.1 o10 o11 o12 o13,[some (.lst l (rows.map rD)),some (.lst ls (sn.map .int))],n1⟩) ⋯ (λh=>by have:=hvl.labs jp h;lia) hvl (hD.mono ⋯)
   refine⟨z4J FK q.1.2,vp',n1,⋯,z5t,z5s.mpr (.inr rfl),hv', ?_⟩
   unfold wsS at e2⊢
   unfold inB
   left
   rw[zbi hD]
   erw[hin,decide_false,E4]
   left
   rw[e1]
   left
   rw[e2]
   erw[z1F,Z0,Z8,i9,Z7 (show l≠jp by lia),W3 (show ls≠jp by lia),fgD,z9k hV (show jw≠jp by lia),z2Z (show jf≠jp by lia),z35,J8,z2q,w10 jp (i6 _),w11 jp (i6 _),w12 jp (i6 _),w13 jp (i6 _)]
 obtain⟨FK',vp',n1,hn1,lFK,hm,hD',e1⟩:=key
 obtain⟨vs',p10,p11,p12,p13,n2,hn2,x10,x11,x12,x13,hV',e2⟩:=ziR rows hw sn hsn l ls jw jf jp n1 FK' vp' hD' i q.1 hm hg2 q.2 hgo F vs hV hn (List.mem_of_getElem? hq) hz o10 o11 o12 o13 ⋯ ⋯ ⋯ ⋯ ⋯ ⋯ ⋯ ⋯ w10 w11 w12 w13
 refine⟨FK',vp',vs',some (gD q.1),some (.int q.1.1),some (.tup (q.1.2.map .int)),p10,p11,p12,p13,n2,⋯,lFK,hD'.mono hn2,x10,x11,x12,x13,hV', ?_⟩
 have hgD:gD q.1= .tup [.int q.1.1, .tup (q.1.2.map .int)]:=rfl
 unfold wsS at e1 e2
 rw[hgD] at e1 e2
 unfold wbM wtS
 left
 rw[zl1 hq,hgD]
 left
 rw[e1]
 left
 rw[e2]
 left
 rw[ziS rfl]
 left
 rw[ziT]
 rfl
def F0:Fd:=[((0,[]),[])]
def zd5{gl:Sg->List (Int×Sg)}{i:Nat}{F:Fd}:runF' gl (i+1) 0 F=proc gl (runF' gl i 0 F) i:=by
 rw[z2b]
 show runF' gl 0 (0+i+1) (proc gl (runF' gl i 0 F) (0+i))=_
 rw[N8];rfl
def z6N(hw: ∀r∈rows,Wf r){sn:List Int} n:((runF' (gl rows sn) n 0 F0).map (·.1)).Nodup/\∀q∈runF' (gl rows sn) n 0 F0,Ok rows sn.length q.1/\go (gl rows sn) (some (0,[])) q.2=some q.1:=
 z5w (gl:=gl rows sn) (Q:=λq=>Ok rows sn.length q.1/\go (gl rows sn) (some (0,[])) q.2=some q.1) (λq h x hx=>⟨ziD hw h.1 x hx,by
  show go (gl rows sn) (some (0,[])) (q.2++[x.1])=some x.2
  rw[z8s,h.2]
  exact z8t (z1W rows sn) hx⟩) n 0 F0 (by simp[F0]) (λq hq=>by
  rw[m4.mp hq]
  exact⟨⟨B9 _,by simp[J1]⟩,rfl⟩)
def zbj(F:Fd):(foD F).length=F.length:=by simp[foD]
def z9l rows(hw: ∀r∈rows,Wf r)(hr:rows.length<=40) sn(hsn:sn.length<=24) l ls jw jf jp(hlw:l<jw)(hsw:ls<jw)(hwf:jw<jf)(hfp:jf<jp) N(hN:N<=5000)(hend:(runF' (gl rows sn) N 0 F0).length=N)(hgo: ∀i,i<N->i<(runF' (gl rows sn) i 0 F0).length):
 ∀d i fuel,i+d=N->d<fuel->∀FK vp vs o7 o8 o9 o10 o11 o12 o13 n,jp<n->FK.length<=i->DV rows (jp+1) n FK vp->GV (RP rows sn) (runF' (gl rows sn) i 0 F0) vs->Lo jp o10->Lo jp o11->Lo jp o12->Lo jp o13->
 ∃(FK':List (List Int)) (vp' vs':List D) (p7 p8 p9 p10 p11 p12 p13:Option D) (n':Nat),n<=n'/\GV (RP rows sn) (runF' (gl rows sn) N 0 F0) vs'/\Y5 (J4 (y4 (y0 6) (mCB [(y0 4)] X8) ltD)) wbM fuel ⟨wtS l rows ls sn jw (runF' (gl rows sn) i 0 F0) vs jf jp FK vp i o7 o8 o9 o10 o11 o12 o13,[some (.lst l (rows.map rD)),some (.lst ls (sn.map .int))],n⟩= .nx ⟨wtS l rows ls sn jw (runF' (gl rows sn) N 0 F0) vs' jf jp FK' vp' N p7 p8 p9 p10 p11 p12 p13,[some (.lst l (rows.map rD)),some (.lst ls (sn.map .int))],n'⟩:=by
 intro d
 induction d with
 |zero=>
  intro i fuel hi hf FK vp vs o7 o8 o9 o10 o11 o12 o13 n hn hK hD hV _ _ _ _
  have hi:i=N:=by lia
  subst hi
  obtain⟨m,rfl⟩: ∃m,fuel=m+1:=⟨fuel - 1,⋯⟩
  refine⟨FK,vp,vs,o7,o8,o9,o10,o11,o12,o13,n,i6 _,hV, ?_⟩
  unfold Y5 wtS
  left
  have e:decide ((i:Int)<((foD (runF' (gl rows sn) i 0 F0)).length:Int))=false:=by
   rw[zbj,hend];simp
  rw[e]
  rfl
 |succ d ih=>
  intro i fuel hi hf FK vp vs o7 o8 o9 o10 o11 o12 o13 n hn hK hD hV w10 w11 w12 w13
  obtain⟨m,rfl⟩: ∃m,fuel=m+1:=⟨fuel - 1,⋯⟩
  have hlt:=hgo i ⋯
  obtain⟨h1,h2⟩:=z6N hw (sn:=sn) i
  have hb:=z2s hw hr hsn i
  have hq:=List.getElem?_eq_getElem hlt
  have ho:=h2 _ (A9 hlt)
  have hs:=z0D hw ho.1.2
  obtain⟨FK',vp',vs',p7,p8,p9,p10,p11,p12,p13,n',hn',hK',hD',x10,x11,x12,x13,hV',e1⟩:=zl2 rows hw ⋯ sn ⋯ l ls jw jf jp n hlw hsw hwf hfp hn FK vp ⋯ hD i _ _ vs hV h1 hq ho.2 ⋯ (by show(runF' (gl rows sn) i 0 [((0,[]),[])]).length<=80000;lia) o7 o8 o9 o10 o11 o12 o13 w10 w11 w12 w13
  rw[<-zd5] at hV' e1
  obtain⟨FK2,vp2,vs2,q7,q8,q9,q10,q11,q12,q13,n2,hn2,hV2,e2⟩:=ih (i+1) m ⋯ ⋯ FK' vp' vs' p7 p8 p9 p10 p11 p12 p13 n' ⋯ ⋯ hD' hV' x10 x11 x12 x13
  refine⟨FK2,vp2,vs2,q7,q8,q9,q10,q11,q12,q13,n2,⋯,hV2, ?_⟩
  have e:decide ((i:Int)<((foD (runF' (gl rows sn) i 0 F0)).length:Int))=true:=by
   rw[zbj,decide_eq_true_iff];lia
  unfold Y5
  have ec:J4 (y4 (y0 6) (mCB [(y0 4)] X8) ltD) ⟨wtS l rows ls sn jw (runF' (gl rows sn) i 0 F0) vs jf jp FK vp i o7 o8 o9 o10 o11 o12 o13,[some (.lst l (rows.map rD)),some (.lst ls (sn.map .int))],n⟩= .ok true ⟨wtS l rows ls sn jw (runF' (gl rows sn) i 0 F0) vs jf jp FK vp i o7 o8 o9 o10 o11 o12 o13,[some (.lst l (rows.map rD)),some (.lst ls (sn.map .int))],n⟩:=by
   unfold wtS
   left
   rw[e]
  erw[z1o,ec]
  show(match wbM ⟨wtS l rows ls sn jw (runF' (gl rows sn) i 0 F0) vs jf jp FK vp i o7 o8 o9 o10 o11 o12 o13,[some (.lst l (rows.map rD)),some (.lst ls (sn.map .int))],n⟩ with
   | .nx s'=>Y5 (J4 (y4 (y0 6) (mCB [(y0 4)] X8) ltD)) wbM m s'
   | .ct s'=>Y5 (J4 (y4 (y0 6) (mCB [(y0 4)] X8) ltD)) wbM m s'
   | .bk s'=> .nx s'
   | .rt d s'=> .rt d s'
   | .ex d s'=> .ex d s'
   | .no=> .no)=_
  rw[e1]
  exact e2
def g0:D.tup [.int 0, .tup []]=gD (0,[]):=rfl
def zfO rows(hw: ∀r∈rows,Wf r)(hr:rows.length<=40) sn(hsn:sn.length<=24) l ls n(hl:l<n)(hs:ls<n) N(hN:N<=5000)(hend:(runF' (gl rows sn) N 0 F0).length=N)(hgo: ∀i,i<N->i<(runF' (gl rows sn) i 0 F0).length):
 ∃vs n',n<n'/\GV (RP rows sn) (runF' (gl rows sn) N 0 F0) vs/\z0n [.lst l (rows.map rD), .lst ls (sn.map .int)] n= .ok (.dct n (ksF (runF' (gl rows sn) N 0 F0)) vs) [.lst l (rows.map rD), .lst ls (sn.map .int)] n':=by
 unfold z0n
 have e0:z28=(Z1 (Y1 (.nm 2) (mCB [(mC (.int 0)),(mCB [] j3)] j3))
  (Z1 (Y1 (.nm 3) (K6 (y0 2) (mCB [(mC (.int 0)),(mC .non),(mC .non)] j3)))
  (Z1 (Y1 (.nm 4) (mCB [(y0 2)] lstM))
  (Z1 (Y1 (.nm 5) z2G)
  (Z1 (Y1 (.nm 6) (mC (.int 0)))
  (Z1 (z0A (λ_=>100000) (J4 (y4 (y0 6) (mCB [(y0 4)] X8) ltD)) wbM)
  (K5 (y0 3)))))))):=rfl
 rw[e0]
 left
 have ed:K6 (y0 2) (mCB [(mC (.int 0)),(mC .non),(mC .non)] j3) ⟨[some (.lst l (rows.map rD)),some (.lst ls (sn.map .int)),some (.tup [.int 0, .tup []]),none,none,none,none,none,none,none,none,none,none,none],[some (.lst l (rows.map rD)),some (.lst ls (sn.map .int))],n⟩= .ok (.dct n (ksF F0) [.tup [.int 0, .non, .non]]) ⟨[some (.lst l (rows.map rD)),some (.lst ls (sn.map .int)),some (.tup [.int 0, .tup []]),none,none,none,none,none,none,none,none,none,none,none],[some (.lst l (rows.map rD)),some (.lst ls (sn.map .int))],n+1⟩:=by
  have e:K6 (y0 2) (mCB [(mC (.int 0)),(mC .non),(mC .non)] j3) ⟨[some (.lst l (rows.map rD)),some (.lst ls (sn.map .int)),some (.tup [.int 0, .tup []]),none,none,none,none,none,none,none,none,none,none,none],[some (.lst l (rows.map rD)),some (.lst ls (sn.map .int))],n⟩= .ok (.dct n (ksF F0) [.tup [.int 0, .non, .non]]) ⟨rpO (pl n (.dct n (ksF F0) [.tup [.int 0, .non, .non]])) [some (.lst l (rows.map rD)),some (.lst ls (sn.map .int)),some (.tup [.int 0, .tup []]),none,none,none,none,none,none,none,none,none,none,none],rpO (pl n (.dct n (ksF F0) [.tup [.int 0, .non, .non]])) [some (.lst l (rows.map rD)),some (.lst ls (sn.map .int))],n+1⟩:=by
   unfold K6
   rfl
  rw[e]
  erw[Z0,Z8,i9,C9,Z7 (show l≠n by lia),W3 (show ls≠n by lia),zaR,U8,V3,J8]
 rw[ed]
 left
 have eD: ∀σ tm,z2G ⟨σ,tm,n+1+1⟩= .ok (.dct (n+1+1) [] []) ⟨σ,tm,n+1+1+1⟩:=λ_ _=>rfl
 rw[eD]
 left
 rw[z6F]
 obtain⟨FK',vp',vs',p7,p8,p9,p10,p11,p12,p13,n',hn',hV,e⟩:=z9l rows hw hr sn hsn l ls n (n+1) (n+1+1) hl hs ⋯ ⋯ N hN hend hgo N 0 100000 ⋯ ⋯ [] [] [.tup [.int 0, .non, .non]] none none none none none none none (n+1+1+1) ⋯ (i6 _) rfl ⟨_,[],rfl, .inl ⟨rfl,rfl⟩,rfl,rfl⟩ Lo.no Lo.no Lo.no Lo.no
 unfold wtS at e
 have ee:=e
 refine⟨vs',n',⋯,hV, ?_⟩
 have es:(⟨[some (.lst l (rows.map rD)),some (.lst ls (sn.map .int)),some (.tup [.int 0, .tup []]),some (.dct n (ksF F0) [.tup [.int 0, .non, .non]]),some (.lst (n+1) [.tup [.int 0, .tup []]]),some (.dct (n+1+1) [] []),some (.int 0),none,none,none,none,none,none,none],[some (.lst l (rows.map rD)),some (.lst ls (sn.map .int))],n+1+1+1⟩:Stt)=⟨[some (.lst l (rows.map rD)),some (.lst ls (sn.map .int)),some (gD (0,[])),some (.dct n (ksF (runF' (gl rows sn) 0 0 F0)) [.tup [.int 0, .non, .non]]),some (.lst (n+1) (foD (runF' (gl rows sn) 0 0 F0))),some (.dct (n+1+1) (([]:List (List Int)).map kd) []),some (.int ((0:Nat):Int)),none,none,none,none,none,none,none],[some (.lst l (rows.map rD)),some (.lst ls (sn.map .int))],n+1+1+1⟩:=rfl
 rw[es,e]
 left
def gsD(gs:List (Int×Sg)):List D:=gs.map λx=> .tup [.int x.1,gD x.2]
def z8y(gs:List (Int×Sg)):qq (gsD gs)=[]:=Q6 λd hd=>by
 obtain⟨x,_,rfl⟩:=l5.mp hd
 erw[Mi.labs,qq,z04,l7]
def gOf(p:Nat)(e:Ent):Int×Sg:=(e.1,(p+e.2.1.length,e.2.2))
def lgB:MS:=(sIf (J4 (y4 (mSl (y0 1) (some (y0 2)) (some (y4 (y0 2) (mCB [(y0 6)] X8) K1))) (y0 6) eqD)) (Q8 (Q2 (y0 4) [(mCB [(y0 5),(mCB [(y4 (y0 2) (mCB [(y0 6)] X8) K1),(y0 7)] j3)] j3)] z1N)) sNx)
def z5E rows(hw: ∀r∈rows,Wf r) sn(hsn:sn.length<=2000) ls js n(hls:ls<n)(hjs:js<n) FK vp(hD:DV rows (js+1) n FK vp)(g:Sg)(hgF:g.2∈FK)(hg2:g.2.length<=100):
 ∃n',n<n'/\V1 [.dct js (FK.map kd) vp, .lst ls (sn.map .int), .int g.1, .tup (g.2.map .int)] n= .ok (.lst n (gsD (W9 rows sn g))) [.dct js (FK.map kd) vp, .lst ls (sn.map .int), .int g.1, .tup (g.2.map .int)] n':=by
 obtain⟨v,fv,q,ds,rfl,q1,q2,hE⟩:=hD.find hgF
 have ed: ∀s:Stt,z08 (.dct js (FK.map kd) vp) (.tup (g.2.map .int)) s= .ok (.lst q ds) s:=λs=>by
  have hT:isT (FK.map kd)=true:=by cases FK<;>rfl
  unfold z08
  erw[rdD,qy hT,z1m,fv]
  rfl
 have hds:=hE.len
 have h26:=z2t (rows:=rows) g.2
 have fD: ∀d,rp (pl n d) (.dct js (FK.map kd) vp)= .dct js (FK.map kd) vp:=λd=>z3d hD ⋯ (.inr (i6 _))
 have fq: ∀d,rp (pl n d) (.lst q ds)= .lst q ds:=λd=>U2 λh=>by
  erw[Mi.labs,m3] at h
  rcases h with h|h
  .lia
  .have:=hE.labs n h;lia
 unfold V1
 have e0:z42=(Z1 (Y1 (.nm 4) (mCB [] lstM))
  (Z1 (V8 (j6 (y4 (y0 0) (y0 3) z08)) (.tp [(.nm 5),(.nm 6),(.nm 7)]) lgB)
  (K5 (y0 4)))):=rfl
 rw[e0]
 left
 have hi:j6 (y4 (y0 0) (y0 3) z08) ⟨[some (.dct js (FK.map kd) vp),some (.lst ls (sn.map .int)),some (.int g.1),some (.tup (g.2.map .int)),some (.lst n []),none,none,none],[some (.dct js (FK.map kd) vp),some (.lst ls (sn.map .int)),some (.int g.1),some (.tup (g.2.map .int))],n+1⟩= .ok kLst ⟨[some (.dct js (FK.map kd) vp),some (.lst ls (sn.map .int)),some (.int g.1),some (.tup (g.2.map .int)),some (.lst n []),none,none,none],some (.lst q ds)::[some (.dct js (FK.map kd) vp),some (.lst ls (sn.map .int)),some (.int g.1),some (.tup (g.2.map .int))],n+1⟩:=z0r (by
  left
  rw[ed])
 rw[hi,z2a]
 obtain⟨s',e,o5,o6,o7,m,hm,rfl⟩:=U9 (P:=λt s=> ∃(o5 o6 o7:Option D) (m:Nat),n+1<=m/\s=⟨[some (.dct js (FK.map kd) vp),some (.lst ls (sn.map .int)),some (.int g.1),some (.tup (g.2.map .int)),some (.lst n (gsD ((((z03 rows g.2).take t).filter (z6U sn g.1)).map (gOf g.1)))),o5,o6,o7],some (.lst q ds)::[some (.dct js (FK.map kd) vp),some (.lst ls (sn.map .int)),some (.int g.1),some (.tup (g.2.map .int))],m⟩) (l:=q) (ds:=ds) (g:= .tp [(.nm 5),(.nm 6),(.nm 7)]) (tm:=[some (.dct js (FK.map kd) vp),some (.lst ls (sn.map .int)),some (.int g.1),some (.tup (g.2.map .int))]) (b:=lgB)
  (by rintro t s ⟨_,_,_,_,_,rfl⟩;rfl) (by
   rintro t d hd s ⟨o5,o6,o7,m,hm,rfl⟩
   obtain⟨en,a,he,rfl,a1,a2⟩:=hE.at hd
   refine⟨_,rfl, ?_⟩
   have hl:=zbh hw hg2 en (List.mem_of_getElem? he)
   have eg:D.tup [.int ((g.1:Int)+(en.2.1.length:Int)), .tup (en.2.2.map .int)]=gD (g.1+en.2.1.length,en.2.2):=by
    unfold gD
    erw[u0i]
   have et:((z03 rows g.2).take (t+1)).filter (z6U sn g.1)=((z03 rows g.2).take t).filter (z6U sn g.1)++[en].filter (z6U sn g.1):=by
    rw[A6,he,A8,F4]
   unfold lgB
   rw[et]
   left
   rw[z5J,zbc,z7D,z7C,zbd (by rw[A5,C2];lia) ⋯,zbg]
   cases hf:z6U sn g.1 en with
   |false=>
    have ef:[en].filter (z6U sn g.1)=[]:=by simp[hf]
    rw[ef,l7]
    left
    exact⟨_,rfl,some (.int en.1),some (.lst a (en.2.1.map .int)),some (.tup (en.2.2.map .int)),m+1,⋯,rfl⟩
   |true=>
    have ef:[en].filter (z6U sn g.1)=[en]:=by simp[hf]
    rw[ef]
    left
    rw[z5J,eg]
    have lz:(gsD ((((z03 rows g.2).take t).filter (z6U sn g.1)).map (gOf g.1))).length<=26:=by
     unfold gsD
     rw[l0,l0]
     have:=D4 (z6U sn g.1) ((z03 rows g.2).take t)
     rw[A5] at this
     lia
    rw[Mi.y_app ⟨by rw[zl];lia,by erw[Mi.labs,qq,z04,l7];exact m8⟩]
    left
    erw[fD,fq,W3 (show ls≠n by lia),W3 (show a≠n by lia),Y8,z4p]
    refine⟨_,rfl,some (.int en.1),some (.lst a (en.2.1.map .int)),some (.tup (en.2.2.map .int)),m+1,⋯, ?_⟩
    erw[gsD,gOf,t5,i7,t7]) ds.length 0 ⟨[some (.dct js (FK.map kd) vp),some (.lst ls (sn.map .int)),some (.int g.1),some (.tup (g.2.map .int)),some (.lst n []),none,none,none],some (.lst q ds)::[some (.dct js (FK.map kd) vp),some (.lst ls (sn.map .int)),some (.int g.1),some (.tup (g.2.map .int))],n+1⟩ ⋯ ⟨none,none,none,n+1,i6 _,rfl⟩
 dsimp only
 rw[show kLst.len (some (.lst q ds)::[some (.dct js (FK.map kd) vp),some (.lst ls (sn.map D.int)),some (.int g.1),some (.tup (g.2.map .int))])=ds.length from rfl,e,px1]
 left
 rw[t9 ⋯]
 exact⟨m,⋯,rfl⟩
def RL(q:Sg×List Int)(v:D):Prop:=v= .int (q.2.length:Nat)
def zjy:MS:=(sIf (J4 (y4 (y0 8) (y0 2) z0c)) (Z1 (z20 (y4 (y4 (y0 2) (mCB [(y0 5),(y0 6)] j3) z08) (mC (.int 1)) K1) (y0 2) (y0 8) z00)
 (Q8 (Q2 (y0 4) [(y0 8)] z1N))) sNx)
def lwS(X0 X1:D)(jw:Nat)(F:Fd)(vs:List D)(o3:Option D)(jm b:Nat)(g:Sg)(o7 o8:Option D):Qq:=[some X0,some X1,some (.dct jw (ksF F) vs),o3,some (.lst jm (foD (F.drop b))),some (.int g.1),some (.tup (g.2.map .int)),o7,o8]
def zfP X0 X1 jw jm b n(F:Fd) vs(hV:GV RL F vs)(hn:(F.map (·.1)).Nodup)(hz:F.length<=90000)(hb:b<=F.length)(g g':Sg) c(hg:(g,c)∈F) k o3(hwm:jw≠jm)(h0: ∀q d,q=jw\/q=jm->rp (pl q d) X0=X0)(h1: ∀q d,q=jw\/q=jm->rp (pl q d) X1=X1)(h3: ∀q d,q=jw\/q=jm->o3.map (rp (pl q d))=o3)(tm:Qq)(ht: ∀q d,q=jw\/q=jm->rpO (pl q d) tm=tm):
 ∃vs',GV RL (addF F c (k,g')) vs'/\zjy ⟨lwS X0 X1 jw F vs o3 jm b g (some (.int k)) (some (gD g')),tm,n⟩= .nx ⟨lwS X0 X1 jw (addF F c (k,g')) vs' o3 jm b g (some (.int k)) (some (gD g')),tm,n⟩:=by
 have fgD: ∀(k:Nat) (d:D) (h:Sg),rp (pl k d) (gD h)=gD h:=λk d h=>z4p
 unfold zjy lwS
 left
 rw[z5D hV]
 by_cases hin:g'∈F.map (·.1)
 .have es:addF F c (k,g')=F:=by unfold addF;rw[qy hin]
  rw[es]
  erw[hin,decide_true,D6]
  refine⟨vs,hV, ?_⟩
  left
 .have es:addF F c (k,g')=F++[(g',c++[k])]:=by unfold addF;rw[qh hin]
  rw[es]
  erw[hin,decide_false,E4]
  left
  obtain⟨v,rfl,hvl,ev⟩:=zbb (j:=jw) hV hn hg
  rw[show D.tup [.int g.1, .tup (g.2.map .int)]=gD g from rfl,ev]
  left
  have ep:=λs:Stt=>z8w (j:=jw) (s:=s) (c:=c++[k]) (v:= .int ((c.length:Int)+1)) hV ⋯ hin (show RL (g',c++[k]) (.int ((c.length:Int)+1)) by unfold RL;simp) rfl
  rw[(ep _).2]
  left
  erw[h0 jw _ (.inl rfl),h1 jw _ (.inl rfl),h3 jw _ (.inl rfl),ht jw _ (.inl rfl),fgD,z35,z2Z (show jm≠jw by lia),Y8]
  try (left)
  try erw[z2Z (show jm≠jw by lia)]
  rw[Mi.y_app ⟨by unfold foD;rw[l0,C2,zl];lia,by rw[z04];exact m8⟩]
  have efo:foD (F.drop b)++[gD g']=foD ((F++[(g',c++[k])]).drop b):=by
   rw[E5 hb];simp[foD]
  rw[efo]
  left
  erw[h0 jm _ (.inr rfl),h1 jm _ (.inr rfl),h3 jm _ (.inr rfl),ht jm _ (.inr rfl),fgD,z9k (ep ⟨[],[],0⟩).1 hwm,Y8]
  exact⟨_,(ep ⟨[],[],0⟩).1,rfl⟩
def z3n:putF F c (a++b)=putF (putF F c a) c b:=by
 unfold putF;rw[D9]
def zbk{F:Fd}(h:(F.map (·.1)).Nodup):((putF F c gs).map (·.1)).Nodup:=(z3m (Q:=λ_=>True) h (λ_ _=>trivial) λ_ _=>trivial).1
theorem z8z: ∀{gs:List (Int×Sg)} {F:Fd},(putF F c gs).length<=F.length+gs.length
 |[],F=>i6 _
 |g::gs,F=>by
  have h:=z8z (c:=c) (gs:=gs) (F:=addF F c g)
  have:(addF F c g).length<=F.length+1:=by unfold addF;split<;>simp
  show(putF (addF F c g) c gs).length<=_
  rw[A4];lia
def inL:MS:=V8 (j6 (Z2 V1 [(y0 0),(y0 1),(y0 5),(y0 6)])) (.tp [(.nm 7),(.nm 8)]) zjy
def ziU rows(hw: ∀r∈rows,Wf r) sn(hsn:sn.length<=2000) ls js n(hls:ls<n)(hjs:js<n) FK vp hi0(hhi:hi0<=n)(hD:DV rows (js+1) hi0 FK vp) jw jm b(hjw:hi0<=jw)(hjm:hi0<=jm)(hwn:jw<n)(hmn:jm<n)(hwm:jw≠jm)(hsw:ls<jw)(hsm:ls<jm)(hkw:js<jw)(hkm:js<jm)(F:Fd) vs(hV:GV RL F vs)(hn:(F.map (·.1)).Nodup)(hz:F.length<=80000)(hb:b<=F.length)(g:Sg) c(hg:(g,c)∈F)(hgF:g.2∈FK)(hg2:g.2.length<=100) o3 o7 o8(h3: ∀q d,q=jw\/q=jm->o3.map (rp (pl q d))=o3)(tm:Qq)(ht: ∀q d,q=jw\/q=jm->rpO (pl q d) tm=tm):
 ∃vs' p7 p8 n',n<=n'/\GV RL (putF F c (gl rows sn g)) vs'/\inL ⟨lwS (.dct js (FK.map kd) vp) (.lst ls (sn.map .int)) jw F vs o3 jm b g o7 o8,tm,n⟩= .nx ⟨lwS (.dct js (FK.map kd) vp) (.lst ls (sn.map .int)) jw (putF F c (gl rows sn g)) vs' o3 jm b g p7 p8,tm,n'⟩:=by
 obtain⟨n',hn',e1⟩:=z5E rows hw sn hsn ls js n hls hjs FK vp (hD.mono hhi) g hgF hg2
 have lg:(W9 rows sn g).length<=26:=by
  unfold W9
  rw[l0]
  exact C7 (D4 _ _) (z2t g.2)
 unfold inL
 have hi:j6 (Z2 V1 [(y0 0),(y0 1),(y0 5),(y0 6)]) ⟨lwS (.dct js (FK.map kd) vp) (.lst ls (sn.map .int)) jw F vs o3 jm b g o7 o8,tm,n⟩= .ok kLst ⟨lwS (.dct js (FK.map kd) vp) (.lst ls (sn.map .int)) jw F vs o3 jm b g o7 o8,some (.lst n (gsD (W9 rows sn g)))::tm,n'⟩:=z0r (by
  unfold lwS
  left
  rw[e1]
  left)
 rw[z46,hi,z2a]
 obtain⟨s',e,vs',p7,p8,hV',rfl⟩:=U9 (P:=λt s=> ∃(vs':List D) (p7 p8:Option D),GV RL (putF F c ((W9 rows sn g).take t)) vs'/\s=⟨lwS (.dct js (FK.map kd) vp) (.lst ls (sn.map .int)) jw (putF F c ((W9 rows sn g).take t)) vs' o3 jm b g p7 p8,some (.lst n (gsD (W9 rows sn g)))::tm,n'⟩) (l:=n) (ds:=gsD (W9 rows sn g)) (g:= .tp [(.nm 7),(.nm 8)]) (tm:=tm) (b:=zjy)
  (by rintro t s ⟨_,_,_,_,rfl⟩;rfl) (by
   rintro t d hd s ⟨vs',p7,p8,hV',rfl⟩
   unfold gsD at hd
   rw[List.getElem?_map] at hd
   cases hx:(W9 rows sn g)[t]? with
   |none=>rw[hx] at hd;cases hd
   |some x=>
    rw[hx] at hd
    cases hd
    obtain⟨A,hA⟩:=z1J (c:=c) (gs:=(W9 rows sn g).take t) (F:=F)
    have hl:=z8z (c:=c) (gs:=(W9 rows sn g).take t) (F:=F)
    rw[A5] at hl
    have hmem:(g,c)∈putF F c ((W9 rows sn g).take t):=by rw[hA];exact i8 _ hg
    have hb':b<=(putF F c ((W9 rows sn g).take t)).length:=by rw[hA,m5];lia
    obtain⟨vs2,hV2,e⟩:=zfP (.dct js (FK.map kd) vp) (.lst ls (sn.map .int)) jw jm b n' _ vs' hV' (zbk hn) ⋯ hb' g x.2 c hmem x.1 o3 hwm (λq d hq=>z3d hD ⋯ (.inr ⋯)) (λq d hq=>W3 ⋯) h3 (some (.lst n (gsD (W9 rows sn g)))::tm) (λq d hq=>by
     rw[Z0,ht q d hq,i9,z0y (show n≠q by lia),rpL_id _ λj hj=>by rw[z8y] at hj;cases hj])
    refine⟨_,rfl,_,e,vs2,some (.int x.1),some (gD x.2), ?_, ?_⟩
    .rw[A6,hx,A8,z3n];exact hV2
    .rw[A6,hx,A8,z3n];rfl) (W9 rows sn g).length 0 ⟨lwS (.dct js (FK.map kd) vp) (.lst ls (sn.map .int)) jw F vs o3 jm b g o7 o8,some (.lst n (gsD (W9 rows sn g)))::tm,n'⟩ (by simp[gsD]) ⟨vs,o7,o8,hV,rfl⟩
 dsimp only
 rw[show kLst.len (some (.lst n (gsD (W9 rows sn g)))::tm)=(W9 rows sn g).length by show(gsD (W9 rows sn g)).length=_;simp[gsD],e,px1]
 have el:(gsD (W9 rows sn g)).length=(W9 rows sn g).length:=by simp[gsD]
 rw[el,t9 (i6 _)] at hV'⊢
 exact⟨vs',p7,p8,n',⋯,hV',rfl⟩
def z2u{gl:Sg->List (Int×Sg)}{t i:Nat}{F:Fd}:runF' gl (t+1) i F=proc gl (runF' gl t i F) (i+t):=by
 rw[z2b];rfl
def lvB:MS:=(Z1 (Y1 (.nm 4) (mCB [] lstM))
 (Z1 (V8 (j6 (y0 3)) (.tp [(.nm 5),(.nm 6)]) inL)
 (Y1 (.nm 3) (y0 4))))
def zd6 rows(hw: ∀r∈rows,Wf r)(hr:rows.length<=40) sn(hsn:sn.length<=24) ls js n FK vp(hFK: ∀W,W∈FK↔J1 rows W=true) jw je hi0(hD:DV rows (js+1) hi0 FK vp)(hjw:hi0<=jw)(hsw:ls<hi0)(hkw:js<hi0)(hje:jw<je)(hen:je<n) i vs(hV:GV RL (runF' (gl rows sn) i 0 F0) vs)(hi:i<=(runF' (gl rows sn) i 0 F0).length) o4 o5 o6 o7 o8(tm:Qq)(ht: ∀q d,jw<=q->rpO (pl q d) tm=tm):
 ∃vs' p5 p6 p7 p8 n',n<n'/\GV RL (runF' (gl rows sn) (runF' (gl rows sn) i 0 F0).length 0 F0) vs'/\lvB ⟨[some (.dct js (FK.map kd) vp),some (.lst ls (sn.map .int)),some (.dct jw (ksF (runF' (gl rows sn) i 0 F0)) vs),some (.lst je (foD ((runF' (gl rows sn) i 0 F0).drop i))),o4,o5,o6,o7,o8],tm,n⟩= .nx ⟨[some (.dct js (FK.map kd) vp),some (.lst ls (sn.map .int)),some (.dct jw (ksF (runF' (gl rows sn) (runF' (gl rows sn) i 0 F0).length 0 F0)) vs'),some (.lst n (foD ((runF' (gl rows sn) (runF' (gl rows sn) i 0 F0).length 0 F0).drop (runF' (gl rows sn) i 0 F0).length))),some (.lst n (foD ((runF' (gl rows sn) (runF' (gl rows sn) i 0 F0).length 0 F0).drop (runF' (gl rows sn) i 0 F0).length))),p5,p6,p7,p8],tm,n'⟩:=by
 generalize hF:runF' (gl rows sn) i 0 F0=F at*
 have runE: ∀t,runF' (gl rows sn) t i F=runF' (gl rows sn) (i+t) 0 F0:=λt=>by rw[z2b,hF,N8]
 have eN:runF' (gl rows sn) (F.length -i) i F=runF' (gl rows sn) F.length 0 F0:=by rw[runE,show i+(F.length -i)=F.length by lia]
 unfold lvB
 left
 rw[z0r (l:=je) (ds:=foD (F.drop i)) (σ:=[some (.dct js (FK.map kd) vp),some (.lst ls (sn.map .int)),some (.dct jw (ksF F) vs),some (.lst je (foD (F.drop i))),some (.lst n []),o5,o6,o7,o8]) (tm:=tm) (n:=n+1) (by left),z2a]
 obtain⟨s',e,vs',p5,p6,p7,p8,m,hm,hV',rfl⟩:=U9 (P:=λt s=> ∃(vs':List D) (p5 p6 p7 p8:Option D) (m:Nat),n+1<=m/\GV RL (runF' (gl rows sn) t i F) vs'/\s=⟨[some (.dct js (FK.map kd) vp),some (.lst ls (sn.map .int)),some (.dct jw (ksF (runF' (gl rows sn) t i F)) vs'),some (.lst je (foD (F.drop i))),some (.lst n (foD ((runF' (gl rows sn) t i F).drop F.length))),p5,p6,p7,p8],some (.lst je (foD (F.drop i)))::tm,m⟩) (l:=je) (ds:=foD (F.drop i)) (g:= .tp [(.nm 5),(.nm 6)]) (tm:=tm) (b:=inL)
  (by rintro t s ⟨_,_,_,_,_,_,_,_,rfl⟩;rfl) (by
   rintro t d hd s ⟨vs',p5,p6,p7,p8,m,hm,hV',rfl⟩
   unfold foD at hd
   rw[List.getElem?_map,List.getElem?_drop] at hd
   cases hx:F[i+t]? with
   |none=>rw[hx] at hd;cases hd
   |some q=>
    rw[hx] at hd
    cases hd
    obtain⟨A,hA⟩:=z49 (gl:=gl rows sn) t i F
    have hlt:i+t<F.length:=(List.getElem?_eq_some_iff.mp hx).1
    have hq:(runF' (gl rows sn) t i F)[i+t]? =some q:=by rw[hA,List.getElem?_append_left hlt];exact hx
    obtain⟨h1,h2⟩:=z6N hw (sn:=sn) (i+t)
    have hb:=z2s hw hr hsn (i+t)
    rw[<-runE] at h1 h2
    have hb:(runF' (gl rows sn) t i F).length<=5000:=by rw[runE];exact hb
    have ho:=h2 _ (List.mem_of_getElem? hq)
    have hs:=z0D hw ho.1.2
    obtain⟨vs2,q7,q8,m',hm',hV2,e⟩:=ziU rows hw sn ⋯ ls js m ⋯ ⋯ FK vp hi0 ⋯ hD jw n F.length hjw ⋯ ⋯ ⋯ ⋯ ⋯ ⋯ ⋯ ⋯ _ vs' hV' h1 ⋯ (by rw[hA,m5];lia) q.1 q.2 (List.mem_of_getElem? hq) ((hFK _).mpr ho.1.2) ⋯ (some (.lst je (foD (F.drop i)))) p7 p8 (λz d hz=>by rw[i9,z2Z ⋯]) (some (.lst je (foD (F.drop i)))::tm) (λz d hz=>by rw[Z0,i9,z2Z ⋯,ht z d ⋯])
    have epr:proc (gl rows sn) (runF' (gl rows sn) t i F) (i+t)=putF (runF' (gl rows sn) t i F) q.2 (gl rows sn q.1):=by
     unfold proc;rw[hq]
    refine⟨_,rfl,_,e,vs2,some (.int q.1.1),some (.tup (q.1.2.map .int)),q7,q8,m',⋯, ?_, ?_⟩
    .rw[z2u,epr];exact hV2
    .rw[z2u,epr];rfl) (F.length -i) 0 ⟨[some (.dct js (FK.map kd) vp),some (.lst ls (sn.map .int)),some (.dct jw (ksF F) vs),some (.lst je (foD (F.drop i))),some (.lst n []),o5,o6,o7,o8],some (.lst je (foD (F.drop i)))::tm,n+1⟩ (by simp[foD]) ⟨vs,o5,o6,o7,o8,n+1,i6 _,hV,by simp[runF',foD]⟩
 dsimp only
 have el:(foD (F.drop i)).length=F.length -i:=by simp[foD]
 rw[show kLst.len (some (.lst je (foD (F.drop i)))::tm)=F.length -i from el,e,px1]
 rw[el,eN] at hV'⊢
 left
 exact⟨vs',p5,p6,p7,p8,m,⋯,hV',rfl⟩
def zdU{i:Int}:Gd (.int i):=⟨rfl,by simp[er,PyData.canLay0]⟩
def z5F:GdL []:=⟨rfl,rfl⟩
theorem z2v: ∀ns:List Int,GdL (ns.map D.int)
 |[]=>z5F
 |n::ns=>GdL.cons.mpr ⟨zdU,z2v ns⟩
def zl3(g:Sg):Gd (gD g):=Gd.tup.mpr (GdL.cons.mpr ⟨zdU,GdL.cons.mpr ⟨Gd.tup.mpr (z2v g.2),z5F⟩⟩)
theorem zdV: ∀F:Fd,GdL (foD F)
 |[]=>z5F
 |q::F=>GdL.cons.mpr ⟨zl3 q.1,zdV F⟩
def zbl{a m:Nat}{F:Fd}:neD (.lst a (foD F)) (.lst m []) s= .ok (.bool (!F.isEmpty)) s:=by
 have g:=Gd.lst (l:=a).mpr (zdV F)
 have g0:(er (.lst m [])).canLay0=true/\Mi.z0I (.lst m [])=true:=⟨rfl,rfl⟩
 have d0:(er (.lst m [])).depth<=2:=by simp[er,erL,PyData.depth,PyData.depthAll]
 rw[zjw (by
  erw[eqC,g.1,g.2,g0.1,g0.2,N2,E8,decide_eq_true_eq]
  have:=S0 (er (.lst a (foD F))).depth (er (.lst m [])).depth
  lia)]
 congr 2
 cases F with
 |nil=>rfl
 |cons c cs=>rfl
def z7I rows(hw: ∀r∈rows,Wf r)(hr:rows.length<=40) sn(hsn:sn.length<=24) ls js FK vp(hFK: ∀W,W∈FK↔J1 rows W=true) jw hi0(hD:DV rows (js+1) hi0 FK vp)(hjw:hi0<=jw)(hsw:ls<hi0)(hkw:js<hi0)(tm:Qq)(ht: ∀q d,jw<=q->rpO (pl q d) tm=tm) N(hN:N<=5000)(hend:(runF' (gl rows sn) N 0 F0).length=N)(hgo: ∀i,i<N->i<(runF' (gl rows sn) i 0 F0).length):
 ∀d i fuel,N -i<=d->i<=N->d<fuel->∀je n vs o4 o5 o6 o7 o8,jw<je->je<n->GV RL (runF' (gl rows sn) i 0 F0) vs->
 ∃vs' p3 p4 p5 p6 p7 p8 n',n<=n'/\GV RL (runF' (gl rows sn) N 0 F0) vs'/\Y5 (J4 (y4 (y0 3) (mCB [] lstM) neD)) lvB fuel ⟨[some (.dct js (FK.map kd) vp),some (.lst ls (sn.map .int)),some (.dct jw (ksF (runF' (gl rows sn) i 0 F0)) vs),some (.lst je (foD ((runF' (gl rows sn) i 0 F0).drop i))),o4,o5,o6,o7,o8],tm,n⟩= .nx ⟨[some (.dct js (FK.map kd) vp),some (.lst ls (sn.map .int)),some (.dct jw (ksF (runF' (gl rows sn) N 0 F0)) vs'),p3,p4,p5,p6,p7,p8],tm,n'⟩:=by
 intro d
 have ec: ∀(i je n:Nat) (vs:List D) (o4 o5 o6 o7 o8:Option D),J4 (y4 (y0 3) (mCB [] lstM) neD) ⟨[some (.dct js (FK.map kd) vp),some (.lst ls (sn.map .int)),some (.dct jw (ksF (runF' (gl rows sn) i 0 F0)) vs),some (.lst je (foD ((runF' (gl rows sn) i 0 F0).drop i))),o4,o5,o6,o7,o8],tm,n⟩= .ok (!((runF' (gl rows sn) i 0 F0).drop i).isEmpty) ⟨[some (.dct js (FK.map kd) vp),some (.lst ls (sn.map .int)),some (.dct jw (ksF (runF' (gl rows sn) i 0 F0)) vs),some (.lst je (foD ((runF' (gl rows sn) i 0 F0).drop i))),o4,o5,o6,o7,o8],tm,n+1⟩:=λi je n vs o4 o5 o6 o7 o8=>by
  left
  rw[zbl]
  left
 induction d with
 |zero=>
  intro i fuel hi hiN hf je n vs o4 o5 o6 o7 o8 h1 h2 hV
  have hi:i=N:=by lia
  subst hi
  obtain⟨m,rfl⟩: ∃m,fuel=m+1:=⟨fuel - 1,⋯⟩
  have e:((runF' (gl rows sn) i 0 F0).drop i).isEmpty=true:=by rw[D7 ⋯];rfl
  refine⟨vs,some (.lst je (foD ((runF' (gl rows sn) i 0 F0).drop i))),o4,o5,o6,o7,o8,n+1,⋯,hV, ?_⟩
  unfold Y5
  erw[z1o,ec,e,D6]
  rfl
 |succ d ih=>
  intro i fuel hi hiN hf je n vs o4 o5 o6 o7 o8 h1 h2 hV
  obtain⟨m,rfl⟩: ∃m,fuel=m+1:=⟨fuel - 1,⋯⟩
  rcases F6 hiN with hlt|heq
  .have hgt:=hgo i hlt
   have hmono:=z5v (gl:=gl rows sn) (F:=F0) (L9 hlt)
   have e:((runF' (gl rows sn) i 0 F0).drop i).isEmpty=false:=by
    cases q:(runF' (gl rows sn) i 0 F0).drop i with
    |nil=>have:=T6.mp q;lia
    |cons _ _=>rfl
   obtain⟨vs',p5,p6,p7,p8,n',hn',hV',e1⟩:=zd6 rows hw hr sn hsn ls js (n+1) FK vp hFK jw je hi0 hD hjw hsw hkw h1 ⋯ i vs hV ⋯ o4 o5 o6 o7 o8 tm ht
   obtain⟨vs2,q3,q4,q5,q6,q7,q8,n2,hn2,hV2,e2⟩:=ih (runF' (gl rows sn) i 0 F0).length m ⋯ ⋯ ⋯ (n+1) n' vs' (some (.lst (n+1) (foD ((runF' (gl rows sn) (runF' (gl rows sn) i 0 F0).length 0 F0).drop (runF' (gl rows sn) i 0 F0).length)))) p5 p6 p7 p8 ⋯ hn' hV'
   refine⟨vs2,q3,q4,q5,q6,q7,q8,n2,⋯,hV2, ?_⟩
   unfold Y5
   erw[z1o,ec,e,E4]
   show(match lvB ⟨[some (.dct js (FK.map kd) vp),some (.lst ls (sn.map .int)),some (.dct jw (ksF (runF' (gl rows sn) i 0 F0)) vs),some (.lst je (foD ((runF' (gl rows sn) i 0 F0).drop i))),o4,o5,o6,o7,o8],tm,n+1⟩ with
    | .nx s'=>Y5 (J4 (y4 (y0 3) (mCB [] lstM) neD)) lvB m s'
    | .ct s'=>Y5 (J4 (y4 (y0 3) (mCB [] lstM) neD)) lvB m s'
    | .bk s'=> .nx s'
    | .rt d s'=> .rt d s'
    | .ex d s'=> .ex d s'
    | .no=> .no)=_
   rw[e1]
   exact e2
  .subst heq
   have e:((runF' (gl rows sn) i 0 F0).drop i).isEmpty=true:=by rw[D7 ⋯];rfl
   refine⟨vs,some (.lst je (foD ((runF' (gl rows sn) i 0 F0).drop i))),o4,o5,o6,o7,o8,n+1,⋯,hV, ?_⟩
   unfold Y5
   erw[z1o,ec,e,D6]
   rfl
def zd7 rows(hw: ∀r∈rows,Wf r)(hr:rows.length<=40) sn(hsn:sn.length<=24) ls js n(hs:ls<n)(hj:js<n) FK vp(hFK: ∀W,W∈FK↔J1 rows W=true)(hD:DV rows (js+1) n FK vp) N(hN:N<=5000)(hend:(runF' (gl rows sn) N 0 F0).length=N)(hgo: ∀i,i<N->i<(runF' (gl rows sn) i 0 F0).length):
 ∃vs n',n<n'/\GV RL (runF' (gl rows sn) N 0 F0) vs/\z2o [.dct js (FK.map kd) vp, .lst ls (sn.map .int)] n= .ok (.dct n (ksF (runF' (gl rows sn) N 0 F0)) vs) [.dct js (FK.map kd) vp, .lst ls (sn.map .int)] n':=by
 have fX: ∀q d,n<=q->rp (pl q d) (.dct js (FK.map kd) vp)= .dct js (FK.map kd) vp:=λq d h=>z3d hD ⋯ (.inr h)
 have fL: ∀q d,n<=q->rp (pl q d) (.lst ls (sn.map .int))= .lst ls (sn.map .int):=λq d h=>W3 ⋯
 unfold z2o
 have e0:z5o=(Z1 (Y1 (.nm 2) (K6 (mCB [(mC (.int 0)),(mCB [] j3)] j3) (mC (.int 0))))
  (Z1 (Y1 (.nm 3) (mCB [(mCB [(mC (.int 0)),(mCB [] j3)] j3)] lstM))
  (Z1 (z0A (λ_=>100000) (J4 (y4 (y0 3) (mCB [] lstM) neD)) lvB)
  (K5 (y0 2))))):=rfl
 rw[e0]
 left
 have ed:K6 (mCB [(mC (.int 0)),(mCB [] j3)] j3) (mC (.int 0)) ⟨[some (.dct js (FK.map kd) vp),some (.lst ls (sn.map .int)),none,none,none,none,none,none,none],[some (.dct js (FK.map kd) vp),some (.lst ls (sn.map .int))],n⟩= .ok (.dct n (ksF F0) [.int 0]) ⟨[some (.dct js (FK.map kd) vp),some (.lst ls (sn.map .int)),none,none,none,none,none,none,none],[some (.dct js (FK.map kd) vp),some (.lst ls (sn.map .int))],n+1⟩:=by
  have e:K6 (mCB [(mC (.int 0)),(mCB [] j3)] j3) (mC (.int 0)) ⟨[some (.dct js (FK.map kd) vp),some (.lst ls (sn.map .int)),none,none,none,none,none,none,none],[some (.dct js (FK.map kd) vp),some (.lst ls (sn.map .int))],n⟩= .ok (.dct n (ksF F0) [.int 0]) ⟨rpO (pl n (.dct n (ksF F0) [.int 0])) [some (.dct js (FK.map kd) vp),some (.lst ls (sn.map .int)),none,none,none,none,none,none,none],rpO (pl n (.dct n (ksF F0) [.int 0])) [some (.dct js (FK.map kd) vp),some (.lst ls (sn.map .int))],n+1⟩:=by
   unfold K6
   rfl
  rw[e]
  erw[Z0,Z8,i9,C9,fX n _ (i6 _),fL n _ (i6 _)]
 rw[ed]
 left
 rw[z6F]
 obtain⟨vs',p3,p4,p5,p6,p7,p8,n',hn',hV,e⟩:=z7I rows hw hr sn hsn ls js FK vp hFK n n hD (i6 _) hs hj [some (.dct js (FK.map kd) vp),some (.lst ls (sn.map .int))] (λq d hq=>by erw[Z0,Z8,i9,fX q d hq,fL q d hq]) N hN hend hgo N 0 100000 ⋯ (B9 _) ⋯ (n+1) (n+1+1) [.int 0] none none none none none ⋯ ⋯ ⟨.int 0,[],rfl,rfl,rfl,rfl⟩
 have es:(⟨[some (.dct js (FK.map kd) vp),some (.lst ls (sn.map .int)),some (.dct n (ksF F0) [.int 0]),some (.lst (n+1) [.tup [.int 0, .tup []]]),none,none,none,none,none],[some (.dct js (FK.map kd) vp),some (.lst ls (sn.map .int))],n+1+1⟩:Stt)=⟨[some (.dct js (FK.map kd) vp),some (.lst ls (sn.map .int)),some (.dct n (ksF (runF' (gl rows sn) 0 0 F0)) [.int 0]),some (.lst (n+1) (foD ((runF' (gl rows sn) 0 0 F0).drop 0))),none,none,none,none,none],[some (.dct js (FK.map kd) vp),some (.lst ls (sn.map .int))],n+1+1⟩:=rfl
 rw[es,e]
 refine⟨vs',n',⋯,hV, ?_⟩
 left
structure Rl(rel:List Int->List Int->Prop)(gl:Gl)(F0:Fd):Prop where
 ext: ∀{u v:List Int} (a b:Int),rel u v->rel (u++[a]) (v++[b])
 key: ∀g,(gl g).Pairwise λx y=> ∀w,rel (w++[x.1]) (w++[y.1])
 bas: ∀q∈F0,∀w k,rel q.2 (w++[k])
 fst:F0.Pairwise λp q=>rel p.2 q.2
structure Bf(rel:List Int->List Int->Prop)(gl:Gl)(F0:Fd)(i:Nat)(F:Fd):Prop where
 pw:F.Pairwise λp q=>rel p.2 q.2
 org: ∀q∈F,q∈F0\/∃(j:Nat) (p:Sg×List Int),j<i/\F[j]? =some p/\∃x∈gl p.1,q=(x.2,p.2++[x.1])
 cov: ∀(j:Nat) (p:Sg×List Int),j<i->F[j]? =some p->∀x∈gl p.1,∃w,(x.2,w)∈F/\(w=p.2++[x.1]\/rel w (p.2++[x.1]))
theorem zdW{rel:List Int->List Int->Prop}: ∀{gs:List (Int×Sg)} {F:Fd},(F.Pairwise λp q=>rel p.2 q.2)->(∀q∈F,∀x∈gs,rel q.2 (c++[x.1]))->(gs.Pairwise λx y=> ∀w,rel (w++[x.1]) (w++[y.1]))->
 ((putF F c gs).Pairwise λp q=>rel p.2 q.2)/\(∀q∈putF F c gs,q∈F\/∃x∈gs,q=(x.2,c++[x.1]))/\∀x∈gs,∃w,(x.2,w)∈putF F c gs/\(w=c++[x.1]\/rel w (c++[x.1]))
 |[],F,h,_,_=>⟨h,λq hq=> .inl hq,λx hx=>nomatch hx⟩
 |y::gs,F,h,hl,hk=>by
  obtain⟨k1,k2⟩:=N5.mp hk
  have key: ∃F1,addF F c y=F1/\(F1.Pairwise λp q=>rel p.2 q.2)/\(∀q∈F1,∀x∈gs,rel q.2 (c++[x.1]))/\(∀q∈F1,q∈F\/q=(y.2,c++[y.1]))/\∃w,(y.2,w)∈F1/\(w=c++[y.1]\/rel w (c++[y.1])):=by
   unfold addF
   by_cases e:y.2∈F.map (·.1)
   .rw[qy e]
    obtain⟨p,hp,e1⟩:=l5.mp e
    exact⟨F,rfl,h,λq hq x hx=>hl q hq x (i5 _ hx),λq hq=> .inl hq,p.2,by rw[<-e1];exact hp, .inr (hl p hp y l6)⟩
   .rw[qh e]
    refine⟨_,rfl,O7.mpr ⟨h,S4 _ _,λp hp q hq=> ?_⟩,λq hq x hx=> ?_,λq hq=> ?_,_,i4 _ l6, .inl rfl⟩
    .rw[m4.mp hq];exact hl p hp y l6
    .rcases l4.mp hq with hq|hq
     .exact hl q hq x (i5 _ hx)
     .rw[m4.mp hq];exact k1 x hx c
    .rcases l4.mp hq with hq|hq
     .exact .inl hq
     .exact .inr (m4.mp hq)
  obtain⟨F1,e,h1,h2,h3,w,h4,h5⟩:=key
  obtain⟨g1,g2,g3⟩:=zdW (gs:=gs) h1 h2 k2
  have ep:putF F c (y::gs)=putF F1 c gs:=by rw[<-e];rfl
  rw[ep]
  obtain⟨A,hA⟩:=z1J (c:=c) (gs:=gs) (F:=F1)
  refine⟨g1,λq hq=> ?_,λx hx=> ?_⟩
  .rcases g2 q hq with hq|⟨x,hx,rfl⟩
   .rcases h3 q hq with hq|rfl
    .exact .inl hq
    .exact .inr ⟨y,l6,rfl⟩
   .exact .inr ⟨x,i5 _ hx,rfl⟩
  .rcases m3.mp hx with rfl|hx
   .exact⟨w,by rw[hA];exact i8 _ h4,h5⟩
   .exact g3 x hx
theorem z1G{rel:List Int->List Int->Prop}{gl:Gl}{F0:Fd}(hr:Rl rel gl F0){N:Nat}(hgo: ∀i,i<N->i<(runF' gl i 0 F0).length): ∀i,i<=N->Bf rel gl F0 i (runF' gl i 0 F0)
 |0,_=>⟨hr.fst,λq hq=> .inl hq,λj p hj=>absurd hj (P1 _)⟩
 |i+1,hi=>by
  have ih:=z1G hr hgo i ⋯
  have hlt:=hgo i ⋯
  have er:runF' gl (i+1) 0 F0=proc gl (runF' gl i 0 F0) i:=by rw[z2b];show runF' gl 0 (0+i+1) (proc gl (runF' gl i 0 F0) (0+i))=_;rw[N8];rfl
  rw[er]
  generalize runF' gl i 0 F0=F at*
  have eq:=List.getElem?_eq_getElem hlt
  generalize F[i]=p at*
  have ep:proc gl F i=putF F p.2 (gl p.1):=by unfold proc;rw[eq]
  rw[ep]
  have hlt': ∀q∈F,∀x∈gl p.1,rel q.2 (p.2++[x.1]):=λq hq x hx=>by
   rcases ih.org q hq with h|⟨j,p',hj,ej,y,hy,rfl⟩
   .exact hr.bas q h _ _
   .refine hr.ext _ _ ?_
    have hjl:=(List.getElem?_eq_some_iff.mp ej)
    have hil:=(List.getElem?_eq_some_iff.mp eq)
    obtain⟨j1,rfl⟩:=hjl
    obtain⟨i1,rfl⟩:=hil
    exact E3.mp ih.pw j i j1 i1 hj
  obtain⟨g1,g2,g3⟩:=zdW (c:=p.2) ih.pw hlt' (hr.key p.1)
  obtain⟨A,hA⟩:=z1J (c:=p.2) (gs:=gl p.1) (F:=F)
  have keep: ∀(j:Nat),j<=i->(putF F p.2 (gl p.1))[j]? =F[j]? :=λj hj=>by rw[hA];exact List.getElem?_append_left ⋯
  refine⟨g1,λq hq=> ?_,λj p' hj ej x hx=> ?_⟩
  .rcases g2 q hq with hq|⟨x,hx,rfl⟩
   .rcases ih.org q hq with h|⟨j,p',hj,ej,h⟩
    .exact .inl h
    .exact .inr ⟨j,p',⋯,by rw[keep j ⋯];exact ej,h⟩
   .exact .inr ⟨i,p,⋯,by rw[keep i (i6 _)];exact eq,x,hx,rfl⟩
  .rw[keep j ⋯] at ej
   rcases F6 (u09 hj) with hj|rfl
   .obtain⟨w,h1,h2⟩:=ih.cov j p' hj ej x hx
    exact⟨w,by rw[hA];exact i8 _ h1,h2⟩
   .rw[eq] at ej
    cases ej
    exact g3 x hx
def llt:List Int->List Int->Prop
 |a::as,b::bs=>a<b\/(a=b/\llt as bs)
 |_,_=>False
def slt(u v:List Int):Prop:=u.length<v.length\/(u.length=v.length/\llt u v)
def sle(u v:List Int):Prop:=u=v\/slt u v
theorem zbm(a b:Int): ∀{u v:List Int},u.length=v.length->llt u v->llt (u++[a]) (v++[b])
 |[],_,_,h=>h.elim
 |_::_,[],_,h=>h.elim
 |x::u,y::v,hl,h=>by
  rcases h with h|⟨h1,h2⟩
  .exact .inl h
  .exact .inr ⟨h1,zbm a b (by simpa using hl) h2⟩
theorem zbn{k k':Int}(h:k<k'): ∀w:List Int,llt (w++[k]) (w++[k'])
 |[]=> .inl h
 |x::w=> .inr ⟨rfl,zbn h w⟩
theorem z6O: ∀{u v w:List Int},llt u v->llt v w->llt u w
 |[],_,_,h,_=>h.elim
 |_::_,[],_,h,_=>h.elim
 |_::_,_::_,[],_,h=>h.elim
 |x::u,y::v,z::w,h,h'=>by
  rcases h with h|⟨h1,h2⟩<;>rcases h' with h'|⟨h3,h4⟩
  .exact .inl ⋯
  .exact .inl ⋯
  .exact .inl ⋯
  .exact .inr ⟨⋯,z6O h2 h4⟩
theorem z7J: ∀u:List Int,¬llt u u
 |[]=>id
 |x::u=>λh=>h.elim (λh=>by lia) λh=>z7J u h.2
def zbo a b(h:slt u v):slt (u++[a]) (v++[b]):=by
 rcases h with h|⟨h1,h2⟩
 .exact .inl (by simp;lia)
 .exact .inr ⟨by simp;lia,zbm a b h1 h2⟩
def zfQ a(h:sle u v):sle (u++[a]) (v++[a]):=h.elim (λe=> .inl (by rw[e])) λh=> .inr (zbo a a h)
def z4d(h:slt u v)(h':slt v w):slt u w:=by
 rcases h with h|⟨h1,h2⟩<;>rcases h' with h'|⟨h3,h4⟩
 .exact .inl ⋯
 .exact .inl ⋯
 .exact .inl ⋯
 .exact .inr ⟨⋯,z6O h2 h4⟩
def z6P(h:sle u v)(h':sle v w):sle u w:=by
 rcases h with rfl|h
 .exact h'
 .rcases h' with rfl|h'
  .exact .inr h
  .exact .inr (z4d h h')
def zd8(h:sle u v)(h':sle v u):u=v:=by
 rcases h with h|h
 .exact h
 .rcases h' with h'|h'
  .exact h'.symm
  .rcases z4d h h' with q|q
   .lia
   .exact absurd q.2 (z7J u)
def Tkn(gl:Gl)(E:Sg->Bool)(g:Sg)(w:List Int):Prop:= ∃e,go gl (some g) w=some e/\E e=true
def z4e{gl:Gl}(ha:Asc gl)(g:Sg):Rl slt gl [(g,[])]:=⟨λa b h=>zbo a b h,λg=>(ha g).imp λh w=> .inr ⟨by simp,zbn h w⟩,λq hq w k=>by rw[m4.mp hq];exact .inl (by simp),S4 _ _⟩
def ziV{gl:Gl}(ha:Asc gl){s:Sg}{N:Nat}(hgo: ∀i,i<N->i<(runF' gl i 0 [(s,[])]).length): ∀i,i<=N->∀q∈runF' gl i 0 [(s,[])],go gl (some s) q.2=some q.1:=by
 intro i hi
 have B:=z1G (z4e ha s) hgo i hi
 have key: ∀n (q:Sg×List Int),q.2.length<=n->q∈runF' gl i 0 [(s,[])]->go gl (some s) q.2=some q.1:=by
  intro n
  induction n with
  |zero=>
   intro q hn hq
   rcases B.org q hq with h|⟨j,p,_,_,x,_,rfl⟩
   .rw[m4.mp h];rfl
   .simp at hn
  |succ n ih=>
   intro q hn hq
   rcases B.org q hq with h|⟨j,p,_,ej,x,hx,rfl⟩
   .rw[m4.mp h];rfl
   .have:=ih p (by simp at hn;lia) (List.mem_of_getElem? ej)
    show go gl (some s) (p.2++[x.1])=some x.2
    rw[z8s,this]
    exact z8t ha hx
 exact λq hq=>key _ q (i6 _) hq
def z8A{P:List Int->Prop}(h0:P [])(h1: ∀u k,P u->P (u++[k])): ∀u,P u:=λu=>by
 have: ∀n (u:List Int),u.length=n->P u:=by
  intro n
  induction n with
  |zero=>intro u h;rw[C1 h];exact h0
  |succ n ih=>
   intro u h
   have hne:u≠[]:=λe=>by rw[e] at h;simp at h
   rw[<-List.dropLast_concat_getLast hne]
   exact h1 _ _ (ih _ (by rw[List.length_dropLast];lia))
 exact this _ u rfl
def zbp{gl:Gl}(ha:Asc gl){s:Sg}{N:Nat}(hgo: ∀i,i<N->i<(runF' gl i 0 [(s,[])]).length)(hend:(runF' gl N 0 [(s,[])]).length=N): ∀(w:List Int) (g:Sg),go gl (some s) w=some g->∃w0,(g,w0)∈runF' gl N 0 [(s,[])]/\sle w0 w:=by
 have B:=z1G (z4e ha s) hgo N (i6 _)
 refine z8A ?_ ?_
 .intro g h
  cases h
  refine⟨[], ?_, .inl rfl⟩
  have: ∀n i (F:Fd),(s,([]:List Int))∈F->(s,[])∈runF' gl n i F:=by
   intro n
   induction n with
   |zero=>intro i F h;exact h
   |succ n ih=>
    intro i F h
    obtain⟨A,hA⟩:=z5u (gl:=gl) (F:=F) (i:=i)
    exact ih (i+1) _ (by rw[hA];exact i8 _ h)
  exact this N 0 _ l6
 .intro u k ih g h
  rw[z8s] at h
  cases e:go gl (some s) u with
  |none=>rw[e,z4a] at h;cases h
  |some h'=>
   rw[e] at h
   obtain⟨w0,h1,h2⟩:=ih h' e
   obtain⟨j,hj⟩:=List.mem_iff_getElem?.mp h1
   have hjl:=(List.getElem?_eq_some_iff.mp hj).1
   obtain⟨w,h3,h4⟩:=B.cov j _ ⋯ hj _ (z5y (show st1 gl h' k=some g from h))
   exact⟨w,h3,z6P (h4.elim .inl .inr) (zfQ k h2)⟩
def z6Q{gl:Gl}(ha:Asc gl){E:Sg->Bool}{s:Sg}{N:Nat}(hgo: ∀i,i<N->i<(runF' gl i 0 [(s,[])]).length)(hend:(runF' gl N 0 [(s,[])]).length=N):
 match (runF' gl N 0 [(s,[])]).find? (λq=>E q.1) with
 |none=> ∀w,¬Tkn gl E s w
 |some q=>Tkn gl E s q.2/\∀w,Tkn gl E s w->sle q.2 w:=by
 have B:=z1G (z4e ha s) hgo N (i6 _)
 cases e:(runF' gl N 0 [(s,[])]).find? (λq=>E q.1) with
 |none=>
  rintro w ⟨g,h1,h2⟩
  obtain⟨w0,h3,_⟩:=zbp ha hgo hend w g h1
  exact absurd h2 (List.find?_eq_none.mp e _ h3)
 |some q=>
  refine⟨⟨q.1,ziV ha hgo N (i6 _) q (List.mem_of_find?_eq_some e),by have:=List.find?_some e;exact this⟩, ?_⟩
  rintro w ⟨g,h1,h2⟩
  obtain⟨w0,h3,h4⟩:=zbp ha hgo hend w g h1
  refine z6P ?_ h4
  obtain⟨_,as,bs,hab,hno⟩:=List.find?_eq_some_iff_append.mp e
  have pw:=B.pw
  rw[hab] at h3 pw
  rcases l4.mp h3 with h3|h3
  .have:=hno _ h3;simp[h2] at this
  .rcases m3.mp h3 with rfl|h3
   .exact .inl rfl
   .exact .inr ((N5.mp (O7.mp pw).2.1).1 _ h3)
def zjz(u v:List Int):Prop:=u.length<=v.length
def zbq{pl:Gl}{F0:Fd}(h: ∀q∈F0,q.2=[]):Rl zjz pl F0:=⟨λa b h=>by erw[zjz,m5,D3] at h⊢;lia,λg=>List.pairwise_of_forall λx y w=>by simp[zjz],λq hq w k=>by rw[h q hq];exact B9 _,List.pairwise_of_forall_mem_list λp hp q _=>by rw[h p hp];exact B9 _⟩
structure Pr(gl pl:Gl)(V:Sg->Prop):Prop where
 fwd: ∀g,∀x∈pl g,V x.2/\∃k,(k,g)∈gl x.2
 bwd: ∀h k g,V h->(k,g)∈gl h->∃k',(k',h)∈pl g
def zfR{gl pl:Gl}(ha:Asc gl){V:Sg->Prop}(hp:Pr gl pl V){E:Sg->Bool}{F0:Fd}(h0: ∀q∈F0,q.2=[]/\E q.1=true){N:Nat}(hgo: ∀i,i<N->i<(runF' pl i 0 F0).length): ∀q∈runF' pl N 0 F0,∃w,Tkn gl E q.1 w/\w.length=q.2.length:=by
 have B:=z1G (zbq λq hq=>(h0 q hq).1) hgo N (i6 _)
 have key: ∀n (q:Sg×List Int),q.2.length<=n->q∈runF' pl N 0 F0->∃w,Tkn gl E q.1 w/\w.length=q.2.length:=by
  intro n
  induction n with
  |zero=>
   intro q hn hq
   rcases B.org q hq with h|⟨j,p,_,_,x,_,rfl⟩
   .exact⟨[],⟨q.1,rfl,(h0 q h).2⟩,by rw[(h0 q h).1]⟩
   .simp at hn
  |succ n ih=>
   intro q hn hq
   rcases B.org q hq with h|⟨j,p,_,ej,x,hx,rfl⟩
   .exact⟨[],⟨q.1,rfl,(h0 q h).2⟩,by rw[(h0 q h).1]⟩
   .obtain⟨w,⟨e,h1,h2⟩,h3⟩:=ih p (by simp at hn;lia) (List.mem_of_getElem? ej)
    obtain⟨_,k,hk⟩:=hp.fwd _ x hx
    refine⟨k::w,⟨e, ?_,h2⟩,by simp[h3]⟩
    show go gl (st1 gl x.2 k) w=some e
    rw[z8t ha hk];exact h1
 exact λq hq=>key _ q (i6 _) hq
theorem zbr{gl pl:Gl}{V:Sg->Prop}(hp:Pr gl pl V)(hV: ∀h,V h->∀x∈gl h,V x.2){E:Sg->Bool}{F0:Fd}(h0: ∀q∈F0,q.2=[])(h1: ∀g,V g->E g=true->(g,[])∈F0){N:Nat}(hgo: ∀i,i<N->i<(runF' pl i 0 F0).length)(hend:(runF' pl N 0 F0).length=N): ∀(w:List Int) (g:Sg),V g->Tkn gl E g w->∃w0,(g,w0)∈runF' pl N 0 F0/\w0.length<=w.length
 |[],g,hg,⟨e,he,hE⟩=>by
  cases he
  have B:=z1G (zbq h0) hgo N (i6 _)
  obtain⟨A,hA⟩: ∃A,runF' pl N 0 F0=F0++A:=by
   have: ∀n i (F:Fd),∃A,runF' pl n i F=F++A:=by
    intro n
    induction n with
    |zero=>intro i F;exact⟨[],by simp[runF']⟩
    |succ n ih=>
     intro i F
     obtain⟨A,hA⟩:=z5u (gl:=pl) (F:=F) (i:=i)
     obtain⟨B,hB⟩:=ih (i+1) (proc pl F i)
     exact⟨A++B,by show runF' pl n (i+1) (proc pl F i)=_;rw[hB,hA,A3]⟩
   exact this N 0 F0
  exact⟨[],by rw[hA];exact i8 _ (h1 g hg hE),i6 _⟩
 |k::w,g,hg,⟨e,he,hE⟩=>by
  have B:=z1G (zbq h0) hgo N (i6 _)
  cases es:st1 gl g k with
  |none=>
   have:go gl (st1 gl g k) w=some e:=he
   rw[es,z4a] at this;cases this
  |some g'=>
   have he':go gl (some g') w=some e:=by rw[<-es];exact he
   have hm:=z5y es
   obtain⟨w0,h2,h3⟩:=zbr hp hV h0 h1 hgo hend w g' (hV g hg _ hm) ⟨e,he',hE⟩
   obtain⟨k',hk'⟩:=hp.bwd g k g' hg hm
   obtain⟨j,hj⟩:=List.mem_iff_getElem?.mp h2
   have hjl:=(List.getElem?_eq_some_iff.mp hj).1
   obtain⟨w1,h4,h5⟩:=B.cov j _ ⋯ hj _ hk'
   refine⟨w1,h4, ?_⟩
   rcases h5 with rfl|h5
   .simp;lia
   .erw[zjz,m5,D3] at h5
    erw[A4];lia
def Far(gl:Gl)(E:Sg->Bool)(D:Sg->Option Nat)(V:Sg->Prop):Prop:= ∀g,V g->(∀w,Tkn gl E g w->∃m,D g=some m/\m<=w.length)/\∀m,D g=some m->∃w,Tkn gl E g w/\w.length=m
def gr(gl:Gl)(D:Sg->Option Nat):Nat->Sg->List Int
 |0,_=>[]
 |m+1,g=>match (gl g).find? (λx=>decide (D x.2=some m)) with
  |some x=>x.1::gr gl D m x.2
  |none=>[]
theorem zd9{gl:Gl}(ha:Asc gl){E:Sg->Bool}{D:Sg->Option Nat}{V:Sg->Prop}(hV: ∀h,V h->∀x∈gl h,V x.2)(hD:Far gl E D V): ∀(m:Nat) (g:Sg),V g->D g=some m->
 Tkn gl E g (gr gl D m g)/\(gr gl D m g).length=m/\(∀w,Tkn gl E g w->w.length=m->gr gl D m g=w\/llt (gr gl D m g) w)/\(∀m',m=m'+1->∃x,(gl g).find? (λx=>decide (D x.2=some m'))=some x)
 |0,g,hg,h=>by
  obtain⟨w,h1,h2⟩:=(hD g hg).2 0 h
  rw[C1 h2] at h1
  exact⟨h1,rfl,λw _ h=> .inl (C1 h).symm,λm' h=>by lia⟩
 |m+1,g,hg,h=>by
  have near: ∀w,Tkn gl E g w->w.length=m+1->∃k w2 g',w=k::w2/\(k,g')∈gl g/\D g'=some m/\Tkn gl E g' w2/\w2.length=m:=by
   rintro w ⟨e,he,hE⟩ hl
   cases w with
   |nil=>simp at hl
   |cons k w2=>
    have hl:w2.length=m:=by simpa using hl
    cases es:st1 gl g k with
    |none=>
     have:go gl (st1 gl g k) w2=some e:=he
     rw[es,z4a] at this;cases this
    |some g'=>
     have he':go gl (some g') w2=some e:=by rw[<-es];exact he
     have hm:=z5y es
     have hg':=hV g hg _ hm
     obtain⟨m1,h1,h2⟩:=(hD g' hg').1 w2 ⟨e,he',hE⟩
     obtain⟨w3,⟨e3,h3,hE3⟩,h4⟩:=(hD g' hg').2 m1 h1
     obtain⟨m2,h5,h6⟩:=(hD g hg).1 (k::w3) ⟨e3,by show go gl (st1 gl g k) w3=_;rw[es];exact h3,hE3⟩
     rw[h] at h5
     cases h5
     have:m1=m:=by simp at h6;lia
     subst this
     exact⟨k,w2,g',rfl,hm,h1,⟨e,he',hE⟩,hl⟩
  obtain⟨w,h1,h2⟩:=(hD g hg).2 _ h
  obtain⟨k,w2,g',rfl,hm,hd,_,_⟩:=near w h1 h2
  cases e:(gl g).find? (λx=>decide (D x.2=some m)) with
  |none=>exact absurd (List.find?_eq_none.mp e _ hm) (by simp[hd])
  |some x=>
   have hx:=List.mem_of_find?_eq_some e
   have hdx:D x.2=some m:=by have:=List.find?_some e;exact of_decide_eq_true this
   have hgx:=hV g hg _ hx
   have eg:gr gl D (m+1) g=x.1::gr gl D m x.2:=by conv=>lhs;unfold gr;rw[e]
   obtain⟨⟨e2,i1,iE⟩,i2,i3,_⟩:=zd9 ha hV hD m x.2 hgx hdx
   rw[eg]
   refine⟨⟨e2,by show go gl (st1 gl g x.1) _=_;rw[z8t ha hx];exact i1,iE⟩,by simp[i2],λw hw hl=> ?_,λm' hm'=> ?_⟩
   .obtain⟨k,w2,g',rfl,hm,hd,ht,hl2⟩:=near w hw hl
    obtain⟨_,as,bs,hab,hno⟩:=List.find?_eq_some_iff_append.mp e
    have pw:=ha g
    rw[hab] at hm pw
    have:x.1<=k/\(x.1=k->x.2=g'):=by
     rcases l4.mp hm with q|q
     .have:=hno _ q;simp[hd] at this
     .rcases m3.mp q with q|q
      .rw[<-q];exact⟨Int.le_refl _,λ_=>rfl⟩
      .have:=(N5.mp (O7.mp pw).2.1).1 _ q
       exact⟨⋯,λh=>by simp only at this;lia⟩
    rcases Int.lt_or_eq_of_le this.1 with q|q
    .exact .inr (.inl q)
    .obtain rfl:=this.2 q
     rcases i3 w2 ht hl2 with z|z
     .exact .inl (by rw[q,z])
     .exact .inr (.inr ⟨q,z⟩)
   .obtain rfl:m=m':=by lia
    exact⟨x,e⟩
def zmn{gl:Gl}(ha:Asc gl){E:Sg->Bool}{D:Sg->Option Nat}{V:Sg->Prop}(hV: ∀h,V h->∀x∈gl h,V x.2)(hD:Far gl E D V){s:Sg}(hs:V s){N:Nat}(hgo: ∀i,i<N->i<(runF' gl i 0 [(s,[])]).length)(hend:(runF' gl N 0 [(s,[])]).length=N):
 ((runF' gl N 0 [(s,[])]).find? λq=>E q.1).map (·.2)=(D s).map λm=>gr gl D m s:=by
 have h1:=z6Q ha (E:=E) hgo hend
 cases e:(runF' gl N 0 [(s,[])]).find? (λq=>E q.1) with
 |none=>
  rw[e] at h1
  cases d:D s with
  |none=>rfl
  |some m=>
   obtain⟨w,h2,_⟩:=(hD s hs).2 m d
   exact absurd h2 (h1 w)
 |some q=>
  rw[e] at h1
  obtain⟨h2,h3⟩:=h1
  obtain⟨m,d,hm⟩:=(hD s hs).1 q.2 h2
  obtain⟨g1,g2,g3,_⟩:=zd9 ha hV hD m s hs d
  rw[d,i9,i9]
  congr 1
  refine zd8 (h3 _ g1) ?_
  rcases F6 hm with q'|q'
  .exact .inr (.inl ⋯)
  .rcases g3 q.2 h2 q'.symm with z|z
   .exact .inl z
   .exact .inr (.inr ⟨⋯,z⟩)
def z7K rows(hw: ∀r∈rows,Wf r) l n q K(hl:l<n)(hK: ∀d,rp (pl n d) K=K)(hK1: ∀d,rp (pl (n+1) d) K=K): ∀m R S L o5 o6,R.length<m->R.length<=200->S.length+3*R.length<=2000->L.length+R.length<=2000->(∀k d,B6 (rp (pl k d)) o5=o5)->(∀k d,B6 (rp (pl k d)) o6=o6)->∃p5 p6,(∀k d,B6 (rp (pl k d)) p5=p5)/\(∀k d,B6 (rp (pl k d)) p6=p6)/\
 Y5 (z1r (y0 4)) (Z1 (Y1 (.tp [(.nm 5),(.nm 6),(.nm 4)]) (Z2 U1 [(y0 0),(y0 4)])) (Z1 (Q8 (Q2 (y0 2) [(y0 5)] z2k)) (Q8 (Q2 (y0 3) [(y0 6)] z2k)))) m ⟨[some (.lst l (rows.map rD)),some K,some (.lst n (S.map .int)),some (.lst (n+1) (L.map .int)),some (.tup (R.map .int)),o5,o6],[some (.lst l (rows.map rD)),some K],q⟩
  = .nx ⟨[some (.lst l (rows.map rD)),some K,some (.lst n ((S++(readA rows R).1).map .int)),some (.lst (n+1) ((L++(readA rows R).2).map .int)),some (.tup []),p5,p6],[some (.lst l (rows.map rD)),some K],q⟩:=by
 intro m
 induction m with
 |zero=>intro R S L o5 o6 h;lia
 |succ m ih=>
  intro R S L o5 o6 h h2 h3 h4 r5 r6
  unfold Y5
  cases R with
  |nil=>
   refine⟨o5,o6,r5,r6, ?_⟩
   left
   erw[z2p,l7,t7,O2,D6]
   left
  |cons a R=>
   obtain⟨l1,l2,l3⟩:=K2 hw (S5 a R)
   have e0:=z1I hw (S5 a R)
   have ps:=z8j rows (a::R) l q hw ⋯
   have hne:((a::R).map D.int).isEmpty=false:=rfl
   generalize hR:a::R=R' at*
   left
   erw[hne]
   left
   rw[ps]
   left
   rw[z4H (by rw[zl];erw[l0];lia) (Z9 _)]
   left
   simp only[<-t5,Z7 (show l≠n by lia),W3 (show n+1≠n by lia),Y8,hK]
   left
   erw[W3 (show n+1≠n by lia)]
   rw[z4H (by rw[zl];erw[l0];lia) (Z9 _)]
   left
   simp only[<-t5,Z7 (show l≠n+1 by lia),W3 (show n≠n+1 by lia),Y8,hK1]
   obtain⟨p5,p6,g5,g6,e⟩:=ih (Q3 rows R').2.2 (S++(Q3 rows R').1) (L++(Q3 rows R').2.1) (some (.tup ((Q3 rows R').1.map .int))) (some (.tup ((Q3 rows R').2.1.map .int))) ⋯ ⋯ (by rw[m5];lia) (by rw[m5];lia) (λ_ _=>by rw[i9,z2q]) (λ_ _=>by rw[i9,z2q])
   refine⟨p5,p6,g5,g6, ?_⟩
   rw[e,e0]
   erw[A3]
def zda rows ks l n K(hw: ∀r∈rows,Wf r)(hk:ks.length<=200)(hl:l<n)(hK:(∃k,k<n/\K= .lst k (ks.map .int))\/K= .tup (ks.map .int)):z07 [.lst l (rows.map rD),K] n= .ok (.tup [.lst n ((readA rows ks).1.map .int), .lst (n+1) ((readA rows ks).2.map .int)]) [.lst l (rows.map rD),K] (n+2):=by
 have hK2:z68 [K]=z68 [.tup (ks.map .int)]:=by
  rcases hK with⟨k,_,rfl⟩|rfl<;>rfl
 unfold z07 z1j
 left
 rw[hK2]
 left
 rw[z6F]
 have rK: ∀j,n<=j->∀d,rp (pl j d) K=K:=λj hj d=>by
  rcases hK with⟨k,hk,rfl⟩|rfl
  .exact W3 ⋯
  .exact z2q
 obtain⟨p5,p6,_,_,e⟩:=z7K rows hw l n (n+1+1) K hl (rK n (i6 _)) (rK (n+1) ⋯) 1000 ks [] [] none none ⋯ hk (by simp;lia) (by simp;lia) (λ_ _=>rfl) (λ_ _=>rfl)
 erw[t7,B0] at e
 rw[e]
 left
def zfS rows ks l n(hw: ∀r∈rows,Wf r)(hk:ks.length<=200)(hl:l<n):K9 [.lst l (rows.map rD), .tup (ks.map .int)] n= .ok (.tup [.lst n ((readA rows ks).1.map .int), .lst (n+1) ((readA rows ks).2.map .int)]) [.lst l (rows.map rD), .tup (ks.map .int)] (n+2):=by
 unfold K9 z1C
 left
 rw[zda rows ks l n _ hw hk hl (.inr rfl)]
 left
def FdF(F:Fd)(vs:List D):D:= .fdc (ksF F) vs
def z36{R:Sg×List Int->D->Prop}(h:GV R F vs) k d:rp (pl k d) (FdF F vs)=FdF F vs:=U2 (by erw[FdF,Mi.labs,z5B,h.labs];exact m8)
def zbs{R:Sg×List Int->D->Prop}{F:Fd}{q:Sg×List Int}(h:GV R F vs)(hn:(F.map (·.1)).Nodup)(hq:q∈F): ∃v,R q v/\∀s:Stt,z08 (FdF F vs) (gD q.1) s= .ok v s:=by
 obtain⟨v,f,r,l⟩:=h.find hn hq
 refine⟨v,r,λs=> ?_⟩
 unfold z08 FdF
 erw[rdD,qy (z5C F),X7,f]
 rfl
def ziW{l:Nat}{ds:List D}{s:Stt}:zgh (.lst l ds) [] s= .ok .non (s.put l (.lst l ds.reverse)):=rfl
def Cl(gl:Gl)(F:Fd):Prop:=(F.map (·.1)).Nodup/\(∀q∈F,go gl (some (0,[])) q.2=some q.1)/\∀q∈F,q.2=[]\/∃p∈F,∃k,q.2=p.2++[k]
def kwB:MS:=(Z1 (Q8 (Q2 (y0 2) [(y0 5)] z1N)) (Y1 (.tp [(.nm 3),(.nm 4),(.nm 5)]) (y4 (y0 0) (y0 4) z08)))
def zdb rows sn(F:Fd) vs(hV:GV (RP rows sn) F vs)(hC:Cl (gl rows sn) F)(g0:Sg) n N:
 ∀m fuel (q:Sg×List Int) x y acc,q∈F->q.2.length=m->m<fuel->acc.length+m<=100000->RP rows sn q (.tup [.int (m:Nat),x,y])->
 ∃x' y',(∀k d,rp (pl k d) x'=x')/\(∀k d,rp (pl k d) y'=y')/\Y5 (J4 (y4 (y0 3) (mC (.int 0)) gtD)) kwB fuel ⟨[some (FdF F vs),some (gD g0),some (.lst n (acc.map .int)),some (.int (m:Nat)),some x,some y],[some (FdF F vs),some (gD g0)],N⟩= .nx ⟨[some (FdF F vs),some (gD g0),some (.lst n ((acc++q.2.reverse).map .int)),some (.int 0),some x',some y'],[some (FdF F vs),some (gD g0)],N⟩:=by
 intro m
 induction m with
 |zero=>
  intro fuel q x y acc hq hm hf ha hR
  obtain⟨f,rfl⟩: ∃f,fuel=f+1:=⟨fuel - 1,⋯⟩
  have e0:q.2=[]:=C1 hm
  rcases hR with⟨_,e⟩|⟨u,k,h,e,_,_⟩
  .erw[D.tup.injEq,List.cons.injEq,and_true] at e
   obtain⟨_,rfl,rfl⟩:=e
   refine⟨.non, .non,λ_ _=>rfl,λ_ _=>rfl, ?_⟩
   rw[e0,O0,l7]
   unfold Y5
   left
   rw[show decide ((0:Int)<((0:Nat):Int))=false from rfl]
   rfl
  .rw[e0] at e;simp at e
 |succ m ih=>
  intro fuel q x y acc hq hm hf ha hR
  obtain⟨f,rfl⟩: ∃f,fuel=f+1:=⟨fuel - 1,⋯⟩
  rcases hR with⟨e,_⟩|⟨u,k,h,e,hg,ev⟩
  .rw[e] at hm;simp at hm
  .erw[D.tup.injEq,List.cons.injEq,D.int.injEq,and_true] at ev
   obtain⟨e1,rfl,rfl⟩:=ev
   have hu:u.length=m:=by rw[e] at hm;simpa using hm
   obtain⟨p,hp,ep⟩: ∃p∈F,p.2=u:=by
    rcases hC.2.2 q hq with e'|⟨p,hp,k',e'⟩
    .rw[e] at e';simp at e'
    .rw[e] at e'
     exact⟨p,hp,(List.append_inj' e' rfl).1.symm⟩
   have eh:p.1=h:=by
    have:=hC.2.1 p hp
    rw[ep,hg] at this;cases this;rfl
   obtain⟨v,hv,ev⟩:=zbs hV hC.1 hp
   obtain⟨x2,y2,rfl⟩:=hv.c
   rw[ep,hu] at hv ev
   obtain⟨x',y',h1,h2,e2⟩:=ih f p x2 y2 (acc++[k]) hp (by rw[ep];exact hu) ⋯ (by simp;lia) hv
   refine⟨x',y',h1,h2, ?_⟩
   have hk:decide ((0:Int)<((m+1:Nat):Int))=true:=decide_eq_true ⋯
   unfold Y5
   left
   rw[hk]
   left
   unfold kwB
   left
   rw[Mi.y_app ⟨by rw[zl,l0];lia,by exact m8⟩]
   left
   erw[z36 hV,z4p]
   rw[show(acc.map D.int)++[D.int k]=(acc++[k]).map D.int from by simp,<-eh,ev]
   left
   have er:acc++[k]++p.2.reverse=acc++q.2.reverse:=by rw[e,ep];simp
   rw[er] at e2
   unfold kwB at e2
   exact e2
def zfT rows sn(F:Fd) vs(hV:GV (RP rows sn) F vs)(hC:Cl (gl rows sn) F)(q:Sg×List Int)(hq:q∈F)(hl:q.2.length<=6000) n:
 v6 [FdF F vs,gD q.1] n= .ok (.lst n (q.2.map .int)) [FdF F vs,gD q.1] (n+1):=by
 obtain⟨v,hv,ev⟩:=zbs hV hC.1 hq
 obtain⟨x,y,rfl⟩:=hv.c
 obtain⟨x',y',h1,h2,e⟩:=zdb rows sn F vs hV hC q.1 n (n+1) q.2.length 100000 q x y [] hq rfl ⋯ (by simp;lia) hv
 unfold v6
 have e0:z0o=(Z1 (Y1 (.nm 2) (mCB [] lstM))
  (Z1 (Y1 (.tp [(.nm 3),(.nm 4),(.nm 5)]) (y4 (y0 0) (y0 1) z08))
  (Z1 (z0A (λ_=>100000) (J4 (y4 (y0 3) (mC (.int 0)) gtD)) kwB)
  (Z1 (Q8 (Q2 (y0 2) [] zgh))
  (K5 (y0 2)))))):=rfl
 rw[e0]
 left
 rw[ev]
 left
 rw[z6F]
 erw[t7,B0] at e
 rw[e]
 left
 rw[ziW]
 left
 simp only[z36 hV,z4p,<-S2,O4]
def Ends(rows:List Z6)(sn:List Int)(g:Sg):Bool:=decide (readA rows g.2=(sn.drop g.1,[]))
def feB:MS:=(Z1 (Y1 (.tp [(.nm 5),(.nm 6)]) (Z2 K9 [(y0 0),(y0 4)]))
 (sIf (z9r (z9s (z1r (y0 6))) (J4 (y4 (y0 5) (mSl (y0 1) (some (y0 3)) none) eqD))) (K5 (Z2 v6 [(y0 2),(mCB [(y0 3),(y0 4)] j3)])) sNx))
def zfU{g:Sg}(h:(readA rows g.2).2≠[]):Ends rows sn g=false:=by
 unfold Ends
 rw[decide_eq_false_iff_not]
 intro e;rw[e] at h;exact h rfl
def zfV{sn:List Int}{g:Sg}(h:(readA rows g.2).2=[]):Ends rows sn g=decide ((readA rows g.2).1=sn.drop g.1):=by
 unfold Ends
 exact decide_eq_decide.mpr ⟨λe=>by rw[e],λe=>by rw[<-e,<-h]⟩
def zfW(rows:List Z6)(hw: ∀r∈rows,Wf r)(sn:List Int)(hsn:sn.length<=24)(l ls n:Nat)(hl:l<n)(hs:ls<n)(F:Fd)(vs:List D)(hV:GV (RP rows sn) F vs)(hC:Cl (gl rows sn) F)(hF:F.length<=5000)(hW: ∀q∈F,q.1.2.length<=3/\q.2.length<=6000):
 ∀(f i:Nat) (o3 o4 o5 o6:Option D) (m:Nat),i+f=F.length->n<=m->
 match (F.drop i).find? (λq=>Ends rows sn q.1) with
 |none=> ∃p3 p4 p5 p6 m',m<=m'/\forGo kDct (.tp [(.nm 3),(.nm 4)]) feB f i ⟨[some (.lst l (rows.map rD)),some (.lst ls (sn.map .int)),some (FdF F vs),o3,o4,o5,o6],[some (FdF F vs),some (.lst l (rows.map rD)),some (.lst ls (sn.map .int))],m⟩= .nx ⟨[some (.lst l (rows.map rD)),some (.lst ls (sn.map .int)),some (FdF F vs),p3,p4,p5,p6],[some (.lst l (rows.map rD)),some (.lst ls (sn.map .int))],m'⟩
 |some q=> ∃k p3 p4 p5 p6 m',m<=k/\k<m'/\forGo kDct (.tp [(.nm 3),(.nm 4)]) feB f i ⟨[some (.lst l (rows.map rD)),some (.lst ls (sn.map .int)),some (FdF F vs),o3,o4,o5,o6],[some (FdF F vs),some (.lst l (rows.map rD)),some (.lst ls (sn.map .int))],m⟩= .rt (.lst k (q.2.map .int)) ⟨[some (.lst l (rows.map rD)),some (.lst ls (sn.map .int)),some (FdF F vs),p3,p4,p5,p6],[some (.lst l (rows.map rD)),some (.lst ls (sn.map .int))],m'⟩:=by
 intro f
 induction f with
 |zero=>
  intro i o3 o4 o5 o6 m hi hm
  rw[D7 ⋯]
  refine⟨o3,o4,o5,o6,m,i6 _, ?_⟩
  rw[zaU (by show some (ksF F)[i]? =_;rw[List.getElem?_eq_none (by simp[ksF];lia)])]
  rfl
 |succ f ih=>
  intro i o3 o4 o5 o6 m hi hm
  have hlt:i<F.length:=by lia
  have hmem:=A9 hlt
  rw[R5 hlt]
  obtain⟨w3,w6⟩:=hW _ hmem
  have hat:kDct.at' i [some (FdF F vs),some (.lst l (rows.map rD)),some (.lst ls (sn.map .int))]=some (some (gD F[i].1)):=by
   show some (ksF F)[i]? =_
   simp[ksF,hlt]
  have hkw:=λN=>zfT rows sn F vs hV hC F[i] hmem w6 N
  have ep:=zfS rows F[i].1.2 l m hw ⋯ ⋯
  have hlen:=z8m hw F[i].1.2.length F[i].1.2 (i6 _)
  generalize F[i]=q at*
  have hb:feB ⟨[some (.lst l (rows.map rD)),some (.lst ls (sn.map .int)),some (FdF F vs),some (.int q.1.1),some (.tup (q.1.2.map .int)),o5,o6],[some (FdF F vs),some (.lst l (rows.map rD)),some (.lst ls (sn.map .int))],m⟩=match Ends rows sn q.1,(readA rows q.1.2).2.isEmpty with
   |true,_=> .rt (.lst (m+3) (q.2.map .int)) ⟨[some (.lst l (rows.map rD)),some (.lst ls (sn.map .int)),some (FdF F vs),some (.int q.1.1),some (.tup (q.1.2.map .int)),some (.lst m ((readA rows q.1.2).1.map .int)),some (.lst (m+1) ((readA rows q.1.2).2.map .int))],[some (FdF F vs),some (.lst l (rows.map rD)),some (.lst ls (sn.map .int))],m+4⟩
   |false,true=> .nx ⟨[some (.lst l (rows.map rD)),some (.lst ls (sn.map .int)),some (FdF F vs),some (.int q.1.1),some (.tup (q.1.2.map .int)),some (.lst m ((readA rows q.1.2).1.map .int)),some (.lst (m+1) ((readA rows q.1.2).2.map .int))],[some (FdF F vs),some (.lst l (rows.map rD)),some (.lst ls (sn.map .int))],m+3⟩
   |false,false=> .nx ⟨[some (.lst l (rows.map rD)),some (.lst ls (sn.map .int)),some (FdF F vs),some (.int q.1.1),some (.tup (q.1.2.map .int)),some (.lst m ((readA rows q.1.2).1.map .int)),some (.lst (m+1) ((readA rows q.1.2).2.map .int))],[some (FdF F vs),some (.lst l (rows.map rD)),some (.lst ls (sn.map .int))],m+2⟩:=by
   unfold feB
   left
   rw[ep]
   left
   cases hL:(readA rows q.1.2).2 with
   |cons a L=>
    rw[zfU (by rw[hL];exact S5 _ _)]
    erw[i7,u0a]
    left
   |nil=>
    rw[zfV hL]
    erw[t7,O2]
    left
    rw[z6D,z7D,zbd ⋯ (by rw[C2];lia)]
    cases hE:decide ((readA rows q.1.2).1=sn.drop q.1.1) with
    |false=>
     left
    |true=>
     left
     rw[show D.tup [.int q.1.1, .tup (q.1.2.map .int)]=gD q.1 from rfl,hkw]
     left
  cases hE:Ends rows sn q.1 with
  |true=>
   rw[List.find?_cons_of_pos (by exact hE)]
   rw[hE] at hb
   refine⟨m+3,some (.int q.1.1),some (.tup (q.1.2.map .int)),some (.lst m ((readA rows q.1.2).1.map .int)),some (.lst (m+1) ((readA rows q.1.2).2.map .int)),m+4,⋯,⋯, ?_⟩
   unfold forGo
   erw[hat]
   show(match feB ⟨[some (.lst l (rows.map rD)),some (.lst ls (sn.map .int)),some (FdF F vs),some (.int q.1.1),some (.tup (q.1.2.map .int)),o5,o6],[some (FdF F vs),some (.lst l (rows.map rD)),some (.lst ls (sn.map .int))],m⟩ with
    | .nx s'=>_
    | .ct s'=>_
    | .bk s'=>_
    | .rt d s'=>_
    | .ex d s'=>_
    | .no=>_)=_
   rw[hb]
   rfl
  |false=>
   rw[List.find?_cons_of_neg (by rw[hE];decide)]
   rw[hE] at hb
   obtain⟨m1,hm1,e1⟩: ∃m1,m<=m1/\feB ⟨[some (.lst l (rows.map rD)),some (.lst ls (sn.map .int)),some (FdF F vs),some (.int q.1.1),some (.tup (q.1.2.map .int)),o5,o6],[some (FdF F vs),some (.lst l (rows.map rD)),some (.lst ls (sn.map .int))],m⟩= .nx ⟨[some (.lst l (rows.map rD)),some (.lst ls (sn.map .int)),some (FdF F vs),some (.int q.1.1),some (.tup (q.1.2.map .int)),some (.lst m ((readA rows q.1.2).1.map .int)),some (.lst (m+1) ((readA rows q.1.2).2.map .int))],[some (FdF F vs),some (.lst l (rows.map rD)),some (.lst ls (sn.map .int))],m1⟩:=by
    cases hz:(readA rows q.1.2).2.isEmpty with
    |true=>rw[hz] at hb;exact⟨m+3,⋯,hb⟩
    |false=>rw[hz] at hb;exact⟨m+2,⋯,hb⟩
   have e2: ∀fu,forGo kDct (.tp [(.nm 3),(.nm 4)]) feB (fu+1) i ⟨[some (.lst l (rows.map rD)),some (.lst ls (sn.map .int)),some (FdF F vs),o3,o4,o5,o6],[some (FdF F vs),some (.lst l (rows.map rD)),some (.lst ls (sn.map .int))],m⟩=forGo kDct (.tp [(.nm 3),(.nm 4)]) feB fu (i+1) ⟨[some (.lst l (rows.map rD)),some (.lst ls (sn.map .int)),some (FdF F vs),some (.int q.1.1),some (.tup (q.1.2.map .int)),some (.lst m ((readA rows q.1.2).1.map .int)),some (.lst (m+1) ((readA rows q.1.2).2.map .int))],[some (FdF F vs),some (.lst l (rows.map rD)),some (.lst ls (sn.map .int))],m1⟩:=λfu=>z8h hat rfl e1
   have q':=ih (i+1) (some (.int q.1.1)) (some (.tup (q.1.2.map .int))) (some (.lst m ((readA rows q.1.2).1.map .int))) (some (.lst (m+1) ((readA rows q.1.2).2.map .int))) m1 ⋯ ⋯
   rw[e2]
   cases hf:(F.drop (i+1)).find? (λq=>Ends rows sn q.1) with
   |none=>
    rw[hf] at q'
    obtain⟨p3,p4,p5,p6,m',h1,h2⟩:=q'
    exact⟨p3,p4,p5,p6,m',⋯,h2⟩
   |some q2=>
    rw[hf] at q'
    obtain⟨k,p3,p4,p5,p6,m',h1,h2,h3⟩:=q'
    exact⟨k,p3,p4,p5,p6,m',⋯,h2,h3⟩
def z7L{N:Nat}(hend:(runF' (gl rows sn) N 0 F0).length=N)(hgo: ∀i,i<N->i<(runF' (gl rows sn) i 0 F0).length): ∀q∈runF' (gl rows sn) N 0 F0,q.2.length<=N:=λq hq=>by
 have B:Bf slt (gl rows sn) F0 N (runF' (gl rows sn) N 0 F0):=z1G (z4e (z1W rows sn) (0,[])) hgo N (i6 _)
 have key: ∀(j:Nat) (q:Sg×List Int),(runF' (gl rows sn) N 0 F0)[j]? =some q->q.2.length<=j:=by
  intro j
  induction j using Nat.strongRecOn with
  |_ j ih=>
   intro q hq
   rcases B.org q (List.mem_of_getElem? hq) with h|⟨j',p,hj',ej,x,hx,rfl⟩
   .rw[m4.mp h];exact B9 _
   .rcases P7 j' j with h|h
    .have:=ih j' h p ej
     erw[m5,D3];lia
    .exfalso
     obtain⟨i1,e3⟩:=List.getElem?_eq_some_iff.mp hq
     obtain⟨i2,e4⟩:=List.getElem?_eq_some_iff.mp ej
     have hs1:slt p.2 (p.2++[x.1]):= .inl (by simp)
     rcases F6 h with h|h
     .have:=E3.mp B.pw j j' i1 i2 h
      rw[e3,e4] at this
      rcases z4d this hs1 with z|z
      .exact absurd z (D8 _)
      .exact z7J _ z.2
     .subst h
      rw[ej] at hq
      have:=congrArg (λo=>(B6 (λq:Sg×List Int=>q.2.length) o)) hq
      simp at this
 obtain⟨j,hj⟩:=List.mem_iff_getElem?.mp hq
 have:=(List.getElem?_eq_some_iff.mp hj).1
 have:=key j q hj
 lia
def z9m(o:Option (List Int))(k:Nat):D:=match o with
 |none=> .non
 |some w=> .lst k (w.map .int)
def zfX rows(hw: ∀r∈rows,Wf r)(hr:rows.length<=40) sn(hsn:sn.length<=24) l ls n(hl:l<n)(hs:ls<n) N(hN:N<=5000)(hend:(runF' (gl rows sn) N 0 F0).length=N)(hgo: ∀i,i<N->i<(runF' (gl rows sn) i 0 F0).length):
 ∃k n',n<=k/\k<n'/\V0 [.lst l (rows.map rD), .lst ls (sn.map .int)] n= .ok (z9m (((runF' (gl rows sn) N 0 F0).find? λq=>Ends rows sn q.1).map (·.2)) k) [.lst l (rows.map rD), .lst ls (sn.map .int)] n':=by
 obtain⟨vs,n1,hn1,hV,e1⟩:=zfO rows hw hr sn hsn l ls n hl hs N hN hend hgo
 have B:Bf slt (gl rows sn) F0 N (runF' (gl rows sn) N 0 F0):=z1G (z4e (z1W rows sn) (0,[])) hgo N (i6 _)
 obtain⟨ok1,ok2⟩:=z6N hw (sn:=sn) N
 have hlen:=z7L (sn:=sn) hend hgo
 have hC:Cl (gl rows sn) (runF' (gl rows sn) N 0 F0):=⟨ok1,λq hq=>(ok2 q hq).2,λq hq=>by
  rcases B.org q hq with h|⟨j,p,_,ej,x,_,rfl⟩
  .rw[m4.mp h];exact .inl rfl
  .exact .inr ⟨p,List.mem_of_getElem? ej,x.1,rfl⟩⟩
 have hW: ∀q∈runF' (gl rows sn) N 0 F0,q.1.2.length<=3/\q.2.length<=6000:=λq hq=>⟨z0D hw (ok2 q hq).1.2,by have:=hlen q hq;lia⟩
 have hF5:=z2s hw hr hsn N
 have hF5:(runF' (gl rows sn) N 0 F0).length<=5000:=hF5
 have q':=zfW rows hw sn hsn l ls n hl hs _ vs hV hC hF5 hW (runF' (gl rows sn) N 0 F0).length 0 none none none none n1 ⋯ ⋯
 generalize runF' (gl rows sn) N 0 F0=F at*
 rw[L7] at q'
 unfold V0
 have e0:z0p=(Z1 (Y1 (.nm 2) (Z2 z0n [(y0 0),(y0 1)]))
  (Z1 (V8 (z01 (y0 2)) (.tp [(.nm 3),(.nm 4)]) feB)
  (K5 (mC .non)))):=rfl
 rw[e0]
 left
 rw[e1]
 left
 have hi:z01 (y0 2) ⟨[some (.lst l (rows.map rD)),some (.lst ls (sn.map .int)),some (.dct n (ksF F) vs),none,none,none,none],[some (.lst l (rows.map rD)),some (.lst ls (sn.map .int))],n1⟩= .ok kDct ⟨[some (.lst l (rows.map rD)),some (.lst ls (sn.map .int)),some (FdF F vs),none,none,none,none],[some (FdF F vs),some (.lst l (rows.map rD)),some (.lst ls (sn.map .int))],n1⟩:=by
  unfold z01
  left
  show(if isT (ksF F)=true/\qq vs=[] then _ else _)=_
  rw[qy ⟨z5C F,hV.labs⟩]
  erw[z1F,Z0,Z8,i9,C9,Z7 (show l≠n by lia),W3 (show ls≠n by lia),z35]
  rfl
 rw[hi,z2a]
 rw[show kDct.len [some (FdF F vs),some (.lst l (rows.map rD)),some (.lst ls (sn.map .int))]=F.length by show(ksF F).length=_;simp[ksF]]
 cases hf:F.find? (λq=>Ends rows sn q.1) with
 |none=>
  rw[hf] at q'
  obtain⟨p3,p4,p5,p6,m',h1,h2⟩:=q'
  rw[h2]
  left
  exact⟨n,m',i6 _,⋯,rfl⟩
 |some q=>
  rw[hf] at q'
  obtain⟨k,p3,p4,p5,p6,m',h1,h2,h3⟩:=q'
  rw[h3]
  left
  exact⟨k,m',⋯,h2,rfl⟩
abbrev Ah:=List (Sg×Nat×List Sg)
def sgD(L:List Sg):List D:=L.map gD
def aK(A:Ah):List D:=A.map λa=>gD a.1
def aV(A:Ah):List D:=A.map λa=> .lst a.2.1 (sgD a.2.2)
def z4N(A:Ah)(g h:Sg):Ah:=A.map λa=>if a.1=g then(a.1,a.2.1,a.2.2++[h]) else a
structure Aok(lo hi c:Nat)(A:Ah):Prop where
 kn:(A.map (·.1)).Nodup
 ln:(A.map (·.2.1)).Nodup
 lb: ∀a∈A,lo<=a.2.1/\a.2.1<hi
 few: ∀a∈A,a.2.2.length<=c
def z8B L:qq (sgD L)=[]:=Q6 λd hd=>by obtain⟨q,_,rfl⟩:=l5.mp hd;exact z04 _
def zdX:rpL f (sgD L)=sgD L:=rpL_id _ λj hj=>by rw[z8B] at hj;cases hj
def zbt(A:Ah):qq (aK A)=[]:=Q6 λd hd=>by obtain⟨q,_,rfl⟩:=l5.mp hd;exact z04 _
def zfY{j:Nat}(h:j∈qq (aV A)): ∃a∈A,a.2.1=j:=by
 obtain⟨e,he,hk⟩:=qk h
 obtain⟨a,ha,rfl⟩:=l5.mp he
 erw[Mi.labs,z8B,m3,m8,or_false] at hk
 exact⟨a,ha,hk.symm⟩
def zmo(A:Ah):isT (aK A)=true:=by cases A<;>rfl
def ziX{lo hi c ja k:Nat}(h:Aok lo hi c A)(hj:ja≠k)(hk:k<lo\/hi<=k):rp (pl k d) (.dct ja (aK A) (aV A))= .dct ja (aK A) (aV A):=U2 λhm=>by
 erw[Mi.labs,zbt,B0,m3] at hm
 rcases hm with hm|hm
 .lia
 .obtain⟨a,ha,e⟩:=zfY hm
  have:=h.lb a ha
  lia
theorem zdY{a:Sg×Nat×List Sg}: ∀{A:Ah},(A.map (·.1)).Nodup->a∈A->findK (aK A) (aV A) (nkG a.1)=some (.lst a.2.1 (sgD a.2.2))
 |[],_,h=>nomatch h
 |b::A,hn,h=>by
  rw[i7,C0] at hn
  erw[aK,aV,i7,findK,X7,Option.some.injEq]
  rcases m3.mp h with rfl|h
  .rw[qy rfl]
  .rw[qh λz=>hn.1 (by rw[z2Y z];exact l5.mpr ⟨a,h,rfl⟩)]
   exact zdY hn.2 h
def zdZ{ja:Nat}{A:Ah}{a:Sg×Nat×List Sg}(hn:(A.map (·.1)).Nodup)(ha:a∈A):z08 (.dct ja (aK A) (aV A)) (gD a.1) s= .ok (.lst a.2.1 (sgD a.2.2)) s:=by
 unfold z08
 erw[rdD,qy (zmo A),X7,zdY hn ha]
 rfl
def z0Y(A:Ah)(g h:Sg):(z4N A g h).map (·.1)=A.map (·.1):=by
 erw[z4N,B7]
 refine D2 λa _=> ?_
 erw[Function.comp]
 split<;>rfl
def zbu(A:Ah)(g h:Sg):(z4N A g h).map (·.2.1)=A.map (·.2.1):=by
 erw[z4N,B7]
 refine D2 λa _=> ?_
 erw[Function.comp]
 split<;>rfl
def Aok.add{lo hi c:Nat}(h:Aok lo hi c A)(g g':Sg):Aok lo hi (c+1) (z4N A g g'):=by
 refine⟨by rw[z0Y];exact h.kn,by rw[zbu];exact h.ln,λa ha=> ?_,λa ha=> ?_⟩
 .obtain⟨b,hb,rfl⟩:=l5.mp ha
  have:=h.lb b hb
  split<;>exact this
 .obtain⟨b,hb,rfl⟩:=l5.mp ha
  have:=h.few b hb
  split
  .erw[m5,D3];lia
  .lia
def zfZ{ja lo hi c:Nat}(h:Aok lo hi c A){a:Sg×Nat×List Sg}(ha:a∈A)(hj:ja≠a.2.1)(g:Sg):rp (pl a.2.1 (.lst a.2.1 (sgD (a.2.2++[g])))) (.dct ja (aK A) (aV A))= .dct ja (aK (z4N A a.1 g)) (aV (z4N A a.1 g)):=by
 have ek:aK (z4N A a.1 g)=aK A:=by
  have:=congrArg (u0l gD) (z0Y A a.1 g)
  simpa[aK,B7,Function.comp_def] using this
 have ev:rpL (pl a.2.1 (.lst a.2.1 (sgD (a.2.2++[g])))) (aV A)=aV (z4N A a.1 g):=by
  have key: ∀B:Ah,(∀b∈B,b∈A)->rpL (pl a.2.1 (.lst a.2.1 (sgD (a.2.2++[g])))) (aV B)=aV (z4N B a.1 g):=by
   intro B
   induction B with
   |nil=>intro _;rfl
   |cons b B ih=>
    intro hB
    show rp _ _::rpL _ (aV B)=_
    rw[ih λx hx=>hB x (i5 _ hx)]
    show _::aV (z4N B a.1 g)=_::aV (z4N B a.1 g)
    congr 1
    show rp _ (.lst b.2.1 (sgD b.2.2))= .lst (if b.1=a.1 then(b.1,b.2.1,b.2.2++[g]) else b).2.1 (sgD (if b.1=a.1 then(b.1,b.2.1,b.2.2++[g]) else b).2.2)
    by_cases e:b.1=a.1
    .have hb:=hB b l6
     have eb:b=a:=by
      have:=h.kn
      clear ih hB ek
      induction A with
      |nil=>cases ha
      |cons x A ihA=>
       rw[i7,C0] at this
       rcases m3.mp ha with rfl|ha'<;>rcases m3.mp hb with rfl|hb'
       .rfl
       .exact absurd (l5.mpr ⟨b,hb',e⟩) this.1
       .exact absurd (l5.mpr ⟨a,ha',e.symm⟩) this.1
       .exact ihA ⟨this.2,(C0.mp (by simpa using h.ln)).2,λz hz=>h.lb z (i5 _ hz),λz hz=>h.few z (i5 _ hz)⟩ ha' hb' this.2
     subst eb
     rw[qy rfl,z0v]
    .rw[qh e]
     have hb:=hB b l6
     have ne:b.2.1≠a.2.1:=λz=>e (by
      have:=h.ln
      clear ih hB ek
      induction A with
      |nil=>cases ha
      |cons x A ihA=>
       rw[i7,C0] at this
       rcases m3.mp ha with rfl|ha'<;>rcases m3.mp hb with rfl|hb'
       .rfl
       .exact absurd (l5.mpr ⟨b,hb',z⟩) this.1
       .exact absurd (l5.mpr ⟨a,ha',z.symm⟩) this.1
       .exact ihA ⟨(C0.mp (by simpa using h.kn)).2,this.2,λz hz=>h.lb z (i5 _ hz),λz hz=>h.few z (i5 _ hz)⟩ ha' hb' this.2)
     rw[z0y ne,zdX]
  exact key A λ_ h=>h
 rw[ek,<-ev]
 have e1:rpL (pl a.2.1 (.lst a.2.1 (sgD (a.2.2++[g])))) (aK A)=aK A:=rpL_id _ λj hj=>by rw[zbt] at hj;cases hj
 erw[rp,pl,qh hj]
def prd(A:Ah)(g:Sg):List Sg:=match A.find? (λa=>decide (a.1=g)) with
 |some a=>a.2.2
 |none=>[]
def ziY{A:Ah}(hn:(A.map (·.1)).Nodup){a:Sg×Nat×List Sg}(ha:a∈A):prd A a.1=a.2.2:=by
 unfold prd
 induction A with
 |nil=>cases ha
 |cons b A ih=>
  rw[i7,C0] at hn
  rcases m3.mp ha with rfl|ha
  .simp
  .rw[List.find?_cons_of_neg (by simp;exact λz=>hn.1 (z▸l5.mpr ⟨a,ha,rfl⟩))]
   exact ih hn.2 ha
def zg0{A:Ah}:prd (z4N A y h) g=if g=y/\g∈A.map (·.1) then prd A g++[h] else prd A g:=by
 unfold prd
 induction A with
 |nil=>simp[z4N]
 |cons b A ih=>
  erw[z4N,i7] at ih⊢
  by_cases e:b.1=g
  .have e1:(if b.1=y then(b.1,b.2.1,b.2.2++[h]) else b).1=g:=by split<;>exact e
   rw[List.find?_cons_of_pos (by simpa using e1),List.find?_cons_of_pos (by simpa using e)]
   by_cases ey:b.1=y
   .rw[qy ey,qy ⟨by rw[<-e,ey],by rw[e];exact l6⟩]
   .rw[qh ey,qh λz=>ey (by rw[e,z.1])]
  .have e1:(if b.1=y then(b.1,b.2.1,b.2.2++[h]) else b).1≠g:=by split<;>exact e
   rw[List.find?_cons_of_neg (by simpa using e1),List.find?_cons_of_neg (by simpa using e),ih]
   have:(g∈b.1::A.map (·.1))↔g∈A.map (·.1):=by
    rw[m3];exact⟨λz=>z.elim (λz=>absurd z.symm e) id, .inr⟩
   erw[this]
def z7M(A:Ah)(g:Sg)(gs:List (Int×Sg)):Ah:=gs.foldl (λA x=>z4N A x.2 g) A
theorem z7N{lo hi:Nat}: ∀{gs:List (Int×Sg)} {c:Nat} {A:Ah},Aok lo hi c A->Aok lo hi (c+gs.length) (z7M A g gs)/\(z7M A g gs).map (·.1)=A.map (·.1)
 |[],c,A,h=>⟨h,rfl⟩
 |x::gs,c,A,h=>by
  obtain⟨h1,h2⟩:=z7N (g:=g) (gs:=gs) (h.add x.2 g)
  refine⟨?_,h2.trans (z0Y A x.2 g)⟩
  rw[A4,show c+(gs.length+1)=c+1+gs.length by lia];exact h1
theorem z8C: ∀{gs:List (Int×Sg)} {A:Ah},g'∈A.map (·.1)->(h∈prd (z7M A g gs) g'↔h∈prd A g'\/(h=g/\∃x∈gs,x.2=g'))
 |[],A,_=>by simp[z7M]
 |x::gs,A,hm=>by
  have ih:=z8C (g:=g) (h:=h) (gs:=gs) (A:=z4N A x.2 g) (g':=g') (by rw[z0Y];exact hm)
  show h∈prd (z7M (z4N A x.2 g) g gs) g'↔_
  rw[ih,zg0]
  by_cases e:g'=x.2
  .rw[qy ⟨e,hm⟩,l4,m4]
   constructor
   .rintro ((q|q)|⟨q,y,hy,r⟩)
    .exact .inl q
    .exact .inr ⟨q,x,l6,e.symm⟩
    .exact .inr ⟨q,y,i5 _ hy,r⟩
   .rintro (q|⟨q,_⟩)
    .exact .inl (.inl q)
    .exact .inl (.inr q)
  .rw[qh λz=>e z.1]
   constructor
   .rintro (q|⟨q,y,hy,r⟩)
    .exact .inl q
    .exact .inr ⟨q,y,i5 _ hy,r⟩
   .rintro (q|⟨q,y,hy,r⟩)
    .exact .inl q
    .rcases m3.mp hy with rfl|hy
     .exact absurd r.symm e
     .exact .inr ⟨q,y,hy,r⟩
def z0w(gl:Gl)(F:Fd)(A:Ah):Ah:=F.foldl (λA q=>z7M A q.1 (gl q.1)) A
theorem z5G{gl:Gl}{lo hi m:Nat}(hm: ∀g,(gl g).length<=m): ∀{F:Fd} {c:Nat} {A:Ah},Aok lo hi c A->Aok lo hi (c+m*F.length) (z0w gl F A)/\(z0w gl F A).map (·.1)=A.map (·.1)
 |[],c,A,h=>⟨h,rfl⟩
 |q::F,c,A,h=>by
  obtain⟨h1,h2⟩:=z7N (g:=q.1) (gs:=gl q.1) h
  have h1:Aok lo hi (c+m) (z7M A q.1 (gl q.1)):=⟨h1.kn,h1.ln,h1.lb,λa ha=>C7 (h1.few a ha) (Nat.add_le_add_left (hm _) _)⟩
  obtain⟨h3,h4⟩:=z5G hm (F:=F) h1
  refine⟨?_,h4.trans h2⟩
  rw[A4,Nat.mul_succ,show c+(m*F.length+m)=c+m+m*F.length by lia];exact h3
theorem z4f{gl:Gl}{g' h:Sg}: ∀{F:Fd} {A:Ah},g'∈A.map (·.1)->(h∈prd (z0w gl F A) g'↔h∈prd A g'\/(h∈F.map (·.1)/\∃x∈gl h,x.2=g'))
 |[],A,_=>by simp[z0w]
 |q::F,A,hm=>by
  have ek:(z7M A q.1 (gl q.1)).map (·.1)=A.map (·.1):=by
   have: ∀(gs:List (Int×Sg)) (A:Ah),(z7M A q.1 gs).map (·.1)=A.map (·.1):=by
    intro gs
    induction gs with
    |nil=>intro A;rfl
    |cons x gs ih=>intro A;exact(ih _).trans (z0Y A x.2 q.1)
   exact this _ _
  have ih:=z4f (gl:=gl) (h:=h) (F:=F) (A:=z7M A q.1 (gl q.1)) (g':=g') (by rw[ek];exact hm)
  show h∈prd (z0w gl F (z7M A q.1 (gl q.1))) g'↔_
  rw[ih,z8C hm,i7,m3]
  constructor
  .rintro ((q1|⟨rfl,q2⟩)|⟨q1,q2⟩)
   .exact .inl q1
   .exact .inr ⟨.inl rfl,q2⟩
   .exact .inr ⟨.inr q1,q2⟩
  .rintro (q1|⟨rfl|q1,q2⟩)
   .exact .inl (.inl q1)
   .exact .inl (.inr ⟨rfl,q2⟩)
   .exact .inr ⟨q1,q2⟩
def prA(A:Ah):List D:=A.map λa=> .tup [gD a.1, .lst a.2.1 []]
theorem zbv: ∀A:Ah,z2m (prA A)=some (A.map λa=>(nkG a.1, .lst a.2.1 []))
 |[]=>rfl
 |a::A=>by
  have ih:=zbv A
  unfold prA at ih⊢
  erw[i7,z2m,zcw,X7,ih]
def zdc{L:List Sg}(h:L.Nodup):(L.map nkG).Nodup:=by
 induction L with
 |nil=>exact N6
 |cons a L ih=>
  rw[C0] at h
  rw[i7,C0]
  refine⟨λhm=> ?_,ih h.2⟩
  obtain⟨b,hb,e⟩:=l5.mp hm
  exact h.1 (z2Y e▸hb)
def Aok.snoc{lo hi c:Nat}{A:Ah}(h:Aok lo hi c A)(hl:lo<=hi)(hg:g∉A.map (·.1)):Aok lo (hi+1) c (A++[(g,hi,[])]):=by
 have mem: ∀a∈A++[(g,hi,[])],a∈A\/a=(g,hi,[]):=λa ha=>by simpa using ha
 refine⟨?_, ?_,λa ha=> ?_,λa ha=> ?_⟩
 .rw[t5]
  exact L6.mpr ⟨h.kn,by simp,λa ha b hb e=>hg (by erw[i7,t7,m4] at hb;rw[<-hb,<-e];exact ha)⟩
 .rw[t5]
  refine L6.mpr ⟨h.ln,by simp,λa ha b hb e=> ?_⟩
  erw[i7,t7,m4] at hb
  obtain⟨x,hx,rfl⟩:=l5.mp ha
  have:=(h.lb x hx).2
  lia
 .rcases mem a ha with ha|rfl
  .have:=h.lb a ha;lia
  .exact⟨hl,B2 _⟩
 .rcases mem a ha with ha|rfl
  .exact h.few a ha
  .exact B9 _
def ahM:M D:=mCB [(V4 (z01 (y0 3)) (.nm 0) (rt true) (mCB [(y0 0),(mCB [] lstM)] j3) 1 [])] z7m
def zl4(F:Fd) vs(hV:GV RL F vs)(hn:(F.map (·.1)).Nodup)(hz:F.length<=5000){σ tm:Qq}{s:Stt}{n:Nat}(hi:z01 (y0 3) s= .ok kDct ⟨σ,some (FdF F vs)::tm,n⟩):
 ∃(A:Ah) (n':Nat),n<=n'/\A.map (·.1)=F.map (·.1)/\Aok n n' 0 A/\(∀a∈A,a.2.2=[])/\ahM s= .ok (.dct (n'+1) (aK A) (aV A)) ⟨σ,tm,n'+2⟩:=by
 have lk:(ksF F).length=F.length:=by simp[ksF]
 obtain⟨ys,_,n',⟨h0,A,rfl,h1,h2,h3⟩,e⟩:=z5p (mi:=z01 (y0 3)) (K:=kDct) (g:= .nm 0) (mt:=rt true) (me:=mCB [(y0 0),(mCB [] lstM)] j3) (qv:=ksF F) (its:=[some (FdF F vs)]) (ix:=[]) (k:=1) (β:=Unit) (cap:=λ_=>[]) (σ:=λ_=>σ) (tm:=λ_=>tm) (λd=>[some d])
  (λi m acc _=>n<=m/\∃A:Ah,acc=prA A/\A.map (·.1)=(F.map (·.1)).take i/\Aok n m 0 A/\∀a∈A,a.2.2=[]) (s:=s) (b:=()) (n:=n) (λ_=>rfl) hi rfl (λ_=>rfl) (by rw[lk,zl];lia) (λi rest=>rfl) rfl (λd _ _ pre hp=>by exact zkR pre hp) (λd _=>rfl) ⟨i6 _,[],rfl,by simp,⟨N6,N6,(λ_ h=>nomatch h),(λ_ h=>nomatch h)⟩,(λ_ h=>nomatch h)⟩ (by
   rintro i hi acc _ m ha ⟨h0,A,rfl,h1,h2,h3⟩
   rw[lk] at hi
   have ei:(ksF F)[i]=gD F[i].1:=by simp[ksF]
   rw[ei]
   refine⟨true,m,rfl, .inr ⟨rfl, .tup [gD F[i].1, .lst m []],(),m+1,⟨⋯,A++[(F[i].1,m,[])],by simp[prA], ?_,h2.snoc h0 ?_,λa ha=> ?_⟩, ?_⟩⟩
   .rw[t5,h1,A6,List.getElem?_map,List.getElem?_eq_getElem hi];rfl
   .rw[h1]
    intro hm
    have hi':i<(F.map (·.1)).length:=by simpa using hi
    obtain⟨j,hj,e⟩:=R6.mp hm
    have hj2:j<i:=by lia
    have hj3:j<(F.map (·.1)).length:=by lia
    have:=E3.mp hn j i hj3 hi' hj2
    exact this (by rw[e];simp)
   .rcases l4.mp ha with ha|ha
    .exact h3 a ha
    .rw[m4.mp ha]
   .left)
 rw[lk,t9 (by simp)] at h1
 refine⟨A,n',h0,h1,h2,h3, ?_⟩
 unfold ahM
 rw[zkv,zaT,e]
 left
 have hd: ∀s:Stt,z7m [.lst n' (prA A)] s= .ok (.dct s.n (aK A) (aV A)) s.nxt:=λs=>by
  erw[z7m,zbv]
  rw[qy (by
   rw[B7]
   have:=zdc h2.kn
   rw[B7] at this
   exact this)]
  congr 2
  .erw[B7,aK]
   exact D2 λa _=>ziP a.1
  .erw[B7,aV]
   exact D2 λa ha=>by erw[Function.comp,h3 a ha];rfl
 rw[hd]
 rfl
def adB:MS:=Q8 (Q2 (y4 (y0 4) (y0 8) z08) [(mCB [(y0 5),(y0 6)] j3)] z1N)
def ziZ{ja lo hi c n:Nat}{A:Ah}(hA:Aok lo hi c A)(hc:c<=1000000)(hj:ja<lo\/hi<=ja)(g x:Sg)(hx:x∈A.map (·.1))(tm:Qq)(hu: ∀q d,lo<=q->q<hi->rpO (pl q d) [X0,X1,X2,X3,o7,o9,o10,o11,o12]=[X0,X1,X2,X3,o7,o9,o10,o11,o12])(ht: ∀q d,lo<=q->q<hi->rpO (pl q d) tm=tm):
 adB ⟨[X0,X1,X2,X3,some (.dct ja (aK A) (aV A)),some (.int g.1),some (.tup (g.2.map .int)),o7,some (gD x),o9,o10,o11,o12],tm,n⟩= .nx ⟨[X0,X1,X2,X3,some (.dct ja (aK (z4N A x g)) (aV (z4N A x g))),some (.int g.1),some (.tup (g.2.map .int)),o7,some (gD x),o9,o10,o11,o12],tm,n⟩:=by
 obtain⟨a,ha,rfl⟩:=l5.mp hx
 have la:=hA.lb a ha
 have u:=hu a.2.1 (.lst a.2.1 (sgD (a.2.2++[g]))) la.1 la.2
 have t:=ht a.2.1 (.lst a.2.1 (sgD (a.2.2++[g]))) la.1 la.2
 erw[Z0,Z8,List.cons.injEq,and_true] at u
 obtain⟨u0,u1,u2,u3,u7,u9,u10,u11,u12⟩:=u
 unfold adB
 left
 rw[zdZ hA.kn ha]
 left
 rw[show D.tup [.int g.1, .tup (g.2.map .int)]=gD g from rfl,Mi.y_app ⟨by have:=hA.few a ha;rw[zl];simp[sgD];lia,by rw[z04];exact m8⟩]
 left
 rw[show sgD a.2.2++[gD g]=sgD (a.2.2++[g]) by simp[sgD]]
 erw[u0,u1,u2,u3,u7,u9,u10,u11,u12,t,zfZ hA ha (show ja≠a.2.1 by lia),z4p,Y8]
def Fr(o:Option D):Prop:= ∀k d,o.map (rp (pl k d))=o
def Fr.no:Fr none:=λ_ _=>rfl
def Fr.int{i:Int}:Fr (some (.int i)):=λ_ _=>rfl
def Fr.tI{ns:List Int}:Fr (some (.tup (ns.map .int))):=λ_ _=>by rw[i9,z2q]
def Fr.gD:Fr (some (gD g)):=λ_ _=>by rw[i9,z4p]
def adF:MS:=V8 (j6 (Z2 V1 [(y0 1),(y0 2),(y0 5),(y0 6)])) (.tp [(.nm 7),(.nm 8)]) adB
def wfS(l:Nat)(rows:List Z6)(js:Nat)(FK:List (List Int))(vp:List D)(ls:Nat)(sn:List Int)(F:Fd)(vs:List D)(ja:Nat)(A:Ah)(o5 o6 o7 o8 o9 o10:Option D):Qq:=[some (.lst l (rows.map rD)),some (.dct js (FK.map kd) vp),some (.lst ls (sn.map .int)),some (FdF F vs),some (.dct ja (aK A) (aV A)),o5,o6,o7,o8,o9,o10,none,none]
def wtm(l:Nat)(rows:List Z6)(js:Nat)(FK:List (List Int))(vp:List D)(ls:Nat)(sn:List Int):Qq:=[some (.lst l (rows.map rD)),some (.dct js (FK.map kd) vp),some (.lst ls (sn.map .int))]
def z2w:(W9 rows sn g).length<=26:=by
 unfold W9
 rw[l0]
 exact C7 (D4 _ _) (z2t g.2)
def zj0{k n:Nat}(h:n≠k):rp (pl k d) (.lst n (gsD gs))= .lst n (gsD gs):=by rw[z0y h,rpL_id _ λj hj=>by rw[z8y] at hj;cases hj]
def zj1 rows(hw: ∀r∈rows,Wf r) sn(hsn:sn.length<=2000) l ls js hi0 lo hi ja n FK vp(hD:DV rows (js+1) hi0 FK vp)(F:Fd) vs(hV:GV RL F vs)(h1:l<lo)(h2:ls<lo)(h3:js<lo)(h4:hi0<=lo)(h5:lo<=hi)(h6:hi<=ja)(h7:ja<n) c(hc:c<=900000)(A:Ah)(hA:Aok lo hi c A)(g:Sg)(hgF:g.2∈FK)(hg2:g.2.length<=100)(hx: ∀x∈W9 rows sn g,x.2∈A.map (·.1)) o7 o8(w7:Fr o7)(w8:Fr o8)(t0:Qq)(ht: ∀q d,q<hi->rpO (pl q d) t0=t0):
 ∃p7 p8 n',n<=n'/\Fr p7/\Fr p8/\adF ⟨wfS l rows js FK vp ls sn F vs ja A (some (.int g.1)) (some (.tup (g.2.map .int))) o7 o8 none none,t0++wtm l rows js FK vp ls sn,n⟩= .nx ⟨wfS l rows js FK vp ls sn F vs ja (z7M A g (W9 rows sn g)) (some (.int g.1)) (some (.tup (g.2.map .int))) p7 p8 none none,t0++wtm l rows js FK vp ls sn,n'⟩:=by
 obtain⟨n',hn',e1⟩:=z5E rows hw sn hsn ls js n ⋯ ⋯ FK vp (hD.mono ⋯) g hgF hg2
 have lg:=z2w (rows:=rows) (sn:=sn) (g:=g)
 have fX: ∀q d,lo<=q->rp (pl q d) (.dct js (FK.map kd) vp)= .dct js (FK.map kd) vp:=λq d h=>z3d hD ⋯ (.inr ⋯)
 have hi:j6 (Z2 V1 [(y0 1),(y0 2),(y0 5),(y0 6)]) ⟨wfS l rows js FK vp ls sn F vs ja A (some (.int g.1)) (some (.tup (g.2.map .int))) o7 o8 none none,t0++wtm l rows js FK vp ls sn,n⟩= .ok kLst ⟨wfS l rows js FK vp ls sn F vs ja A (some (.int g.1)) (some (.tup (g.2.map .int))) o7 o8 none none,some (.lst n (gsD (W9 rows sn g)))::(t0++wtm l rows js FK vp ls sn),n'⟩:=z0r (by
  unfold wfS
  left
  rw[e1]
  left)
 unfold adF
 rw[z46,hi,z2a]
 obtain⟨s',e,p7,p8,g7,g8,rfl⟩:=U9 (P:=λt s=> ∃(p7 p8:Option D),Fr p7/\Fr p8/\s=⟨wfS l rows js FK vp ls sn F vs ja (z7M A g ((W9 rows sn g).take t)) (some (.int g.1)) (some (.tup (g.2.map .int))) p7 p8 none none,some (.lst n (gsD (W9 rows sn g)))::(t0++wtm l rows js FK vp ls sn),n'⟩) (l:=n) (ds:=gsD (W9 rows sn g)) (g:= .tp [(.nm 7),(.nm 8)]) (tm:=t0++wtm l rows js FK vp ls sn) (b:=adB)
  (by rintro t s ⟨_,_,_,_,rfl⟩;rfl) (by
   rintro t d hd s ⟨p7,p8,g7,g8,rfl⟩
   unfold gsD at hd
   rw[List.getElem?_map] at hd
   cases hxx:(W9 rows sn g)[t]? with
   |none=>rw[hxx] at hd;cases hd
   |some x=>
    rw[hxx] at hd
    cases hd
    obtain⟨k1,k2⟩:=z7N (g:=g) (gs:=(W9 rows sn g).take t) hA
    have e:=ziZ (X0:=some (.lst l (rows.map rD))) (X1:=some (.dct js (FK.map kd) vp)) (X2:=some (.lst ls (sn.map .int))) (X3:=some (FdF F vs)) (o7:=some (.int x.1)) (o9:=none) (o10:=none) (o11:=none) (o12:=none) (ja:=ja) (n:=n') k1 (by rw[A5];lia) (.inr h6) g x.2 (by rw[k2];exact hx x (List.mem_of_getElem? hxx)) (some (.lst n (gsD (W9 rows sn g)))::(t0++wtm l rows js FK vp ls sn)) (λq d h1 h2=>by
     erw[Z0,Z8,i9,C9,Z7 (show l≠q by lia),fX q d h1,W3 (show ls≠q by lia),z36 hV,J8]) (λq d hq1 hq2=>by
     have:=ht q d hq2
     have ea: ∀(a b:Qq),rpO (pl q d) (a++b)=rpO (pl q d) a++rpO (pl q d) b:=λa b=>by
      induction a with
      |nil=>rfl
      |cons x a ih=>erw[C4,Z0,ih]
     unfold wtm
     erw[Z0,Z8,i9,ea,this,Z7 (show l≠q by lia),fX q d hq1,W3 (show ls≠q by lia),zj0 (show n≠q by lia)])
    refine⟨_,rfl,_,e,some (.int x.1),some (gD x.2),Fr.int,Fr.gD, ?_⟩
    rw[A6,hxx,A8]
    unfold z7M
    rw[D9]
    rfl) (W9 rows sn g).length 0 ⟨wfS l rows js FK vp ls sn F vs ja A (some (.int g.1)) (some (.tup (g.2.map .int))) o7 o8 none none,some (.lst n (gsD (W9 rows sn g)))::(t0++wtm l rows js FK vp ls sn),n'⟩ (by simp[gsD]) ⟨o7,o8,w7,w8,rfl⟩
 dsimp only
 have el:(gsD (W9 rows sn g)).length=(W9 rows sn g).length:=by simp[gsD]
 rw[show kLst.len (some (.lst n (gsD (W9 rows sn g)))::(t0++wtm l rows js FK vp ls sn))=(W9 rows sn g).length from el,e,px1,el,t9 (i6 _)]
 exact⟨p7,p8,n',⋯,g7,g8,rfl⟩
def ze0{n:Nat}(h:m s= .ok (FdF F vs) ⟨σ,tm,n⟩):z39 m s= .ok kDct ⟨σ,some (FdF F vs)::tm,n⟩:=by
 unfold z39 bd
 rw[h]
 show(if isT (ksF F)=true then _ else _)=_
 rw[qy (z5C F)]
 rfl
def zj2(rows:List Z6)(hw: ∀r∈rows,Wf r)(sn:List Int)(hsn:sn.length<=2000)(l ls js hi0 lo hi ja n:Nat)(FK:List (List Int))(vp:List D)(hD:DV rows (js+1) hi0 FK vp)(F:Fd)(vs:List D)(hV:GV RL F vs)(h1:l<lo)(h2:ls<lo)(h3:js<lo)(h4:hi0<=lo)(h5:lo<=hi)(h6:hi<=ja)(h7:ja<n)(hF:F.length<=5000)(A:Ah)(hA:Aok lo hi 0 A)(hFK: ∀q∈F,q.1.2∈FK/\q.1.2.length<=100)(hx: ∀q∈F,∀x∈W9 rows sn q.1,x.2∈A.map (·.1)):
 ∃p5 p6 p7 p8 n',n<=n'/\Fr p5/\Fr p6/\Fr p7/\Fr p8/\V8 (z39 (y0 3)) (.tp [(.nm 5),(.nm 6)]) adF ⟨wfS l rows js FK vp ls sn F vs ja A none none none none none none,wtm l rows js FK vp ls sn,n⟩= .nx ⟨wfS l rows js FK vp ls sn F vs ja (z0w (W9 rows sn) F A) p5 p6 p7 p8 none none,wtm l rows js FK vp ls sn,n'⟩:=by
 have hi':z39 (y0 3) ⟨wfS l rows js FK vp ls sn F vs ja A none none none none none none,wtm l rows js FK vp ls sn,n⟩= .ok kDct ⟨wfS l rows js FK vp ls sn F vs ja A none none none none none none,some (FdF F vs)::wtm l rows js FK vp ls sn,n⟩:=ze0 (by unfold wfS;left)
 rw[z46,hi',z2a]
 have lk:(ksF F).length=F.length:=by simp[ksF]
 obtain⟨s',e,p5,p6,p7,p8,m,hm,g5,g6,g7,g8,rfl⟩:=z4b (K:=kDct) (g:= .tp [(.nm 5),(.nm 6)]) (b:=adF) (item:=λi=>(ksF F).getD i .non) (N:=F.length) (P:=λi s=> ∃(p5 p6 p7 p8:Option D) (m:Nat),n<=m/\Fr p5/\Fr p6/\Fr p7/\Fr p8/\s=⟨wfS l rows js FK vp ls sn F vs ja (z0w (W9 rows sn) (F.take i) A) p5 p6 p7 p8 none none,some (FdF F vs)::wtm l rows js FK vp ls sn,m⟩)
  (by rintro i s ⟨_,_,_,_,_,_,_,_,_,_,rfl⟩;unfold FdF;rw[zfM,lk]) (by
   rintro i hiF s ⟨p5,p6,p7,p8,m,hm,g5,g6,g7,g8,rfl⟩
   have ei:(ksF F).getD i .non=gD F[i].1:=by simp[ksF,hiF]
   rw[ei]
   refine⟨_,rfl, ?_⟩
   have hmem:=A9 hiF
   obtain⟨k1,k2⟩:=z5G (gl:=W9 rows sn) (m:=26) (λ_=>z2w) (F:=F.take i) hA
   obtain⟨a1,a2⟩:=hFK _ hmem
   obtain⟨q7,q8,m',hm',z7,z8,e⟩:=zj1 rows hw sn hsn l ls js hi0 lo hi ja m FK vp hD F vs hV h1 h2 h3 h4 h5 h6 ⋯ (0+26*(F.take i).length) (by rw[A5];lia) _ k1 F[i].1 a1 a2 (by rw[k2];exact hx _ hmem) p7 p8 g7 g8 [some (FdF F vs)] (λq d _=>by erw[Z0,Z8,i9,z36 hV])
   refine⟨_,e,some (.int F[i].1.1),some (.tup (F[i].1.2.map .int)),q7,q8,m',⋯,Fr.int,Fr.tI,z7,z8, ?_⟩
   rw[A6,List.getElem?_eq_getElem hiF,A8]
   unfold z0w
   rw[D9]
   rfl) F.length 0 ⟨wfS l rows js FK vp ls sn F vs ja A none none none none none none,some (FdF F vs)::wtm l rows js FK vp ls sn,n⟩ ⋯ ⟨none,none,none,none,n,i6 _,Fr.no,Fr.no,Fr.no,Fr.no,rfl⟩
 dsimp only
 rw[show kDct.len (some (FdF F vs)::wtm l rows js FK vp ls sn)=F.length from lk,e,t9 (i6 _)]
 exact⟨p5,p6,p7,p8,m,hm,g5,g6,g7,g8,rfl⟩
theorem z3o: ∀ns:List Int,PyData.depthAll (ns.map PyData.int)<=0
 |[]=>by simp[PyData.depthAll]
 |n::ns=>by
  have:=z3o ns
  erw[i7,PyData.depthAll,PyData.depth];lia
def zly(a b:Nat)(A B:List Int):Gd (.tup [.lst a (A.map .int), .lst b (B.map .int)]):=Gd.tup.mpr (GdL.cons.mpr ⟨Gd.lst.mpr (z2v A),GdL.cons.mpr ⟨Gd.lst.mpr (z2v B),z5F⟩⟩)
def zj3{a b c d:Nat}{A B C E:List Int}:eqC (.tup [.lst a (A.map .int), .lst b (B.map .int)]) (.tup [.lst c (C.map .int), .lst d (E.map .int)])=true:=by
 have g1:=zly a b A B
 have g2:=zly c d C E
 have dp:(er (.tup [.lst c (C.map .int), .lst d (E.map .int)])).depth<=10:=by
  have:=z3o C
  have:=z3o E
  erw[er,erL,z2W,PyData.depth,PyData.depthAll];lia
 erw[eqC,g1.1,g1.2,g2.1,g2.2,N2,E8,decide_eq_true_eq]
 have:=S0 (er (.tup [.lst a (A.map .int), .lst b (B.map .int)])).depth (er (.tup [.lst c (C.map .int), .lst d (E.map .int)])).depth
 lia
def zj4{a b c d:Nat}{A B C E:List Int}:PyData.eqv (er (.tup [.lst a (A.map .int), .lst b (B.map .int)])) (er (.tup [.lst c (C.map .int), .lst d (E.map .int)]))=(decide (A=C)&&decide (B=E)):=by
 have h1:=L2.zdo A C
 have h2:=L2.zdo B E
 erw[L2.dL] at h1 h2
 erw[er,erL,z2W,L2.zeA,L2.z7a,L2.z8T,h1,h2,N2]
def zl5{a b c d:Nat}{A B C E:List Int}:eqD (.tup [.lst a (A.map .int), .lst b (B.map .int)]) (.tup [.lst c (C.map .int), .lst d (E.map .int)]) s= .ok (.bool (decide (A=C)&&decide (B=E))) s:=by rw[zi8 zj3,zj4]
def zl6{a b c d:Nat}{A B C E:List Int}:neD (.tup [.lst a (A.map .int), .lst b (B.map .int)]) (.tup [.lst c (C.map .int), .lst d (E.map .int)]) s= .ok (.bool (!(decide (A=C)&&decide (B=E)))) s:=by rw[zjw zj3,zj4]
def enS:MS:=sIf (J4 (y4 (Z2 z0C [(y0 0),(y0 6)]) (mCB [(mSl (y0 2) (some (y0 5)) none),(mCB [] lstM)] j3) eqD)) (Z1 (z20 (mC (.int 0)) (y0 9) (mCB [(y0 5),(y0 6)] j3) z00)
 (Q8 (Q2 (y0 10) [(mCB [(y0 5),(y0 6)] j3)] z1N))) sNx
def zj5{sn:List Int}{g:Sg}:(decide ((readA rows g.2).1=sn.drop g.1)&&decide ((readA rows g.2).2=[]))=Ends rows sn g:=by
 unfold Ends
 rw[<-Bool.decide_and]
 exact decide_eq_decide.mpr ⟨λh=>Prod.ext h.1 h.2,λh=>by rw[h];exact⟨rfl,rfl⟩⟩
def edF(rows:List Z6)(sn:List Int)(F:Fd):Fd:=(F.filter λq=>Ends rows sn q.1).map λq=>(q.1,[])
def zbw{F:Fd}(h:g∈(edF rows sn F).map (·.1)):g∈F.map (·.1):=by
 unfold edF at h
 rw[B7] at h
 obtain⟨q,hq,rfl⟩:=l5.mp h
 exact l5.mpr ⟨q,(E1.mp hq).1,rfl⟩
def zj6{F:Fd}(h:(F.map (·.1)).Nodup):((edF rows sn F).map (·.1)).Nodup:=by
 unfold edF
 rw[B7]
 exact(I0.mpr ((I0.mp h).filter _))
def zg1{F:Fd}:(edF rows sn F).length<=F.length:=by
 unfold edF
 rw[l0]
 exact D4 _ _
def zj7 rows(hw: ∀r∈rows,Wf r) sn(hsn:sn.length<=2000) l ls js lo hi ja jf je n c hi0 FK vp(hD:DV rows (js+1) hi0 FK vp)(F:Fd) vs(hV:GV RL F vs)(A:Ah)(hA:Aok lo hi c A)(h1:l<lo)(h2:ls<lo)(h3:js<lo)(h4:hi0<=lo)(h5:lo<=hi)(h6:hi<=ja)(h7:ja<jf)(h8:jf<je)(h9:je<n)(E:Fd) vE(hE:GV RL E vE)(hz:E.length<=5000)(g:Sg)(hg:g∉E.map (·.1))(hg2:g.2.length<=100) o7 o8(w7:Fr o7)(w8:Fr o8)(tm:Qq)(ht: ∀q d,q=jf\/q=je->rpO (pl q d) tm=tm):
 ∃vE' n',n<=n'/\GV RL (if Ends rows sn g=true then E++[(g,[])] else E) vE'/\enS ⟨wfS l rows js FK vp ls sn F vs ja A (some (.int g.1)) (some (.tup (g.2.map .int))) o7 o8 (some (.dct jf (ksF E) vE)) (some (.lst je (foD E))),tm,n⟩= .nx ⟨wfS l rows js FK vp ls sn F vs ja A (some (.int g.1)) (some (.tup (g.2.map .int))) o7 o8 (some (.dct jf (ksF (if Ends rows sn g=true then E++[(g,[])] else E)) vE')) (some (.lst je (foD (if Ends rows sn g=true then E++[(g,[])] else E)))),tm,n'⟩:=by
 obtain⟨n1,hn1,e1⟩:=z5r rows g.2 l n (.tup (g.2.map .int)) hw ⋯ ⋯ (.inr rfl)
 have fX: ∀q d,q=jf\/q=je->rp (pl q d) (.dct js (FK.map kd) vp)= .dct js (FK.map kd) vp:=λq d h=>z3d hD ⋯ (.inr ⋯)
 have fA: ∀q d,q=jf\/q=je->rp (pl q d) (.dct ja (aK A) (aV A))= .dct ja (aK A) (aV A):=λq d h=>ziX hA ⋯ (.inr ⋯)
 unfold enS wfS
 left
 rw[e1]
 left
 rw[z6D,z7D,show D.lst (n1+1) []= .lst (n1+1) (([]:List Int).map .int) from rfl,zl5,zj5]
 cases hE':Ends rows sn g with
 |false=>
  left
  exact⟨vE,n1+1+1,⋯,hE,rfl⟩
 |true=>
  erw[if_true]
  left
  have ep:=λs:Stt=>z8w (j:=jf) (s:=s) (c:=[]) (v:= .int 0) hE ⋯ hg (show RL (g,[]) (.int 0) from rfl) rfl
  rw[show D.tup [.int g.1, .tup (g.2.map .int)]=gD g from rfl,(ep _).2]
  left
  erw[Z7 (show l≠jf by lia),fX jf _ (.inl rfl),W3 (show ls≠jf by lia),z36 hV,fA jf _ (.inl rfl),w7 jf,w8 jf,z35,z2Z (show je≠jf by lia),ht jf _ (.inl rfl),Y8]
  left
  try erw[z2Z (show je≠jf by lia)]
  rw[show D.tup [.int g.1, .tup (g.2.map .int)]=gD g from rfl,Mi.y_app ⟨by unfold foD;rw[l0,zl];lia,by rw[z04];exact m8⟩]
  have efo:foD E++[gD g]=foD (E++[(g,[])]):=by simp[foD]
  rw[efo]
  left
  erw[Z7 (show l≠je by lia),fX je _ (.inr rfl),W3 (show ls≠je by lia),z36 hV,fA je _ (.inr rfl),w7 je,w8 je,z9k (ep ⟨[],[],0⟩).1 (show jf≠je by lia),ht je _ (.inr rfl),Y8]
  exact⟨_,n1+1+1,⋯,(ep ⟨[],[],0⟩).1,rfl⟩
def zj8(rows:List Z6)(hw: ∀r∈rows,Wf r)(sn:List Int)(hsn:sn.length<=2000)(l ls js lo hi ja jf je n c hi0:Nat)(FK:List (List Int))(vp:List D)(hD:DV rows (js+1) hi0 FK vp)(F:Fd)(vs:List D)(hV:GV RL F vs)(hn:(F.map (·.1)).Nodup)(hF:F.length<=5000)(hF2: ∀q∈F,q.1.2.length<=100)(A:Ah)(hA:Aok lo hi c A)(h1:l<lo)(h2:ls<lo)(h3:js<lo)(h4:hi0<=lo)(h5:lo<=hi)(h6:hi<=ja)(h7:ja<jf)(h8:jf<je)(h9:je<n)(o5 o6 o7 o8:Option D)(w5:Fr o5)(w6:Fr o6)(w7:Fr o7)(w8:Fr o8):
 ∃vE p5 p6 n',n<=n'/\Fr p5/\Fr p6/\GV RL (edF rows sn F) vE/\V8 (z39 (y0 3)) (.tp [(.nm 5),(.nm 6)]) enS ⟨wfS l rows js FK vp ls sn F vs ja A o5 o6 o7 o8 (some (.dct jf [] [])) (some (.lst je [])),wtm l rows js FK vp ls sn,n⟩= .nx ⟨wfS l rows js FK vp ls sn F vs ja A p5 p6 o7 o8 (some (.dct jf (ksF (edF rows sn F)) vE)) (some (.lst je (foD (edF rows sn F)))),wtm l rows js FK vp ls sn,n'⟩:=by
 have hi':z39 (y0 3) ⟨wfS l rows js FK vp ls sn F vs ja A o5 o6 o7 o8 (some (.dct jf [] [])) (some (.lst je [])),wtm l rows js FK vp ls sn,n⟩= .ok kDct ⟨wfS l rows js FK vp ls sn F vs ja A o5 o6 o7 o8 (some (.dct jf [] [])) (some (.lst je [])),some (FdF F vs)::wtm l rows js FK vp ls sn,n⟩:=ze0 (by unfold wfS;left)
 rw[z46,hi',z2a]
 have lk:(ksF F).length=F.length:=by simp[ksF]
 obtain⟨s',e,vE,p5,p6,m,hm,g5,g6,hE,rfl⟩:=z4b (K:=kDct) (g:= .tp [(.nm 5),(.nm 6)]) (b:=enS) (item:=λi=>(ksF F).getD i .non) (N:=F.length) (P:=λi s=> ∃(vE:List D) (p5 p6:Option D) (m:Nat),n<=m/\Fr p5/\Fr p6/\GV RL (edF rows sn (F.take i)) vE/\s=⟨wfS l rows js FK vp ls sn F vs ja A p5 p6 o7 o8 (some (.dct jf (ksF (edF rows sn (F.take i))) vE)) (some (.lst je (foD (edF rows sn (F.take i))))),some (FdF F vs)::wtm l rows js FK vp ls sn,m⟩)
  (by rintro i s ⟨_,_,_,_,_,_,_,_,rfl⟩;unfold FdF;rw[zfM,lk]) (by
   rintro i hiF s ⟨vE,p5,p6,m,hm,g5,g6,hE,rfl⟩
   have ei:(ksF F).getD i .non=gD F[i].1:=by simp[ksF,hiF]
   rw[ei]
   refine⟨_,rfl, ?_⟩
   have hmem:=A9 hiF
   have hg:F[i].1∉(edF rows sn (F.take i)).map (·.1):=λh=>by
    have h:=zbw h
    rw[R9] at h
    have hi':i<(F.map (·.1)).length:=by simpa using hiF
    obtain⟨j,hj,e⟩:=R6.mp h
    have hj3:j<(F.map (·.1)).length:=by lia
    exact E3.mp hn j i hj3 hi' ⋯ (by rw[e];simp)
   have hl:=zg1 (rows:=rows) (sn:=sn) (F:=F.take i)
   rw[A5] at hl
   obtain⟨vE',m',hm',hE2,e⟩:=zj7 rows hw sn hsn l ls js lo hi ja jf je m c hi0 FK vp hD F vs hV A hA h1 h2 h3 h4 h5 h6 h7 h8 ⋯ _ vE hE ⋯ F[i].1 hg (hF2 _ hmem) o7 o8 w7 w8 (some (FdF F vs)::wtm l rows js FK vp ls sn) (λq d hq=>by
    unfold wtm
    erw[Z0,Z8,i9,z36 hV,Z7 (show l≠q by lia),z3d hD (show js≠q by lia) (.inr (show hi0<=q by lia)),W3 (show ls≠q by lia)])
   have ee:(if Ends rows sn F[i].1=true then edF rows sn (F.take i)++[(F[i].1,[])] else edF rows sn (F.take i))=edF rows sn (F.take (i+1)):=by
    rw[A6,List.getElem?_eq_getElem hiF,A8]
    unfold edF
    rw[F4,t5]
    cases hE3:Ends rows sn F[i].1<;>simp[hE3]
   rw[ee] at hE2 e
   exact⟨_,e,vE',some (.int F[i].1.1),some (.tup (F[i].1.2.map .int)),m',⋯,Fr.int,Fr.tI,hE2,rfl⟩) F.length 0 ⟨wfS l rows js FK vp ls sn F vs ja A o5 o6 o7 o8 (some (.dct jf [] [])) (some (.lst je [])),some (FdF F vs)::wtm l rows js FK vp ls sn,n⟩ ⋯ ⟨[],o5,o6,n,i6 _,w5,w6,rfl,rfl⟩
 dsimp only
 rw[show kDct.len (some (FdF F vs)::wtm l rows js FK vp ls sn)=F.length from lk,e]
 rw[t9 (i6 _)] at hE⊢
 exact⟨vE,p5,p6,m,hm,g5,g6,hE,rfl⟩
def adW:MS:=(sIf (J4 (y4 (y0 12) (y0 9) z0c)) (Z1 (z20 (y4 (y4 (y0 9) (y0 8) z08) (mC (.int 1)) K1) (y0 9) (y0 12) z00)
 (Q8 (Q2 (y0 11) [(y0 12)] z1N))) sNx)
def inW:MS:=V8 (j6 (y4 (y0 4) (y0 8) z08)) (.nm 12) adW
def lvW:MS:=(Z1 (Y1 (.nm 11) (mCB [] lstM)) (Z1 (V8 (j6 (y0 10)) (.nm 8) inW) (Y1 (.nm 10) (y0 11))))
def wvS(o0 o1 o2 o3:Option D)(ja:Nat)(A:Ah)(o5 o6 o7 o8:Option D)(jf:Nat)(F:Fd)(vs:List D)(o10 o11 o12:Option D):Qq:=[o0,o1,o2,o3,some (.dct ja (aK A) (aV A)),o5,o6,o7,o8,some (.dct jf (ksF F) vs),o10,o11,o12]
def Uq(q0:Nat)(os:Qq):Prop:= ∀q d,q0<=q->rpO (pl q d) os=os
def plA(A:Ah):Gl:=λg=>(prd A g).map λh=>(0,h)
def zj9{o0 o1 o2 o3 o5 o6 o7 o10:Option D}{ja jf jm lo hi cA b n:Nat}(hA:Aok lo hi cA A)(hja:hi<=ja)(hjf:ja<jf)(hu:Uq jf [o0,o1,o2,o3,o5,o6,o7])(F:Fd) vs(hV:GV RL F vs)(hn:(F.map (·.1)).Nodup)(hz:F.length<=90000)(hb:b<=F.length)(g g':Sg) c(hg:(g,c)∈F)(hjm:jf<jm)(h10: ∀q d,q=jf\/q=jm->o10.map (rp (pl q d))=o10)(tm:Qq)(ht: ∀q d,q=jf\/q=jm->rpO (pl q d) tm=tm):
 ∃vs',GV RL (addF F c (0,g')) vs'/\adW ⟨wvS o0 o1 o2 o3 ja A o5 o6 o7 (some (gD g)) jf F vs o10 (some (.lst jm (foD (F.drop b)))) (some (gD g')),tm,n⟩= .nx ⟨wvS o0 o1 o2 o3 ja A o5 o6 o7 (some (gD g)) jf (addF F c (0,g')) vs' o10 (some (.lst jm (foD ((addF F c (0,g')).drop b)))) (some (gD g')),tm,n⟩:=by
 have fgD: ∀(k:Nat) (d:D) (h:Sg),rp (pl k d) (gD h)=gD h:=λk d h=>z4p
 have fA: ∀q d,q=jf\/q=jm->rp (pl q d) (.dct ja (aK A) (aV A))= .dct ja (aK A) (aV A):=λq d h=>ziX hA ⋯ (.inr ⋯)
 unfold adW wvS
 left
 rw[z5D hV]
 by_cases hin:g'∈F.map (·.1)
 .have es:addF F c (0,g')=F:=by unfold addF;rw[qy hin]
  rw[es]
  erw[hin,decide_true,D6]
  refine⟨vs,hV, ?_⟩
  left
 .have es:addF F c (0,g')=F++[(g',c++[0])]:=by unfold addF;rw[qh hin]
  rw[es]
  erw[hin,decide_false,E4]
  left
  obtain⟨v,rfl,hvl,ev⟩:=zbb (j:=jf) hV hn hg
  rw[ev]
  left
  have ep:=λs:Stt=>z8w (j:=jf) (s:=s) (c:=c++[0]) (v:= .int ((c.length:Int)+1)) hV ⋯ hin (show RL (g',c++[0]) (.int ((c.length:Int)+1)) by unfold RL;simp) rfl
  rw[(ep _).2]
  left
  have u1:=λd=>hu jf d (i6 _)
  have u2:=λd=>hu jm d ⋯
  erw[Z0,Z8,List.cons.injEq,and_true] at u1 u2
  erw[(u1 _).1,(u1 _).2.1,(u1 _).2.2.1,(u1 _).2.2.2.1,(u1 _).2.2.2.2.1,(u1 _).2.2.2.2.2.1,(u1 _).2.2.2.2.2.2,fA jf _ (.inl rfl),h10 jf _ (.inl rfl),ht jf _ (.inl rfl),fgD,z35,z2Z (show jm≠jf by lia)]
  try (left)
  try erw[z2Z (show jm≠jf by lia)]
  rw[Mi.y_app ⟨by unfold foD;rw[l0,C2,zl];lia,by rw[z04];exact m8⟩]
  have efo:foD (F.drop b)++[gD g']=foD ((F++[(g',c++[0])]).drop b):=by
   rw[E5 hb];simp[foD]
  rw[efo]
  left
  erw[(u2 _).1,(u2 _).2.1,(u2 _).2.2.1,(u2 _).2.2.2.1,(u2 _).2.2.2.2.1,(u2 _).2.2.2.2.2.1,(u2 _).2.2.2.2.2.2,fA jm _ (.inr rfl),h10 jm _ (.inr rfl),ht jm _ (.inr rfl),fgD,z9k (ep ⟨[],[],0⟩).1 (show jf≠jm by lia)]
  exact⟨_,(ep ⟨[],[],0⟩).1,rfl⟩
def zja{o0 o1 o2 o3 o5 o6 o7 o10:Option D}{ja jf jm lo hi cA b n:Nat}{A:Ah}(hA:Aok lo hi cA A)(hja:hi<=ja)(hjf:ja<jf)(hu:Uq jf [o0,o1,o2,o3,o5,o6,o7])(F:Fd) vs(hV:GV RL F vs)(hn:(F.map (·.1)).Nodup)(hsub: ∀q∈F,q.1∈A.map (·.1))(hsub2: ∀g,∀x∈plA A g,x.2∈A.map (·.1))(hAl:A.length<=5000)(hb:b<=F.length)(g:Sg) c(hg:(g,c)∈F)(hjm:jf<jm)(h10: ∀q d,q=jf\/q=jm->o10.map (rp (pl q d))=o10) o12(tm:Qq)(ht: ∀q d,q=jf\/q=jm->rpO (pl q d) tm=tm):
 ∃vs' p12,GV RL (putF F c (plA A g)) vs'/\inW ⟨wvS o0 o1 o2 o3 ja A o5 o6 o7 (some (gD g)) jf F vs o10 (some (.lst jm (foD (F.drop b)))) o12,tm,n⟩= .nx ⟨wvS o0 o1 o2 o3 ja A o5 o6 o7 (some (gD g)) jf (putF F c (plA A g)) vs' o10 (some (.lst jm (foD ((putF F c (plA A g)).drop b)))) p12,tm,n⟩:=by
 obtain⟨a,ha,ea⟩:=l5.mp (hsub _ hg)
 have ea:a.1=g:=ea
 have pa:=ziY hA.kn ha
 have ba:=hA.lb a ha
 have epl:plA A g=a.2.2.map λh=>(0,h):=by unfold plA;rw[<-ea,pa]
 have bound: ∀t,(putF F c ((plA A g).take t)).length<=5000:=λt=>by
  obtain⟨h1,h2⟩:=z3m (Q:=λq=>q.1∈A.map (·.1)) (c:=c) (gs:=(plA A g).take t) hn hsub (λx hx=>hsub2 g x (F8 hx))
  have:=z1K h1 (ys:=A.map (·.1)) λg hg=>by
   obtain⟨q,hq,rfl⟩:=l5.mp hg
   exact h2 q hq
  erw[l0] at this
  lia
 unfold inW
 have hi:j6 (y4 (y0 4) (y0 8) z08) ⟨wvS o0 o1 o2 o3 ja A o5 o6 o7 (some (gD g)) jf F vs o10 (some (.lst jm (foD (F.drop b)))) o12,tm,n⟩= .ok kLst ⟨wvS o0 o1 o2 o3 ja A o5 o6 o7 (some (gD g)) jf F vs o10 (some (.lst jm (foD (F.drop b)))) o12,some (.lst a.2.1 (sgD a.2.2))::tm,n⟩:=z0r (by
  unfold wvS
  left
  rw[<-ea,zdZ hA.kn ha])
 rw[z46,hi,z2a]
 obtain⟨s',e,vs',p12,hV',rfl⟩:=U9 (P:=λt s=> ∃(vs':List D) (p12:Option D),GV RL (putF F c ((plA A g).take t)) vs'/\s=⟨wvS o0 o1 o2 o3 ja A o5 o6 o7 (some (gD g)) jf (putF F c ((plA A g).take t)) vs' o10 (some (.lst jm (foD ((putF F c ((plA A g).take t)).drop b)))) p12,some (.lst a.2.1 (sgD a.2.2))::tm,n⟩) (l:=a.2.1) (ds:=sgD a.2.2) (g:= .nm 12) (tm:=tm) (b:=adW)
  (by rintro t s ⟨_,_,_,rfl⟩;rfl) (by
   rintro t d hd s ⟨vs',p12,hV',rfl⟩
   unfold sgD at hd
   rw[List.getElem?_map] at hd
   cases hx:a.2.2[t]? with
   |none=>rw[hx] at hd;cases hd
   |some x=>
    rw[hx] at hd
    cases hd
    have hpl:(plA A g)[t]? =some (0,x):=by rw[epl,List.getElem?_map,hx];rfl
    obtain⟨B,hB⟩:=z1J (c:=c) (gs:=(plA A g).take t) (F:=F)
    have hmem:(g,c)∈putF F c ((plA A g).take t):=by rw[hB];exact i8 _ hg
    have hb':b<=(putF F c ((plA A g).take t)).length:=by rw[hB,m5];lia
    obtain⟨vs2,hV2,e⟩:=zj9 (n:=n) hA hja hjf hu _ vs' hV' (zbk hn) (by have:=bound t;lia) hb' g x c hmem hjm h10 (some (.lst a.2.1 (sgD a.2.2))::tm) (λq d hq=>by
     rw[Z0,ht q d hq,i9,z0y (show a.2.1≠q by lia),zdX])
    refine⟨_,rfl,_,e,vs2,some (gD x), ?_, ?_⟩
    .rw[A6,hpl,A8,z3n];exact hV2
    .rw[A6,hpl,A8,z3n];rfl) a.2.2.length 0 ⟨wvS o0 o1 o2 o3 ja A o5 o6 o7 (some (gD g)) jf F vs o10 (some (.lst jm (foD (F.drop b)))) o12,some (.lst a.2.1 (sgD a.2.2))::tm,n⟩ (by simp[sgD]) ⟨vs,o12,hV,rfl⟩
 dsimp only
 have el:(sgD a.2.2).length=a.2.2.length:=by simp[sgD]
 have lp:(plA A g).length=a.2.2.length:=by rw[epl];simp
 rw[show kLst.len (some (.lst a.2.1 (sgD a.2.2))::tm)=a.2.2.length from el,e,px1]
 rw[el,t9 ⋯] at hV'⊢
 exact⟨vs',p12,hV',rfl⟩
def z7O{A:Ah}(hsub2: ∀g,∀x∈plA A g,x.2∈A.map (·.1)){E:Fd}(hn:(E.map (·.1)).Nodup)(hE: ∀q∈E,q.1∈A.map (·.1)) n:((runF' (plA A) n 0 E).map (·.1)).Nodup/\(∀q∈runF' (plA A) n 0 E,q.1∈A.map (·.1))/\(runF' (plA A) n 0 E).length<=A.length:=by
 obtain⟨h1,h2⟩:=z5w (gl:=plA A) (Q:=λq=>q.1∈A.map (·.1)) (λq _ x hx=>hsub2 q.1 x hx) n 0 E hn hE
 refine⟨h1,h2, ?_⟩
 have:=z1K h1 (ys:=A.map (·.1)) λg hg=>by
  obtain⟨q,hq,rfl⟩:=l5.mp hg
  exact h2 q hq
 simpa using this
def zjb{ja jf lo hi cA:Nat}{A:Ah}(hA:Aok lo hi cA A)(hja:hi<=ja)(hjf:ja<jf)(hu:Uq jf [o0,o1,o2,o3,o5,o6,o7])(hsub2: ∀g,∀x∈plA A g,x.2∈A.map (·.1))(hAl:A.length<=5000)(E:Fd)(hnE:(E.map (·.1)).Nodup)(hE: ∀q∈E,q.1∈A.map (·.1)) i vs(hV:GV RL (runF' (plA A) i 0 E) vs)(hi:i<=(runF' (plA A) i 0 E).length) je n(hje:jf<je)(hen:je<n) o8 o11 o12(tm:Qq)(ht: ∀q d,jf<=q->rpO (pl q d) tm=tm):
 ∃vs' p8 p12,GV RL (runF' (plA A) (runF' (plA A) i 0 E).length 0 E) vs'/\lvW ⟨wvS o0 o1 o2 o3 ja A o5 o6 o7 o8 jf (runF' (plA A) i 0 E) vs (some (.lst je (foD ((runF' (plA A) i 0 E).drop i)))) o11 o12,tm,n⟩= .nx ⟨wvS o0 o1 o2 o3 ja A o5 o6 o7 p8 jf (runF' (plA A) (runF' (plA A) i 0 E).length 0 E) vs' (some (.lst n (foD ((runF' (plA A) (runF' (plA A) i 0 E).length 0 E).drop (runF' (plA A) i 0 E).length)))) (some (.lst n (foD ((runF' (plA A) (runF' (plA A) i 0 E).length 0 E).drop (runF' (plA A) i 0 E).length)))) p12,tm,n+1⟩:=by
 generalize hF:runF' (plA A) i 0 E=F at*
 have runE: ∀t,runF' (plA A) t i F=runF' (plA A) (i+t) 0 E:=λt=>by rw[z2b,hF,N8]
 have eN:runF' (plA A) (F.length -i) i F=runF' (plA A) F.length 0 E:=by rw[runE,show i+(F.length -i)=F.length by lia]
 unfold lvW wvS
 left
 rw[z0r (l:=je) (ds:=foD (F.drop i)) (σ:=wvS o0 o1 o2 o3 ja A o5 o6 o7 o8 jf F vs (some (.lst je (foD (F.drop i)))) (some (.lst n [])) o12) (tm:=tm) (n:=n+1) (by unfold wvS;left),z2a]
 obtain⟨s',e,vs',p8,p12,hV',rfl⟩:=U9 (P:=λt s=> ∃(vs':List D) (p8 p12:Option D),GV RL (runF' (plA A) t i F) vs'/\s=⟨wvS o0 o1 o2 o3 ja A o5 o6 o7 p8 jf (runF' (plA A) t i F) vs' (some (.lst je (foD (F.drop i)))) (some (.lst n (foD ((runF' (plA A) t i F).drop F.length)))) p12,some (.lst je (foD (F.drop i)))::tm,n+1⟩) (l:=je) (ds:=foD (F.drop i)) (g:= .nm 8) (tm:=tm) (b:=inW)
  (by rintro t s ⟨_,_,_,_,rfl⟩;rfl) (by
   rintro t d hd s ⟨vs',p8,p12,hV',rfl⟩
   unfold foD at hd
   rw[List.getElem?_map,List.getElem?_drop] at hd
   cases hx:F[i+t]? with
   |none=>rw[hx] at hd;cases hd
   |some q=>
    rw[hx] at hd
    cases hd
    obtain⟨B,hB⟩:=z49 (gl:=plA A) t i F
    have hlt:i+t<F.length:=(List.getElem?_eq_some_iff.mp hx).1
    have hq:(runF' (plA A) t i F)[i+t]? =some q:=by rw[hB,List.getElem?_append_left hlt];exact hx
    obtain⟨k1,k2,k3⟩:=z7O hsub2 hnE hE (i+t)
    rw[<-runE] at k1 k2 k3
    obtain⟨vs2,q12,hV2,e⟩:=zja (n:=n+1) (jm:=n) (b:=F.length) hA hja hjf hu _ vs' hV' k1 k2 hsub2 hAl (by rw[hB,m5];lia) q.1 q.2 (List.mem_of_getElem? hq) ⋯ (o10:=some (.lst je (foD (F.drop i)))) (λz d hz=>by rw[i9,z2Z ⋯]) p12 (some (.lst je (foD (F.drop i)))::tm) (λz d hz=>by rw[Z0,i9,z2Z ⋯,ht z d ⋯])
    have epr:proc (plA A) (runF' (plA A) t i F) (i+t)=putF (runF' (plA A) t i F) q.2 (plA A q.1):=by
     unfold proc;rw[hq]
    refine⟨_,rfl,_,e,vs2,some (gD q.1),q12, ?_, ?_⟩
    .rw[z2u,epr];exact hV2
    .rw[z2u,epr]) (F.length -i) 0 ⟨wvS o0 o1 o2 o3 ja A o5 o6 o7 o8 jf F vs (some (.lst je (foD (F.drop i)))) (some (.lst n [])) o12,some (.lst je (foD (F.drop i)))::tm,n+1⟩ (by simp[foD]) ⟨vs,o8,o12,hV,by simp[runF',foD]⟩
 dsimp only
 have el:(foD (F.drop i)).length=F.length -i:=by simp[foD]
 rw[show kLst.len (some (.lst je (foD (F.drop i)))::tm)=F.length -i from el,e,px1]
 rw[el,eN] at hV'⊢
 unfold wvS
 left
 exact⟨vs',p8,p12,hV',rfl⟩
def zdd{ja jf lo hi cA:Nat}{A:Ah}(hA:Aok lo hi cA A)(hja:hi<=ja)(hjf:ja<jf)(hu:Uq jf [o0,o1,o2,o3,o5,o6,o7])(hsub2: ∀g,∀x∈plA A g,x.2∈A.map (·.1))(hAl:A.length<=5000)(E:Fd)(hnE:(E.map (·.1)).Nodup)(hE: ∀q∈E,q.1∈A.map (·.1))(tm:Qq)(ht: ∀q d,jf<=q->rpO (pl q d) tm=tm) N(hend:(runF' (plA A) N 0 E).length=N)(hgo: ∀i,i<N->i<(runF' (plA A) i 0 E).length):
 ∀d i fuel,N -i<=d->i<=N->d<fuel->∀je n vs o8 o11 o12,jf<je->je<n->GV RL (runF' (plA A) i 0 E) vs->
 ∃vs' p8 p10 p11 p12 n',n<=n'/\GV RL (runF' (plA A) N 0 E) vs'/\Y5 (J4 (y4 (y0 10) (mCB [] lstM) neD)) lvW fuel ⟨wvS o0 o1 o2 o3 ja A o5 o6 o7 o8 jf (runF' (plA A) i 0 E) vs (some (.lst je (foD ((runF' (plA A) i 0 E).drop i)))) o11 o12,tm,n⟩= .nx ⟨wvS o0 o1 o2 o3 ja A o5 o6 o7 p8 jf (runF' (plA A) N 0 E) vs' p10 p11 p12,tm,n'⟩:=by
 intro d
 have ec: ∀(i je n:Nat) (vs:List D) (o8 o11 o12:Option D),J4 (y4 (y0 10) (mCB [] lstM) neD) ⟨wvS o0 o1 o2 o3 ja A o5 o6 o7 o8 jf (runF' (plA A) i 0 E) vs (some (.lst je (foD ((runF' (plA A) i 0 E).drop i)))) o11 o12,tm,n⟩= .ok (!((runF' (plA A) i 0 E).drop i).isEmpty) ⟨wvS o0 o1 o2 o3 ja A o5 o6 o7 o8 jf (runF' (plA A) i 0 E) vs (some (.lst je (foD ((runF' (plA A) i 0 E).drop i)))) o11 o12,tm,n+1⟩:=λi je n vs o8 o11 o12=>by
  unfold wvS
  left
  rw[zbl]
  left
 have stop: ∀(fuel je n:Nat) (vs:List D) (o8 o11 o12:Option D),0<fuel->GV RL (runF' (plA A) N 0 E) vs->∃vs' p8 p10 p11 p12 n',n<=n'/\GV RL (runF' (plA A) N 0 E) vs'/\Y5 (J4 (y4 (y0 10) (mCB [] lstM) neD)) lvW fuel ⟨wvS o0 o1 o2 o3 ja A o5 o6 o7 o8 jf (runF' (plA A) N 0 E) vs (some (.lst je (foD ((runF' (plA A) N 0 E).drop N)))) o11 o12,tm,n⟩= .nx ⟨wvS o0 o1 o2 o3 ja A o5 o6 o7 p8 jf (runF' (plA A) N 0 E) vs' p10 p11 p12,tm,n'⟩:=λfuel je n vs o8 o11 o12 hf hV=>by
  obtain⟨m,rfl⟩: ∃m,fuel=m+1:=⟨fuel - 1,⋯⟩
  have e:((runF' (plA A) N 0 E).drop N).isEmpty=true:=by rw[D7 ⋯];rfl
  refine⟨vs,o8,some (.lst je (foD ((runF' (plA A) N 0 E).drop N))),o11,o12,n+1,⋯,hV, ?_⟩
  unfold Y5
  erw[z1o,ec,e,D6]
  rfl
 induction d with
 |zero=>
  intro i fuel hi hiN hf je n vs o8 o11 o12 h1 h2 hV
  have hi:i=N:=by lia
  subst hi
  exact stop fuel je n vs o8 o11 o12 ⋯ hV
 |succ d ih=>
  intro i fuel hi hiN hf je n vs o8 o11 o12 h1 h2 hV
  rcases F6 hiN with hlt|heq
  .obtain⟨m,rfl⟩: ∃m,fuel=m+1:=⟨fuel - 1,⋯⟩
   have hgt:=hgo i hlt
   have hmono:=z5v (gl:=plA A) (F:=E) (L9 hlt)
   have e:((runF' (plA A) i 0 E).drop i).isEmpty=false:=by
    cases q:(runF' (plA A) i 0 E).drop i with
    |nil=>have:=T6.mp q;lia
    |cons _ _=>rfl
   obtain⟨vs',p8,p12,hV',e1⟩:=zjb hA hja hjf hu hsub2 hAl E hnE hE i vs hV ⋯ je (n+1) h1 ⋯ o8 o11 o12 tm ht
   obtain⟨vs2,q8,q10,q11,q12,n2,hn2,hV2,e2⟩:=ih (runF' (plA A) i 0 E).length m ⋯ ⋯ ⋯ (n+1) (n+1+1) vs' p8 (some (.lst (n+1) (foD ((runF' (plA A) (runF' (plA A) i 0 E).length 0 E).drop (runF' (plA A) i 0 E).length)))) p12 ⋯ ⋯ hV'
   refine⟨vs2,q8,q10,q11,q12,n2,⋯,hV2, ?_⟩
   unfold Y5
   erw[z1o,ec,e,E4]
   show(match lvW ⟨wvS o0 o1 o2 o3 ja A o5 o6 o7 o8 jf (runF' (plA A) i 0 E) vs (some (.lst je (foD ((runF' (plA A) i 0 E).drop i)))) o11 o12,tm,n+1⟩ with
    | .nx s'=>Y5 (J4 (y4 (y0 10) (mCB [] lstM) neD)) lvW m s'
    | .ct s'=>Y5 (J4 (y4 (y0 10) (mCB [] lstM) neD)) lvW m s'
    | .bk s'=> .nx s'
    | .rt d s'=> .rt d s'
    | .ex d s'=> .ex d s'
    | .no=> .no)=_
   rw[e1]
   exact e2
  .subst heq
   exact stop fuel je n vs o8 o11 o12 ⋯ hV
def dist(F:Fd)(g:Sg):Option Nat:=(F.find? λq=>decide (q.1=g)).map (·.2.length)
theorem z8D{w:List Int}: ∀{F:Fd},(F.map (·.1)).Nodup->(g,w)∈F->dist F g=some w.length
 |[],_,h=>nomatch h
 |q::F,hn,h=>by
  rw[i7,C0] at hn
  unfold dist
  rcases m3.mp h with rfl|h
  .simp
  .rw[List.find?_cons_of_neg (by simp;exact λz=>hn.1 (z▸l5.mpr ⟨(g,w),h,rfl⟩))]
   exact z8D hn.2 h
def z6R{m:Nat}(h:dist F g=some m): ∃w,(g,w)∈F/\w.length=m:=by
 unfold dist at h
 obtain⟨q,h1,h2⟩:=L0.mp h
 have e:=List.find?_some h1
 have e:q.1=g:=of_decide_eq_true e
 exact⟨q.2,by rw[<-e];exact List.mem_of_find?_eq_some h1,h2⟩
def zbx{F:Fd}(h:dist F g=none):g∉F.map (·.1):=λhm=>by
 unfold dist at h
 rw[Option.map_eq_none_iff,List.find?_eq_none] at h
 obtain⟨q,hq,e⟩:=l5.mp hm
 exact h q hq (by simpa using e)
def zjc{A:Ah}(h:g∉A.map (·.1)):prd A g=[]:=by
 unfold prd
 rw[List.find?_eq_none.mpr λa ha=>by simp;exact λe=>h (e▸l5.mpr ⟨a,ha,rfl⟩)]
def zl7(h: ∀a∈A,a.2.2=[])(g:Sg):prd A g=[]:=by
 unfold prd
 cases e:A.find? (λa=>decide (a.1=g)) with
 |none=>rfl
 |some a=>exact h a (List.mem_of_find?_eq_some e)
def zby{gl:Gl}{F:Fd}{A:Ah}(hk:A.map (·.1)=F.map (·.1))(h0: ∀a∈A,a.2.2=[])(g:Sg)(x:Int×Sg):x∈plA (z0w gl F A) g↔x.1=0/\g∈F.map (·.1)/\x.2∈F.map (·.1)/\∃k,(k,g)∈gl x.2:=by
 have kk:(z0w gl F A).map (·.1)=A.map (·.1):=by
  have k1: ∀(g:Sg) (gs:List (Int×Sg)) (A:Ah),(z7M A g gs).map (·.1)=A.map (·.1):=by
   intro g gs
   induction gs with
   |nil=>intro A;rfl
   |cons x gs ih=>intro A;exact(ih _).trans (z0Y A x.2 g)
  have: ∀(F:Fd) (A:Ah),(z0w gl F A).map (·.1)=A.map (·.1):=by
   intro F
   induction F with
   |nil=>intro A;rfl
   |cons q F ih=>intro A;exact(ih _).trans (k1 _ _ _)
  exact this F A
 unfold plA
 constructor
 .intro h
  obtain⟨y,hy,rfl⟩:=l5.mp h
  by_cases hg:g∈F.map (·.1)
  .have:=(z4f (gl:=gl) (h:=y) (F:=F) (by rw[hk];exact hg)).mp hy
   rw[zl7 h0] at this
   obtain⟨h1,z,hz,e⟩:=this.resolve_left (λz=>nomatch z)
   exact⟨rfl,hg,h1,z.1,by rw[<-e];exact hz⟩
  .rw[zjc (by rw[kk,hk];exact hg)] at hy
   cases hy
 .rintro ⟨h1,hg,h2,k,hz⟩
  refine l5.mpr ⟨x.2,(z4f (gl:=gl) (F:=F) (by rw[hk];exact hg)).mpr (.inr ⟨h2,(k,g),hz,rfl⟩), ?_⟩
  rw[<-h1]
def zjd{gl:Gl}(ha:Asc gl){E:Sg->Bool}{F:Fd}{A:Ah}(hk:A.map (·.1)=F.map (·.1))(h0: ∀a∈A,a.2.2=[])(hV: ∀h∈F.map (·.1),∀x∈gl h,x.2∈F.map (·.1)){E0:Fd}(hE: ∀q∈E0,q.2=[]/\E q.1=true)(hE1: ∀g∈F.map (·.1),E g=true->(g,[])∈E0){N:Nat}(hgo: ∀i,i<N->i<(runF' (plA (z0w gl F A)) i 0 E0).length)(hend:(runF' (plA (z0w gl F A)) N 0 E0).length=N)(hn:((runF' (plA (z0w gl F A)) N 0 E0).map (·.1)).Nodup):
 Far gl E (dist (runF' (plA (z0w gl F A)) N 0 E0)) λg=>g∈F.map (·.1):=by
 have hp:Pr gl (plA (z0w gl F A)) λg=>g∈F.map (·.1):=⟨λg x hx=>by
  obtain⟨_,_,h2,h3⟩:=(zby hk h0 g x).mp hx
  exact⟨h2,h3⟩,λh k g hh hm=>⟨0,(zby hk h0 g (0,h)).mpr ⟨rfl,hV h hh _ hm,hh,k,hm⟩⟩⟩
 intro g hg
 refine⟨λw hw=> ?_,λm hm=> ?_⟩
 .obtain⟨w0,h1,h2⟩:=zbr hp hV (λq hq=>(hE q hq).1) hE1 hgo hend w g hg hw
  exact⟨_,z8D hn h1,h2⟩
 .obtain⟨w,h1,h2⟩:=z6R hm
  obtain⟨w',h3,h4⟩:=zfR ha hp hE hgo _ h1
  exact⟨w',h3,by rw[h4];exact h2⟩
def zbz rows(hw: ∀r∈rows,Wf r)(hr:rows.length<=40) sn(hsn:sn.length<=24) l ls js n(hl:l<n)(hs:ls<n)(hj:js<n) FK vp(hFK: ∀W,W∈FK↔J1 rows W=true)(hD:DV rows (js+1) n FK vp) N(hN:N<=5000)(hend:(runF' (gl rows sn) N 0 F0).length=N)(hgo: ∀i,i<N->i<(runF' (gl rows sn) i 0 F0).length):
 ∃(Fb:Fd) (vb:List D) (jf n':Nat),n<=jf/\jf<n'/\GV RL Fb vb/\(Fb.map (·.1)).Nodup/\Fb.length<=5000/\Far (gl rows sn) (Ends rows sn) (dist Fb) (λg=>g∈(runF' (gl rows sn) N 0 F0).map (·.1))/\z0U [.lst l (rows.map rD), .dct js (FK.map kd) vp, .lst ls (sn.map .int)] n= .ok (.dct jf (ksF Fb) vb) [.lst l (rows.map rD), .dct js (FK.map kd) vp, .lst ls (sn.map .int)] n':=by
 obtain⟨vs,n1,hn1,hV,e1⟩:=zd7 rows hw hr sn hsn ls js n hs hj FK vp hFK hD N hN hend hgo
 have B:Bf slt (gl rows sn) F0 N (runF' (gl rows sn) N 0 F0):=z1G (z4e (z1W rows sn) (0,[])) hgo N (i6 _)
 obtain⟨ok1,ok2⟩:=z6N hw (sn:=sn) N
 have hF5:(runF' (gl rows sn) N 0 F0).length<=5000:=by lia
 have hVV: ∀h∈(runF' (gl rows sn) N 0 F0).map (·.1),∀x∈gl rows sn h,x.2∈(runF' (gl rows sn) N 0 F0).map (·.1):=λh hh x hx=>by
  obtain⟨q,hq,rfl⟩:=l5.mp hh
  obtain⟨j,hj⟩:=List.mem_iff_getElem?.mp hq
  obtain⟨w,hw',_⟩:=B.cov j q (by have:=(List.getElem?_eq_some_iff.mp hj).1;lia) hj x hx
  exact l5.mpr ⟨_,hw',rfl⟩
 generalize hFe:runF' (gl rows sn) N 0 F0=F at*
 have hi:z01 (y0 3) ⟨[some (.lst l (rows.map rD)),some (.dct js (FK.map kd) vp),some (.lst ls (sn.map .int)),some (.dct n (ksF F) vs),none,none,none,none,none,none,none,none,none],wtm l rows js FK vp ls sn,n1⟩= .ok kDct ⟨[some (.lst l (rows.map rD)),some (.dct js (FK.map kd) vp),some (.lst ls (sn.map .int)),some (FdF F vs),none,none,none,none,none,none,none,none,none],some (FdF F vs)::wtm l rows js FK vp ls sn,n1⟩:=by
  unfold z01 wtm
  left
  show(if isT (ksF F)=true/\qq vs=[] then _ else _)=_
  rw[qy ⟨z5C F,hV.labs⟩]
  erw[z1F,Z0,Z8,i9,C9,Z7 (show l≠n by lia),W3 (show ls≠n by lia),z3d hD (show js≠n by lia) (.inr (i6 _)),z35]
  rfl
 obtain⟨A,n2,hn2,hk,hA,h0,e2⟩:=zl4 F vs hV ok1 hF5 hi
 have hx: ∀q∈F,∀x∈W9 rows sn q.1,x.2∈A.map (·.1):=λq hq x hx=>by rw[hk];exact hVV q.1 (l5.mpr ⟨q,hq,rfl⟩) x hx
 obtain⟨p5,p6,p7,p8,n3,hn3,g5,g6,g7,g8,e3⟩:=zj2 rows hw sn ⋯ l ls js n n1 n2 (n2+1) (n2+2) FK vp hD F vs hV ⋯ ⋯ ⋯ ⋯ hn2 ⋯ ⋯ hF5 A hA (λq hq=>⟨(hFK _).mpr (ok2 q hq).1.2,by have:=z0D hw (ok2 q hq).1.2;lia⟩) hx
 obtain⟨a1,a2⟩:=z5G (gl:=W9 rows sn) (m:=26) (λ_=>z2w) (F:=F) hA
 obtain⟨vE,q5,q6,n4,hn4,z5,z6,hVE,e4⟩:=zj8 rows hw sn ⋯ l ls js n1 n2 (n2+1) n3 (n3+1) (n3+2) _ n FK vp hD F vs hV ok1 hF5 (λq hq=>by have:=z0D hw (ok2 q hq).1.2;lia) _ a1 ⋯ ⋯ ⋯ ⋯ hn2 ⋯ ⋯ ⋯ ⋯ p5 p6 p7 p8 g5 g6 g7 g8
 have hsub2: ∀g,∀x∈plA (z0w (W9 rows sn) F A) g,x.2∈(z0w (W9 rows sn) F A).map (·.1):=λg x hx=>by
  rw[a2,hk]
  exact((zby hk h0 g x).mp hx).2.2.1
 have hlA:(z0w (W9 rows sn) F A).length=F.length:=by
  have:=congrArg E7 (a2.trans hk)
  simpa using this
 have hnE:=zj6 (rows:=rows) (sn:=sn) ok1
 have hEs: ∀q∈edF rows sn F,q.1∈(z0w (W9 rows sn) F A).map (·.1):=λq hq=>by
  rw[a2,hk]
  exact zbw (l5.mpr ⟨q,hq,rfl⟩)
 obtain⟨M,hM,hMe,hMg⟩:=zb8 (gl:=plA (z0w (W9 rows sn) F A)) (F:=edF rows sn F) (B:=5000) λn=>by have:=(z7O hsub2 hnE hEs n).2.2;lia
 obtain⟨vb,r8,r10,r11,r12,n5,hn5,hVb,e5⟩:=zdd (o0:=some (.lst l (rows.map rD))) (o1:=some (.dct js (FK.map kd) vp)) (o2:=some (.lst ls (sn.map .int))) (o3:=some (FdF F vs)) (o5:=q5) (o6:=q6) (o7:=p7) (jf:=n3) a1 (show n2<=n2+1 by lia) ⋯ (λq d hq=>by
  erw[Z0,Z8,i9,Z7 (show l≠q by lia),z3d hD (show js≠q by lia) (.inr (show n<=q by lia)),W3 (show ls≠q by lia),z36 hV,z5 q,z6 q,g7 q]) hsub2 ⋯ (edF rows sn F) hnE hEs (wtm l rows js FK vp ls sn) (λq d hq=>by
  unfold wtm
  erw[Z0,Z8,i9,Z7 (show l≠q by lia),z3d hD (show js≠q by lia) (.inr (show n<=q by lia)),W3 (show ls≠q by lia)]) M hMe hMg M 0 100000 ⋯ (B9 _) ⋯ (n3+1) n4 vE p8 none none ⋯ ⋯ hVE
 obtain⟨k1,k2,k3⟩:=z7O hsub2 hnE hEs M
 refine⟨_,vb,n3,n5,⋯,⋯,hVb,k1,⋯,zjd (z1W rows sn) hk h0 hVV (λq hq=> ?_) (λg hg he=> ?_) hMg hMe k1, ?_⟩
 .unfold edF at hq
  obtain⟨p,hp,rfl⟩:=l5.mp hq
  exact⟨rfl,by simpa using(E1.mp hp).2⟩
 .obtain⟨q,hq,rfl⟩:=l5.mp hg
  exact l5.mpr ⟨q,E1.mpr ⟨hq,by simpa using he⟩,rfl⟩
 .unfold z0U
  have e0:z2S=(Z1 (Y1 (.nm 3) (Z2 z2o [(y0 1),(y0 2)]))
  (Z1 (Y1 (.nm 4) ahM)
  (Z1 (V8 (z39 (y0 3)) (.tp [(.nm 5),(.nm 6)]) adF)
  (Z1 (Y1 (.nm 9) z2G)
  (Z1 (Y1 (.nm 10) (mCB [] lstM))
  (Z1 (V8 (z39 (y0 3)) (.tp [(.nm 5),(.nm 6)]) enS)
  (Z1 (z0A (λ_=>100000) (J4 (y4 (y0 10) (mCB [] lstM) neD)) lvW)
  (K5 (y0 9))))))))):=rfl
  rw[e0]
  unfold wtm at e2 e3 e4 e5
  left
  rw[e1]
  left
  rw[e2]
  left
  unfold wfS at e3 e4
  rw[z46] at e3 e4
  rw[e3]
  left
  have eD: ∀σ tm,z2G ⟨σ,tm,n3⟩= .ok (.dct n3 [] []) ⟨σ,tm,n3+1⟩:=λ_ _=>rfl
  rw[eD]
  left
  rw[e4]
  left
  rw[z6F]
  unfold wvS at e5
  rw[show foD (edF rows sn F)=foD ((runF' (plA (z0w (W9 rows sn) F A)) 0 0 (edF rows sn F)).drop 0) from rfl,show ksF (edF rows sn F)=ksF (runF' (plA (z0w (W9 rows sn) F A)) 0 0 (edF rows sn F)) from rfl,e5]
  left
theorem GV.dist: ∀{F:Fd} {vs:List D},GV RL F vs->findK (ksF F) vs (nkG g)=(dist F g).map λ(m:Nat)=>D.int m
 |[],vs,h=>by
  have h:vs=[]:=h
  subst h;rfl
 |q::F,vs,⟨v,r,e,h1,h2,hr⟩=>by
  subst e
  have ih:=GV.dist (g:=g) hr
  have h1:v= .int (q.2.length:Nat):=h1
  subst h1
  unfold My.dist at ih⊢
  erw[ksF,i7,findK,X7,Option.some.injEq] at ih⊢
  by_cases e:q.1=g
  .subst e;simp
  .rw[qh (λz=>e (z2Y z)),ih,List.find?_cons_of_neg (by simpa using e)]
def zje{j i0 j0 n:Nat}(h:GV RL F vs)(h1:σ[i0]? =some (some (.dct j (ksF F) vs)))(h2:σ[j0]? =some (some (gD g))):z53 (y0 i0) (y0 j0) (bd (mC (.int 1)) zcd) ⟨σ,tm,n⟩= .ok (((dist F g).map λ(m:Nat)=>D.int m).getD (.int (-1))) ⟨σ,tm,n⟩:=by
 unfold z53
 erw[bd,y0,h1,h2,zjv,qy (z5C F),psh,Stt.psh,mC,rt,zcd,pop,zhQ,X7,h.dist]
def ze1{j m:Nat}(h:GV RL F vs)(hd:dist F g=some m):z08 (.dct j (ksF F) vs) (gD g) s= .ok (.int m) s:=by
 unfold z08
 erw[rdD,qy (z5C F),X7,h.dist,hd]
 rfl
def nrB(F:Fd)(m:Nat)(x:Int×Sg):Bool:=decide (dist F x.2=some m)
def zl8{m:Nat}:eqD (((dist F g).map λ(m:Nat)=>D.int m).getD (.int (-1))) (.int (m:Nat)) s= .ok (.bool (decide (dist F g=some m))) s:=by
 cases h:dist F g with
 |none=>
  erw[C9,M7]
  rw[zfu]
  congr 2
 |some k=>
  erw[i9,B4]
  rw[zfu]
  congr 2
  rw[O8]
  simp
  lia
def smM:M D:=(V4 (j6 (y0 7)) (.tp [(.nm 0),(.nm 1)]) (J4 (y4 (z53 (y0 2) (y0 1) (bd (mC (.int 1)) zcd)) (y4 (y4 (y0 2) (y0 3) z08) (mC (.int 1)) zdr) eqD)) (mCB [(y0 0),(y0 1)] j3) 2 [3,4])
def gdB:MS:=(Z1 (Y1 (.nm 7) (Z2 V1 [(y0 2),(y0 1),(y4 (y0 4) (mC (.int 0)) ixD),(y4 (y0 4) (mC (.int 1)) ixD)]))
 (Z1 (Y1 (.nm 7) smM)
 (Z1 (Q8 (Q2 (y0 5) [(y4 (y4 (y0 7) (mC (.int 0)) ixD) (mC (.int 0)) ixD)] z1N))
 (Y1 (.nm 4) (y4 (y4 (y0 7) (mC (.int 0)) ixD) (mC (.int 1)) ixD)))))
def zl9(hV:GV RL F vs){j m q n:Nat}(hd:dist F h=some (m+1)){gs:List (Int×Sg)}(hl:gs.length<=26){σ tm:Qq}(h3:σ[3]? =some (some (.dct j (ksF F) vs)))(h4:σ[4]? =some (some (gD h)))(h7:σ[7]? =some (some (.lst q (gsD gs)))):
 ∃n',n<=n'/\smM ⟨σ,tm,n⟩= .ok (.lst n' (gsD (gs.filter (nrB F m)))) ⟨σ,tm,n'+1⟩:=by
 have lg:(gsD gs).length=gs.length:=by simp[gsD]
 obtain⟨ys,_,n',⟨h0,rfl⟩,e⟩:=z5p (mi:=j6 (y0 7)) (K:=kLst) (g:= .tp [(.nm 0),(.nm 1)]) (mt:=J4 (y4 (z53 (y0 2) (y0 1) (bd (mC (.int 1)) zcd)) (y4 (y4 (y0 2) (y0 3) z08) (mC (.int 1)) zdr) eqD)) (me:=mCB [(y0 0),(y0 1)] j3) (qv:=gsD gs) (its:=[some (.lst q (gsD gs))]) (ix:=[3,4]) (k:=2) (β:=Unit) (cap:=λ_=>[some (.dct j (ksF F) vs),some (gD h)]) (σ:=λ_=>σ) (tm:=λ_=>tm) (λd=>match d with| .tup [a,b]=>[some a,some b]|_=>[none,none])
  (λi k acc _=>n<=k/\acc=gsD ((gs.take i).filter (nrB F m))) (s:=⟨σ,tm,n⟩) (b:=()) (n:=n) (λ_=>by erw[i7,t7,h3,h4,B4]) (z0r (by left;rw[h7];left;rfl)) rfl (λ_=>rfl) (by rw[lg,zl];lia) (λi rest=>rfl) rfl (λd hd _ pre hp=>by
   obtain⟨x,_,rfl⟩:=l5.mp hd
   exact zma pre hp) (λd hd=>by
   obtain⟨x,_,rfl⟩:=l5.mp hd
   rfl) ⟨i6 _,rfl⟩ (by
   rintro i hi acc _ k ha ⟨h0,rfl⟩
   rw[lg] at hi
   have ei:(gsD gs)[i]= .tup [.int gs[i].1,gD gs[i].2]:=by simp[gsD]
   rw[ei]
   refine⟨nrB F m gs[i],k, ?_, ?_⟩
   .show J4 (y4 (z53 (y0 2) (y0 1) (bd (mC (.int 1)) zcd)) (y4 (y4 (y0 2) (y0 3) z08) (mC (.int 1)) zdr) eqD) ⟨[some (.int gs[i].1),some (gD gs[i].2),some (.dct j (ksF F) vs),some (gD h)],_,k⟩= .ok _ ⟨[some (.int gs[i].1),some (gD gs[i].2),some (.dct j (ksF F) vs),some (gD h)],_,k⟩
    rw[zi0,zcH,zje hV rfl rfl]
    left
    rw[ze1 hV hd]
    left
    rw[show(((m+1:Nat):Int) - 1)=(m:Nat) by lia,zl8]
    left
    rfl
   .rw[A6,List.getElem?_eq_getElem hi,A8,F4]
    cases hb:nrB F m gs[i] with
    |false=>exact .inl ⟨rfl,h0,by simp[hb]⟩
    |true=>
     refine .inr ⟨rfl, .tup [.int gs[i].1,gD gs[i].2],(),k,⟨h0,by simp[hb,gsD]⟩, ?_⟩
     show mCB [(y0 0),(y0 1)] j3 ⟨[some (.int gs[i].1),some (gD gs[i].2),some (.dct j (ksF F) vs),some (gD h)],_,k⟩= .ok _ ⟨[some (.int gs[i].1),some (gD gs[i].2),some (.dct j (ksF F) vs),some (gD h)],_,k⟩
     left)
 rw[lg,E9] at e
 exact⟨n',h0,e⟩
def zla rows(hw: ∀r∈rows,Wf r) sn(hsn:sn.length<=24) l ls j5 jf nk hi0 n(h1:l<n)(h2:ls<n)(h3:j5<n)(h4:hi0<=n)(h5:jf<n)(h6:nk<n)(hne:l≠nk/\ls≠nk/\jf≠nk/\j5≠nk/\(nk<j5+1\/hi0<=nk)) FK vp(hD:DV rows (j5+1) hi0 FK vp)(F:Fd) vb(hV:GV RL F vb)(h:Sg) m(hd:dist F h=some (m+1))(hgF:h.2∈FK)(hg2:h.2.length<=100)(x:Int×Sg)(hx:(W9 rows sn h).find? (λx=>decide (dist F x.2=some m))=some x) acc(ha:acc.length<=6000) o6 o7(w6:Fr o6)(tm:Qq)(ht: ∀d,rpO (pl nk d) tm=tm):
 ∃q gs n',n<=q/\q<n'/\gdB ⟨[some (.lst l (rows.map rD)),some (.lst ls (sn.map .int)),some (.dct j5 (FK.map kd) vp),some (.dct jf (ksF F) vb),some (gD h),some (.lst nk (acc.map .int)),o6,o7],tm,n⟩= .nx ⟨[some (.lst l (rows.map rD)),some (.lst ls (sn.map .int)),some (.dct j5 (FK.map kd) vp),some (.dct jf (ksF F) vb),some (gD x.2),some (.lst nk ((acc++[x.1]).map .int)),o6,some (.lst q (gsD gs))],tm,n'⟩:=by
 obtain⟨n1,hn1,e1⟩:=z5E rows hw sn ⋯ ls j5 n h2 h3 FK vp (hD.mono h4) h hgF hg2
 obtain⟨n2,hn2,e2⟩:=zl9 (n:=n1) (q:=n) (m:=m) hV hd (z2w (rows:=rows) (sn:=sn) (g:=h)) (σ:=[some (.lst l (rows.map rD)),some (.lst ls (sn.map .int)),some (.dct j5 (FK.map kd) vp),some (.dct jf (ksF F) vb),some (gD h),some (.lst nk (acc.map .int)),o6,some (.lst n (gsD (W9 rows sn h)))]) (tm:=tm) rfl rfl rfl
 obtain⟨gs,eg⟩: ∃gs,(W9 rows sn h).filter (nrB F m)=x::gs:=by
  have:((W9 rows sn h).filter (nrB F m)).head? =some x:=by rw[List.head?_filter];exact hx
  cases e:(W9 rows sn h).filter (nrB F m) with
  |nil=>rw[e] at this;cases this
  |cons y gs=>rw[e] at this;cases this;exact⟨gs,rfl⟩
 rw[eg] at e2
 have eh:gD h=D.tup [.int h.1, .tup (h.2.map .int)]:=rfl
 have eg2:gsD (x::gs)=D.tup [.int x.1,gD x.2]::gsD gs:=rfl
 refine⟨n2,x::gs,n2+1,⋯,⋯, ?_⟩
 unfold gdB
 left
 rw[eh]
 left
 rw[e1]
 left
 rw[<-eh,e2]
 left
 rw[eg2]
 left
 rw[Mi.y_app ⟨by rw[zl,l0];lia,by exact m8⟩]
 left
 obtain⟨z1,z2,z3,z4,z5⟩:=hne
 have f7: ∀d,rp (pl nk d) (.lst n2 (D.tup [.int x.1,gD x.2]::gsD gs))= .lst n2 (D.tup [.int x.1,gD x.2]::gsD gs):=λd=>zj0 (gs:=x::gs) ⋯
 erw[Z7 z1,W3 z2,z3d hD z4 z5,z9k hV z3,z4p,w6 nk,ht,f7,z0y (show n2≠nk by lia),U8,zaR,J8]
 left
 rw[t5]
 rfl
theorem z2x: ∀{σ:Qq} {l:Nat},l∈Y0 σ->∃d,some d∈σ/\l∈labs d
 |[],_,h=>nomatch h
 |none::r,l,h=>by
  obtain⟨d,h1,h2⟩:=z2x (σ:=r) h
  exact⟨d,i5 _ h1,h2⟩
 |some d::r,l,h=>by
  rcases l4.mp (show l∈labs d++Y0 r from h) with h|h
  .exact⟨d,l6,h⟩
  .obtain⟨d,h1,h2⟩:=z2x (σ:=r) h
   exact⟨d,i5 _ h1,h2⟩
def z9n{t:D}{n' n k j:Nat}{PK:List (List Int)}(hd:qq ds=[])(a1: ∀o∈σ,UpO j o)(a2: ∀o∈tm,UpO j o)(f1:rpO (pl k (.lst k ds)) σ=σ)(f2:rpO (pl k (.lst k ds)) tm=tm):
 z2C (.ok t [.lst k ds,FdP PK] n') [.lst k ds,dD j PK] ⟨σ,tm,n⟩= .ok t ⟨σ,tm,n'⟩:=by
 have e:(λl=>findL l [.lst k ds,FdP PK])=pl k (.lst k ds):=by
  funext l
  erw[findL,findT,pl,FdP]
  by_cases h:k=l
  .subst h;rw[qy rfl,qy rfl]
  .rw[qh h,qh λq=>h q.symm,findL_none ds (by rw[hd];exact m8),findL_none _ (by rw[z5A];exact m8)]
 have hk:qq (PK.map kd)=[]:=Q6 λd hd=>by obtain⟨p,_,rfl⟩:=l5.mp hd;exact Z9 p
 unfold z2C
 dsimp only
 rw[qh,qy]
 .rw[e,f1,f2]
 .intro l hs hl
  have h1:=congrFun e l
  rw[show findL l [D.lst k ds,FdP PK]=pl k (.lst k ds) l from h1]
  have hj:l<j:=by
   rcases l4.mp (show l∈Y0 σ++Y0 tm from hs) with h|h
   .obtain⟨d,hd,hl⟩:=z2x h
    exact a1 _ hd d rfl l hl
   .obtain⟨d,hd,hl⟩:=z2x h
    exact a2 _ hd d rfl l hl
  erw[qq,Mi.labs,dD,hd,hk,z5A,l7,l4,m3,m8,or_false] at hl
  rcases hl with rfl|rfl
  .simp[pl]
  .exact absurd hj (D8 _)
 .intro z
  erw[dD,FdP,List.cons.injEq] at z
  exact absurd z.2.1 (by simp)
def z8E{n m:Nat}(h:UpO n o)(hm:n<=m):UpO m o:=λd e k hk=>A2 (h d e k hk) hm
def z7P{n k:Nat}{rows:List Z6}(h:k<n):UpO n (some (.lst k (rows.map rD))):=by rintro _ ⟨⟩ j hj;erw[Mi.labs,z0u,m3,m8,or_false] at hj;lia
def z9o{n k:Nat}{ns:List Int}(h:k<n):UpO n (some (.lst k (ns.map .int))):=by rintro _ ⟨⟩ j hj;erw[Mi.labs,Z9,m3,m8,or_false] at hj;lia
def zjf{n:Nat}{ns:List Int}:UpO n (some (.ro (ns.map .int))):=by rintro _ ⟨⟩ j hj;erw[Mi.labs,Z9,m8] at hj
def zbA{n:Nat}{i:Int}:UpO n (some (.int i)):=by rintro _ ⟨⟩ j hj;erw[Mi.labs,m8] at hj
def zjg{n k:Nat}{c x:Int}(h:k<n):UpO n (some (.lst k [.int c, .int x])):=z9o (ns:=[c,x]) h
def zg2{gl:Gl}{F:Fd}{q:Sg×List Int}(h:q∈F)(n:Nat):q∈runF' gl n 0 F:=by
 obtain⟨A,hA⟩:=z49 (gl:=gl) n 0 F
 rw[hA];exact i8 _ h
def zg3 rows(hw: ∀r∈rows,Wf r)(hr:rows.length<=40) sn(hsn:sn.length<=24) l ls n(hl:l<n)(hs:ls<n)(hne:l≠ls) N(hN:N<=5000)(hend:(runF' (gl rows sn) N 0 F0).length=N)(hgo: ∀i,i<N->i<(runF' (gl rows sn) i 0 F0).length):
 ∃k n',n<=k/\k<n'/\z0V [.lst l (rows.map rD), .lst ls (sn.map .int)] n= .ok (z9m (((runF' (gl rows sn) N 0 F0).find? λq=>Ends rows sn q.1).map (·.2)) k) [.lst l (rows.map rD), .lst ls (sn.map .int)] n':=by
 obtain⟨PK,hPK,hPz,e3⟩:=zb1 rows l n hw ⋯ hl
 obtain⟨FK,vs,j5,n3,hj,hj',hD,hFK,hFz,e4⟩:=zd1 rows hw PK hPK ⋯ l n (n+1) ⋯ ⋯ ⋯
 obtain⟨Fb,vb,jf,n4,hjf,hjf',hVb,hnb,hb5,hFar,e5⟩:=zbz rows hw hr sn hsn l ls j5 n3 ⋯ ⋯ hj' FK vs hFK hD N hN hend hgo
 have B:Bf slt (gl rows sn) F0 N (runF' (gl rows sn) N 0 F0):=z1G (z4e (z1W rows sn) (0,[])) hgo N (i6 _)
 obtain⟨ok1,ok2⟩:=z6N hw (sn:=sn) N
 have hlen:=z7L (sn:=sn) hend hgo
 have hVV: ∀h∈(runF' (gl rows sn) N 0 F0).map (·.1),∀x∈gl rows sn h,x.2∈(runF' (gl rows sn) N 0 F0).map (·.1):=λh hh x hx=>by
  obtain⟨q,hq,rfl⟩:=l5.mp hh
  obtain⟨j,hj⟩:=List.mem_iff_getElem?.mp hq
  obtain⟨w,hw',_⟩:=B.cov j q (by have:=(List.getElem?_eq_some_iff.mp hj).1;lia) hj x hx
  exact l5.mpr ⟨_,hw',rfl⟩
 have hV0:((0,[]):Sg)∈(runF' (gl rows sn) N 0 F0).map (·.1):=l5.mpr ⟨((0,[]),[]),zg2 (by simp[F0]) N,rfl⟩
 have hb:((runF' (gl rows sn) N 0 F0).find? λq=>Ends rows sn q.1).map (·.2)=(dist Fb (0,[])).map λm=>gr (gl rows sn) (dist Fb) m (0,[]):=zmn (z1W rows sn) hVV hFar hV0 hgo hend
 unfold z0V
 have e0:z2T=(Z1 (Y1 (.nm 2) (Z2 z1E [(y0 0),(Z2 z0T [(y0 0)])]))
  (Z1 (Y1 (.nm 3) (Z2 z0U [(y0 0),(y0 2),(y0 1)]))
  (Z1 (Y1 (.nm 4) (mCB [(mC (.int 0)),(mCB [] j3)] j3))
  (Z1 (sIf (J4 (y4 (y0 4) (y0 3) z0c)) (K5 (mC .non)) sNx)
  (Z1 (Y1 (.nm 5) (mCB [] lstM))
  (Z1 (V8 (X4 [(y4 (y0 3) (y0 4) z08)]) (.nm 6) gdB)
  (K5 (y0 5)))))))):=rfl
 rw[e0]
 left
 rw[e3]
 left
 rw[e4]
 rw[z9n (z0u rows) (by
  erw[F9,m8,false_imp_iff,implies_true,and_true]
  exact⟨z7P ⋯,z9o ⋯,nofun,nofun,nofun,nofun,nofun,nofun⟩) (by
  erw[F9,m8,false_imp_iff,implies_true,and_true]
  exact⟨z7P ⋯,z9o ⋯⟩) (by erw[Z0,Z8,i9,C9,z0v,W3 (show ls≠l by lia)]) (by erw[Z0,Z8,i9,z0v,W3 (show ls≠l by lia)])]
 left
 rw[e5]
 left
 rw[g0,z5D hVb]
 cases hd:dist Fb (0,[]) with
 |none=>
  rw[hd] at hb
  rw[hb]
  erw[zbx hd,decide_false,E4]
  left
  exact⟨n,n4,i6 _,⋯,rfl⟩
 |some M=>
  rw[hd] at hb
  obtain⟨w0,hw0,_⟩:=z6R hd
  erw[show((0,[]):Sg)∈Fb.map (·.1) from l5.mpr ⟨_,hw0,rfl⟩,decide_true,D6]
  left
  rw[ze1 hVb hd]
  left
  obtain⟨r1,r2,r3,_⟩:=zd9 (z1W rows sn) hVV hFar M (0,[]) hV0 hd
  have hM:M<=5000:=by
   rw[i9] at hb
   obtain⟨q,hq,e⟩:=L0.mp hb
   have:=hlen q (List.mem_of_find?_eq_some hq)
   rw[e,r2] at this
   lia
  rw[z1V ⟨⋯,⋯⟩]
  left
  obtain⟨s',e7,h,r,acc,o6,o7,m,rfl,hm,w6,z1,z2,z3,z4⟩:=z0L (P:=λj s=> ∃(h:Sg) (r:Nat) (acc:List Int) (o6 o7:Option D) (m:Nat),s=⟨[some (.lst l (rows.map rD)),some (.lst ls (sn.map .int)),some (.dct j5 (FK.map kd) vs),some (.dct jf (ksF Fb) vb),some (gD h),some (.lst n4 (acc.map .int)),o6,o7],[some (.lst l (rows.map rD)),some (.lst ls (sn.map .int))],m⟩/\n4<m/\Fr o6/\r+j=M/\h∈(runF' (gl rows sn) N 0 F0).map (·.1)/\dist Fb h=some r/\acc++gr (gl rows sn) (dist Fb) r h=gr (gl rows sn) (dist Fb) M (0,[])) (lo:=0) (N:=((M:Nat):Int).toNat) (g:= .nm 6) (b:=gdB) (by
   rintro j hj s ⟨h,r,acc,o6,o7,m,rfl,hm,w6,z1,z2,z3,z4⟩
   obtain⟨r',rfl⟩: ∃r',r=r'+1:=⟨r - 1,by rw[L4] at hj;lia⟩
   refine⟨_,rfl, ?_⟩
   obtain⟨g1,g2,g3,g4⟩:=zd9 (z1W rows sn) hVV hFar (r'+1) h z2 z3
   obtain⟨x,hx⟩:=g4 r' rfl
   obtain⟨q,hq,eq⟩:=l5.mp z2
   have ho:=(ok2 q hq).1
   rw[eq] at ho
   have hla:acc.length<=6000:=by
    have:=congrArg E7 z4
    rw[m5,r2] at this
    lia
   obtain⟨q,gs,m',hq1,hq2,e⟩:=zla rows hw sn hsn l ls j5 jf n4 n3 m ⋯ ⋯ ⋯ ⋯ ⋯ hm ⟨⋯,⋯,⋯,⋯, .inr ⋯⟩ FK vs hD Fb vb hVb h r' z3 ((hFK _).mpr ho.2) (by have:=z0D hw ho.2;lia) x hx acc hla (some (.int (0+(j:Int)))) o7 Fr.int [some (.lst l (rows.map rD)),some (.lst ls (sn.map .int))] (λd=>by erw[Z0,Z8,i9,Z7 (show l≠n4 by lia),W3 (show ls≠n4 by lia)])
   have hgr:gr (gl rows sn) (dist Fb) (r'+1) h=x.1::gr (gl rows sn) (dist Fb) r' x.2:=by
    conv=>lhs;unfold gr
    rw[hx]
   refine⟨_,e,x.2,r',acc++[x.1],some (.int (0+(j:Int))),some (.lst q (gsD gs)),m',rfl,⋯,Fr.int,⋯,hVV h z2 x (List.mem_of_find?_eq_some hx), ?_, ?_⟩
   .have:=List.find?_some hx
    exact of_decide_eq_true this
   .rw[<-z4,hgr];simp) ((M:Nat):Int).toNat 0 ⟨[some (.lst l (rows.map rD)),some (.lst ls (sn.map .int)),some (.dct j5 (FK.map kd) vs),some (.dct jf (ksF Fb) vb),some (gD (0,[])),some (.lst n4 []),none,none],[some (.lst l (rows.map rD)),some (.lst ls (sn.map .int))],n4+1⟩ ⋯ ⟨(0,[]),M,[],none,none,n4+1,rfl,⋯,Fr.no,⋯,hV0,hd,by simp⟩
  rw[L4] at z1
  have hr0:r=0:=by lia
  subst hr0
  rw[e7]
  left
  refine⟨n4,m,⋯,hm, ?_⟩
  rw[hb]
  erw[gr,l7] at z4
  rw[z4]
  rfl
theorem z6S{α:Type}: ∀xs:List α,z06 (xs.map λ_=>D.bool true)=some (xs.map λ_=>true)
 |[]=>rfl
 |x::xs=>by erw[i7,z06,z6S xs];rfl
def zg4{α:Type}{l:Nat}{xs:List α}:zdv [.lst l (xs.map λ_=>D.bool true)] s= .ok (.bool true) s:=by
 rw[zkJ (z6S xs)]
 congr 2
 simp
def zbB i n:z0q [.int i] n= .ok (.bool true) [.int i] n:=by
 unfold z0q z40
 left
def sbM:MS:=(Z1 (Y1 (.nm 11) (mCB [(y4 (Z2 y9 [(y0 0),(mC (.int 8))]) (mC (.int 7)) eqD)] zbJ))
 (Q8 (Q2 (y0 9) [(y4 (mCB [(y4 (y0 4) (Z2 y9 [(y0 0),(mCB [(y0 4)] X8)]) ixD),(Z2 y9 [(y0 0),(mC (.int 40))])] lstM) (y0 11) ixD)] z1N)))
abbrev Fra(o:Option D):Prop:= ∀f:Nat->Option D,B6 (rp f) o=o
def zbC(ns:List Int):Fra (some (.tup (ns.map .int))):=λf=>by
 rw[i9,zae _ λj hj=>by rw[show labs (.tup (ns.map D.int))=[] from Z9 ns] at hj;cases hj]
def z5H:Fra none:=λ_=>rfl
def zjh(rows:List Z6)(hw: ∀r∈rows,Wf r)(hr:rows.length<=60)(B:D)(k n:Nat)(M w:Int)(hk:k<n)(hB: ∀d,rp (pl n d) B=B): ∃(ms:List Int) (o5 o6 o7:Option D),ms≠[]/\ms.length<=300/\Fra o5/\Fra o6/\Fra o7/\
 V8 (j6 (y0 1)) (.tp [(.nm 5),(.nm 6),(.nm 7)]) (Q8 (Q2 (y0 4) [(y0 6)] z2k)) ⟨[some B,some (.lst k (rows.map rD)),some (.int M),some (.int w),some (.lst n [.int 0]),none,none,none,none,none,none,none],[some B,some (.lst k (rows.map rD)),some (.int M)],n+1⟩
  = .nx ⟨[some B,some (.lst k (rows.map rD)),some (.int M),some (.int w),some (.lst n (ms.map .int)),o5,o6,o7,none,none,none,none],[some B,some (.lst k (rows.map rD)),some (.int M)],n+1⟩:=by
 left
 obtain⟨s',e,ms,o5,o6,o7,rfl,g1,g2,g4,g5,g6⟩:=U9 (P:=λi s=> ∃(ms:List Int) (o5 o6 o7:Option D),s=⟨[some B,some (.lst k (rows.map rD)),some (.int M),some (.int w),some (.lst n (ms.map .int)),o5,o6,o7,none,none,none,none],some (.lst k (rows.map rD))::[some B,some (.lst k (rows.map rD)),some (.int M)],n+1⟩/\ms≠[]/\ms.length<=1+3*i/\Fra o5/\Fra o6/\Fra o7) (l:=k) (ds:=rows.map rD) (g:= .tp [(.nm 5),(.nm 6),(.nm 7)]) (tm:=[some B,some (.lst k (rows.map rD)),some (.int M)])
  (b:=Q8 (Q2 (y0 4) [(y0 6)] z2k)) (by rintro i s ⟨ms,o5,o6,o7,rfl,_⟩;rfl) (by
   rintro i d hd s ⟨ms,o5,o6,o7,rfl,g1,g2,g4,g5,g6⟩
   rw[List.getElem?_map] at hd
   cases hr':rows[i]? with
   |none=>rw[hr'] at hd;cases hd
   |some r=>
    rw[hr'] at hd
    cases hd
    have hi:i<rows.length:=(List.getElem?_eq_some_iff.mp hr').1
    have hl:=(hw r (List.mem_of_getElem? hr')).2.2.1
    refine⟨[some B,some (.lst k (rows.map rD)),some (.int M),some (.int w),some (.lst n (ms.map .int)),some (.tup (r.1.map .int)),some (.tup (r.2.1.map .int)),some (.tup (r.2.2.map .int)),none,none,none,none],rfl, ?_⟩
    refine⟨_, ?_,ms++r.2.1,some (.tup (r.1.map .int)),some (.tup (r.2.1.map .int)),some (.tup (r.2.2.map .int)),rfl,by simp[g1],by rw[m5];lia,zbC _,zbC _,zbC _⟩
    left
    rw[z4H (by rw[zl];erw[l0];lia) (Z9 _)]
    left
    simp only[<-t5,Z7 (show k≠n by lia),Y8,hB]) rows.length 0 ⟨[some B,some (.lst k (rows.map rD)),some (.int M),some (.int w),some (.lst n [.int 0]),none,none,none,none,none,none,none],some (.lst k (rows.map rD))::[some B,some (.lst k (rows.map rD)),some (.int M)],n+1⟩ (by simp) ⟨[0],none,none,none,rfl,by simp,by simp,z5H,z5H,z5H⟩
 rw[l0] at g2
 refine⟨ms,o5,o6,o7,g1,⋯,g4,g5,g6, ?_⟩
 rw[z0r (l:=k) (ds:=rows.map rD) (σ:=[some B,some (.lst k (rows.map rD)),some (.int M),some (.int w),some (.lst n [.int 0]),none,none,none,none,none,none,none]) (tm:=[some B,some (.lst k (rows.map rD)),some (.int M)]) (n:=n+1) (by left)]
 left
 rw[show kLst.len (some (.lst k (rows.map rD))::[some B,some (.lst k (rows.map rD)),some (.int M)])=rows.length by show(rows.map rD).length=_;simp,e]
 rfl
def zlb(rows:List Z6)(l k n q:Nat)(c x i M w:Int)(ms ks:List Int)(o5 o6 o7 o8 o11:Option D)(hb:Bg c x)(hl:l<n)(hk:k<n)(hlk:k≠l)(hq:n+1<q)(hm:ms≠[])(lm:ms.length<=300)(lk:ks.length<=500)(f5:Fre o5)(f6:Fre o6)(f7:Fre o7)(f8:Fre o8)(f11:Fre o11): ∃(v c' x' u:Int) (q':Nat),Bg c' x'/\q<=q'/\
 sbM ⟨[some (.lst l [.int c, .int x]),some (.lst k (rows.map rD)),some (.int M),some (.int w),some (.lst n (ms.map .int)),o5,o6,o7,o8,some (.lst (n+1) (ks.map .int)),some (.int i),o11],[some (.lst l [.int c, .int x]),some (.lst k (rows.map rD)),some (.int M)],q⟩
  = .nx ⟨[some (.lst l [.int c', .int x']),some (.lst k (rows.map rD)),some (.int M),some (.int w),some (.lst n (ms.map .int)),o5,o6,o7,o8,some (.lst (n+1) ((ks++[v]).map .int)),some (.int i),some (.int u)],[some (.lst l [.int c', .int x']),some (.lst k (rows.map rD)),some (.int M)],q'⟩:=by
 have rr: ∀d,rp (pl l d) (.lst k (rows.map rD))= .lst k (rows.map rD):=λd=>Z7 hlk
 have rm: ∀d,rp (pl l d) (.lst n (ms.map .int))= .lst n (ms.map .int):=λd=>W3 ⋯
 have rk: ∀d,rp (pl l d) (.lst (n+1) (ks.map .int))= .lst (n+1) (ks.map .int):=λd=>W3 ⋯
 have lpos:0<ms.length:=by cases ms with|nil=>exact absurd rfl hm|cons _ _=>simp
 unfold sbM
 left
 obtain⟨q1,c1,x1,hq1,hq1',b1,e1⟩:=J7 l c x 8 q hb (by decide) (by decide)
 rw[e1,W6 rfl rfl rfl (λq=>by left;try erw[rr,rm,rk,f5 l,f6 l,f7 l,f8 l,f11 l];rfl) (λq=>by left;try erw[rr];rfl)]
 try (left)
 obtain⟨w,⟨hw0,hw1⟩,ew⟩:= @zkW (q1==7)
 rw[ew]
 try (left)
 rw[z5J]
 obtain⟨q2,c2,x2,hq2,hq2',b2,e2⟩:=J7 l c1 x1 ms.length q b1 ⋯ ⋯
 rw[e2,W6 rfl rfl rfl (λq=>by left;try erw[rr,rm,rk,f5 l,f6 l,f7 l,f8 l];rfl) (λq=>by left;try erw[rr,rm,rk];rfl)]
 try (left)
 obtain⟨v1,ev1⟩:=at_ints hq2 hq2'
 rw[ev1]
 left
 obtain⟨v2,c3,x3,hq3,hq3',b3,e3⟩:=J7 l c2 x2 40 q b2 (by decide) (by decide)
 rw[e3,W6 rfl rfl rfl (λq=>by left;try erw[rr,rm,rk,f5 l,f6 l,f7 l,f8 l];rfl) (λq=>by left;try erw[rr,rk];rfl)]
 try (left)
 obtain⟨v,hv,ev⟩:=zgj (a:=v1) (b:=v2) hw0 hw1
 rw[ev]
 left
 try erw[rk]
 rw[y_app (by rw[zl,l0];lia) rfl]
 left
 refine⟨v,c3,x3,w,q+1,b3,⋯, ?_⟩
 have hs:ks.map D.int++[D.int v]=(ks++[v]).map D.int:=by rw[t5];rfl
 erw[hs,Z7 (show k≠n+1 by lia),W3 (show n≠n+1 by lia),f5 (n+1),f6 (n+1),f7 (n+1),f8 (n+1),z0y (show l≠n+1 by lia),U8,V3,J8]
def f2(q p:Nat)(A B:List D):Nat->Option D:=λk=>if q=k then some (.lst q A) else if p=k then some (.lst p B) else none
def z8F{q p:Nat}{ns:List Int}:rpL (f2 q p A B) (ns.map D.int)=ns.map D.int:=rpL_id _ λj hj=>by rw[Z9] at hj;cases hj
def ze2{q p k:Nat}{ns:List Int}(h1:q≠k)(h2:p≠k):rp (f2 q p A B) (.lst k (ns.map D.int))= .lst k (ns.map D.int):=by
 erw[rp,f2,qh h1,qh h2]
 rw[z8F]
def zbD{q p:Nat}:rp (f2 q p A B) (.lst q ds)= .lst q A:=by erw[rp,f2,if_true]
def zbE{q p:Nat}(h:q≠p):rp (f2 q p A B) (.lst p ds)= .lst p B:=by erw[rp,f2,qh h,if_true]
def zbF{t i:D}{l k n' n:Nat}(h:l≠k)(hb:qq b=[])(hb':qq b'=[])(hR:qq R=[])(hi:labs i=[])(g1:rpO (f2 l k b R) σ=σ)(g2:rpO (f2 l k b R) tm=tm):
 z2C (.ok t [.lst l b', .lst k R,i] n') [.lst l b, .lst k R,i] ⟨σ,tm,n⟩= .ok t ⟨rpO (f2 l k b' R) σ,rpO (f2 l k b' R) tm,n'⟩:=by
 have fi: ∀j,findT j i=none:=λj=>z4D i (by rw[hi];exact m8)
 have e:(λj=>findL j [D.lst l b', .lst k R,i])=f2 l k b' R:=by
  funext j
  erw[findL,findT,f2]
  by_cases h1:l=j
  .erw[qy h1]
  .erw[qh h1,findL_none _ (show j∉qq b' by rw[hb'];exact m8)]
   by_cases h2:k=j
   .erw[qy h2]
   .erw[qh h2,findL_none _ (show j∉qq R by rw[hR];exact m8),fi]
 unfold z2C
 dsimp only
 by_cases hz:[D.lst l b',D.lst k R,i]=[D.lst l b,D.lst k R,i]
 .have hh:b'=b:=by injection hz with hz _;injection hz
  subst hh
  rw[qy rfl,g1,g2]
 .rw[qh hz,qy]
  .rw[e]
  .intro j _ hj
   rw[show findL j [D.lst l b',D.lst k R,i]=f2 l k b' R j from congrFun e j]
   erw[qq,labs,hb,hR,hi,l7,l4,m3,m8,or_false] at hj
   unfold f2
   rcases hj with rfl|rfl
   .simp
   .simp[h]
def zbG(rows:List Z6)(hw: ∀r∈rows,Wf r)(hr:rows.length<=60)(l k n:Nat)(c x M:Int)(hM:0<=M)(hM':M<=24)(hb:Bg c x)(hl:l<n)(hk:k<n)(hlk:k≠l): ∃(sn:List Int) (c' x':Int) (q n':Nat),sn.length<=24/\Bg c' x'/\n<=q/\q<n'/\z09 [.lst l [.int c, .int x], .lst k (rows.map rD), .int M] n= .ok (.lst q (sn.map .int)) [.lst l [.int c', .int x'], .lst k (rows.map rD), .int M] n':=by
 generalize hr:z09 [.lst l [.int c, .int x], .lst k (rows.map rD), .int M] n=r
 unfold z09 z2Q at hr
 revert hr
 left
 have rr: ∀d,rp (pl l d) (.lst k (rows.map rD))= .lst k (rows.map rD):=λd=>Z7 hlk
 obtain⟨w,c1,x1,hw0,hw1,b1,e1⟩:=J7 l c x 3 n hb (by decide) (by decide)
 rw[e1,W6 rfl rfl rfl (λq=>by left;try erw[rr];rfl) (λq=>by left;try erw[rr];rfl)]
 try (left)
 obtain⟨ms,o5,o6,o7,hm,lm,f5,f6,f7,e2⟩:=zjh rows hw hr (.lst l [.int c1, .int x1]) k n M w hk (λd=>by rw[z0y ⋯];erw[U8,V3,J8])
 have g5:Fre o5:=λk d=>f5 (pl k d)
 have g6:Fre o6:=λk d=>f6 (pl k d)
 have g7:Fre o7:=λk d=>f7 (pl k d)
 rw[z46] at e2
 rw[e2]
 left
 have rm: ∀d,rp (pl l d) (.lst n (ms.map .int))= .lst n (ms.map .int):=λd=>W3 ⋯
 obtain⟨q2,c2,x2,hq2,hq2',b2,e3⟩:=J7 l c1 x1 (M+1) (n+1) b1 ⋯ ⋯
 rw[e3,W6 rfl rfl rfl (λq=>by left;try erw[rr,rm,g5 l,g6 l,g7 l];rfl) (λq=>by left;try erw[rr];rfl)]
 try (left)
 by_cases hw2:0<w
 .erw[show decide (w>0)=true from decide_eq_true hw2]
  left
  obtain⟨ks,c3,x3,p,n3,lk,b3,hp,hp',e4⟩:=z9j rows hw hr l k (n+1) c2 x2 b2 ⋯ ⋯ hlk
  rw[e4,zbF (show l≠k by lia) rfl rfl (z0u rows) rfl (by erw[Z0,Z8,i9,C9,J8,zbD,zbE (show l≠k by lia),f5,f6,f7,ze2 (show l≠n by lia) (show k≠n by lia)]) (by erw[Z0,Z8,i9,C9,J8,zbD,zbE (show l≠k by lia)])]
  left
  erw[Z0,Z8,i9,C9,J8,zbD,zbE (show l≠k by lia),f5,f6,f7,ze2 (show l≠n by lia) (show k≠n by lia)]
  try (left)
  obtain⟨n4,hn4,e5⟩:=z5r rows ks k n3 (.lst p (ks.map .int)) hw ⋯ ⋯ (.inl ⟨p,hp',rfl⟩)
  rw[e5]
  left
  have hcut:z67 ((readA rows ks).1.map D.int) none (some q2)=((readA rows ks).1.take q2.toNat).map D.int:=by
   have:=z48 (ws:=(readA rows ks).1.map D.int) (l:=q2.toNat)
   rw[show((q2.toNat:Nat):Int)=q2 by lia] at this
   rw[this,R9]
  rw[hcut]
  intro hr
  subst hr
  exact⟨(readA rows ks).1.take q2.toNat,c3,x3,n4,n4+1,by rw[A5];lia,b3,⋯,⋯,rfl⟩
 .erw[show decide (w>0)=false from decide_eq_false hw2]
  left
  rw[z1V ⟨⋯,⋯⟩]
  left
  obtain⟨s',e6,ks,c3,x3,o10,o11,q,rfl,b3,hq,lk,f10,f11⟩:=z0L (P:=λi s=> ∃(ks:List Int) (c3 x3:Int) (o10 o11:Option D) (q:Nat),s=⟨[some (.lst l [.int c3, .int x3]),some (.lst k (rows.map rD)),some (.int M),some (.int w),some (.lst n (ms.map .int)),o5,o6,o7,some (.int q2),some (.lst (n+1) (ks.map .int)),o10,o11],[some (.lst l [.int c3, .int x3]),some (.lst k (rows.map rD)),some (.int M)],q⟩/\Bg c3 x3/\n+1<q/\ks.length=i/\Fre o10/\Fre o11) (lo:=0) (N:=q2.toNat) (g:= .nm 10) (b:=sbM) (by
   rintro i hi s ⟨ks,c3,x3,o10,o11,q,rfl,b3,hq,lk,f10,f11⟩
   refine⟨[some (.lst l [.int c3, .int x3]),some (.lst k (rows.map rD)),some (.int M),some (.int w),some (.lst n (ms.map .int)),o5,o6,o7,some (.int q2),some (.lst (n+1) (ks.map .int)),some (.int (0+(i:Int))),o11],rfl, ?_⟩
   obtain⟨v,c4,x4,u,q',b4,hq',e4⟩:=zlb rows l k n q c3 x3 (0+(i:Int)) M w ms ks o5 o6 o7 (some (.int q2)) o11 b3 hl hk hlk hq hm lm ⋯ g5 g6 g7 (z0M _) f11
   exact⟨_,e4,ks++[v],c4,x4,_,_,q',rfl,b4,⋯,by rw[m5,lk];rfl,z0M _,z0M _⟩) q2.toNat 0 ⟨[some (.lst l [.int c2, .int x2]),some (.lst k (rows.map rD)),some (.int M),some (.int w),some (.lst n (ms.map .int)),o5,o6,o7,some (.int q2),some (.lst (n+1) []),none,none],[some (.lst l [.int c2, .int x2]),some (.lst k (rows.map rD)),some (.int M)],n+1+1⟩ ⋯ ⟨[],c2,x2,none,none,n+1+1,rfl,b2,⋯,rfl,J3,J3⟩
  unfold sbM at e6
  rw[e6]
  left
  intro hr
  subst hr
  exact⟨ks,c3,x3,n+1,q,⋯,b3,⋯,⋯,rfl⟩
def zji{n k:Nat}{i:Int}:Rs n (.int i)=true/\(er (.int i)).depth<=k:=⟨rfl,by simp[er,PyData.depth]⟩
def z5I{n:Nat}{ns:List Int}: ∀e∈ns.map D.int,Rs n e=true/\(er e).depth<=0:=λe he=>by obtain⟨i,_,rfl⟩:=l5.mp he;exact zji
def zlc(h:Wf r):Rs 0 (rD r)=true/\(er (rD r)).depth<=2:=z8i (by simp) λe he=>by
 obtain⟨h1,h2,h3,h4,h5⟩:=h
 erw[m3,m8,or_false] at he
 rcases he with rfl|rfl|rfl
 .exact z8i (by rw[l0];lia) z5I
 .exact z8i (by rw[l0];lia) z5I
 .exact z8i (by rw[l0];lia) z5I
def zjj{k a b:Nat}{rows:List Z6}{sn:List Int}(hw: ∀r∈rows,Wf r)(h:rows.length<=60)(hs:sn.length<=60):Rs 0 (.lst k [.lst a (rows.map rD), .lst b (sn.map .int)])=true/\(er (.lst k [.lst a (rows.map rD), .lst b (sn.map .int)])).depth<=4:=z6B (B9 _) (by simp) λe he=>by
 erw[m3,m8,or_false] at he
 rcases he with rfl|rfl
 .refine z6B (B9 _) (by rw[l0];lia) λe he=> ?_
  obtain⟨r,hr,rfl⟩:=l5.mp he
  exact zlc (hw r hr)
 .obtain⟨h1,h2⟩:=z6B (n:=0) (l:=b) (k:=0) (B9 _) (by rw[l0];lia) (z5I (n:=0) (ns:=sn))
  exact⟨h1,⋯⟩
def zg5{ns:List Int}{l k:Nat}:rp (f2 l k A B) (.ro (ns.map .int))= .ro (ns.map .int):=by erw[rp,z8F]
def zjk{n l k:Nat}(h:UpO n o)(hl:n<=l)(hk:n<=k):B6 (rp (f2 l k A B)) o=o:=by
 cases o with
 |none=>rfl
 |some t=>
  rw[i9,zae t λj hj=>by
   have:=h t rfl j hj
   unfold f2
   rw[qh ⋯,qh ⋯]]
def zjl(hw: ∀r∈rows,Wf r){sn:List Int}: ∀w (g:Sg),go (gl rows sn) (some (0,[])) w=some g->ziA rows w (sn.take g.1) [] g.2:=by
 refine z8A ?_ ?_
 .intro g h
  cases h
  exact zfC rows
 .intro u k ih g h
  rw[z8s] at h
  cases e:go (gl rows sn) (some (0,[])) u with
  |none=>rw[e,z4a] at h;cases h
  |some h'=>
   rw[e] at h
   have I:=zb7 hw (k:=k) (ih h' e)
   have hm:=z5y (show st1 (gl rows sn) h' k=some g from h)
   unfold gl W9 at hm
   obtain⟨en,he,hg⟩:=l5.mp hm
   obtain⟨he,hf⟩:=E1.mp he
   unfold z03 at he
   obtain⟨k',hk',rfl⟩:=l5.mp he
   obtain⟨_,hok⟩:=E1.mp hk'
   erw[ent,Prod.mk.injEq] at hg
   obtain⟨rfl,rfl⟩:=hg
   unfold okK at hok
   have hf:(sn.drop h'.1).take (Y2 rows 1000 (h'.2++[k'])).1.length=(Y2 rows 1000 (h'.2++[k'])).1:=of_decide_eq_true hf
   rw[List.isEmpty_iff.mp hok,l7] at I
   rw[List.take_add,hf]
   exact I
def zde(hw: ∀r∈rows,Wf r)(h:Tkn (gl rows sn) (Ends rows sn) (0,[]) w):readA rows w=(sn,[]):=by
 obtain⟨g,h1,h2⟩:=h
 have e:readA rows g.2=(sn.drop g.1,[]):=of_decide_eq_true h2
 rw[zfD (zjl hw w g h1),e]
 simp
def zg6{l:Nat}{w:List Int}:Gd (.lst l (w.map .int))/\(er (.lst l (w.map .int))).depth<=60:=by
 refine⟨Gd.lst.mpr (z2v w), ?_⟩
 have:=z3o w
 erw[er,z2W,PyData.depth];lia
def zld{a b:Nat}:neD (z9m o a) (z9m o b) s= .ok (.bool false) s:=by
 cases o with
 |none=>exact z7A (show Gd .non from⟨rfl,rfl⟩) ⟨rfl,rfl⟩ rfl (by show PyData.depth (er .non)<=60;simp[er,PyData.depth])
 |some w=>exact z7A zg6.1 zg6.1 rfl zg6.2
def zle{n k:Nat}(h:k<n):UpO n (some (z9m o k)):=by
 cases o with
 |none=>rintro _ ⟨⟩ j hj;erw[z9m,Mi.labs,m8] at hj
 |some w=>exact z9o h
def zlf{n h h1 h2:Nat}{rows:List Z6}{sn:List Int}(a:h<n)(b:h1<n)(c:h2<n):UpO n (some (.lst h [.lst h1 (rows.map rD), .lst h2 (sn.map .int)])):=by
 rintro _ ⟨⟩ j hj
 erw[Mi.labs,qq,z0u,Z9,l7,C4,B0,m3,m8,or_false] at hj
 lia
def kbM:MS:=(Z1 (Y1 (.nm 8) (Z2 V0 [(y4 (y0 6) (mC (.int 0)) ixD),(y4 (y0 6) (mC (.int 1)) ixD)]))
 (Z1 (sIf (mOr (J4 (y4 (y0 6) (mCB [(y0 3),(y0 4)] lstM) neD)) (J4 (y4 (y0 8) (y0 5) neD))) (K5 (mC (.bool false))) sNx)
 (sIf (J4 (y4 (y0 8) (mC .non) zgc)) (Z1 (sIf (mOr (z9s (z1r (zeT "list" (y0 8)))) (z9s (z1r (mCB [(V4 (j6 (y0 8)) (.nm 0) (rt true) (Z2 z0q [(y0 0)]) 1 [])] zdv)))) (K5 (mC (.bool false))) sNx)
 (Z1 (sIf (J4 (y4 (Z2 z0C [(y0 3),(y0 8)]) (mCB [(y0 4),(mCB [] lstM)] j3) neD)) (K5 (mC (.bool false))) sNx)
 (Q8 (Q2 (y0 8) [(mC (.int 0))] z1N)))) sNx)))
def zjm(w:List Int)(hz:w.length<=6000){p:Nat}{σ tm:Qq}{n:Nat}(hσ:σ[8]? =some (some (.lst p (w.map .int)))):
 ∃n',n<=n'/\V4 (j6 (y0 8)) (.nm 0) (rt true) (Z2 z0q [(y0 0)]) 1 [] ⟨σ,tm,n⟩= .ok (.lst n' (w.map λ_=> .bool true)) ⟨σ,tm,n'+1⟩:=by
 obtain⟨n',h1,h2⟩:=z4F (mc:=y0 8) (mt:=rt true) (me:=Z2 z0q [(y0 0)]) (p:=λ_=>true) (g:=λ_=> .bool true) (l:=p) (ds:=w.map .int) (ix:=[]) (s:=⟨σ,tm,n⟩) (σ:=σ) (tm:=tm) (n:=n) (by left;rw[hσ];left) (by rw[zl,l0];lia) (λd _ tm n=>⟨n,i6 _,rfl⟩) (λd hd _ tm m=>by
  obtain⟨i,_,rfl⟩:=l5.mp hd
  refine⟨m,i6 _, ?_⟩
  erw[t7]
  left
  rw[zbB]
  left)
 rw[P5.mpr λ_ _=>rfl,B7] at h2
 exact⟨n',h1,h2⟩
def zlg rows(hw: ∀r∈rows,Wf r)(hr:rows.length<=40) sn(hsn:sn.length<=24) N(hN:N<=5000)(hend:(runF' (gl rows sn) N 0 F0).length=N)(hgo: ∀i,i<N->i<(runF' (gl rows sn) i 0 F0).length) o(ho:((runF' (gl rows sn) N 0 F0).find? λq=>Ends rows sn q.1).map (·.2)=o)
 o0 o1 o2 o7 o8 t0 k q d h h1 h2 n (hk:k<n) (hq:q<n) (hd:d<n) (hh:h<n) (hh1:h1<n) (hh2:h2<n) (u0:UpO n o0) (u1:UpO n o1) (u2:UpO n o2) (u7:UpO n o7) (ut:UpO n t0):
 ∃p8 n',n<=n'/\UpO n' p8/\kbM ⟨[o0,o1,o2,some (.lst k (rows.map rD)),some (.lst q (sn.map .int)),some (z9m o d),some (.lst h [.lst h1 (rows.map rD), .lst h2 (sn.map .int)]),o7,o8],[t0],n⟩= .nx ⟨[o0,o1,o2,some (.lst k (rows.map rD)),some (.lst q (sn.map .int)),some (z9m o d),some (.lst h [.lst h1 (rows.map rD), .lst h2 (sn.map .int)]),o7,p8],[t0],n'⟩:=by
 obtain⟨p,n1,hp,hp',e1⟩:=zfX rows hw hr sn hsn h1 h2 n hh1 hh2 N hN hend hgo
 rw[ho] at e1
 obtain⟨a1,a2⟩:=zjj (k:=h) (a:=h1) (b:=h2) hw (show rows.length<=60 by lia) (show sn.length<=60 by lia)
 obtain⟨b1,b2⟩:=zjj (k:=n1) (a:=k) (b:=q) hw (show rows.length<=60 by lia) (show sn.length<=60 by lia)
 have B:=z6Q (z1W rows sn) (E:=Ends rows sn) (s:=(0,[])) (N:=N) hgo hend
 have hlen:=z7L (sn:=sn) hend hgo
 have hF:(runF' (gl rows sn) N 0 [((0,[]),[])])=runF' (gl rows sn) N 0 F0:=rfl
 rw[hF] at B
 unfold kbM
 left
 rw[e1]
 left
 rw[z7A (zaV _ a1) (zaV _ b1) rfl ⋯]
 left
 rw[zld]
 left
 cases e:(runF' (gl rows sn) N 0 F0).find? (λq=>Ends rows sn q.1) with
 |none=>
  rw[e] at ho
  subst ho
  erw[C9,z9m,z6C]
  left
  exact⟨_,n1+1,⋯,(by rintro _ ⟨⟩ j hj;erw[Mi.labs,m8] at hj),rfl⟩
 |some w=>
  rw[e] at ho B
  subst ho
  have hl:=hlen w (List.mem_of_find?_eq_some e)
  have er':=zde hw B.1
  erw[i9,z9m,z6C]
  have B1:=B.1
  clear B e
  generalize w.2=w at*
  left
  obtain⟨n2,hn2,e2⟩:=zjm w ⋯ (p:=p) (σ:=[o0,o1,o2,some (.lst k (rows.map rD)),some (.lst q (sn.map .int)),some (.lst d (w.map .int)),some (.lst h [.lst h1 (rows.map rD), .lst h2 (sn.map .int)]),o7,some (.lst p (w.map .int))]) (tm:=[t0]) (n:=n1+1) rfl
  rw[e2]
  left
  rw[zg4]
  left
  obtain⟨n3,hn3,e3⟩:=z5r rows w k (n2+1) (.lst p (w.map .int)) hw ⋯ ⋯ (.inl ⟨p,⋯,rfl⟩)
  rw[e3]
  left
  rw[er',show D.lst n3 []= .lst n3 (([]:List Int).map .int) from rfl,zl6]
  erw[decide_true,T8,D6]
  left
  rw[Mi.y_app ⟨by rw[zl,l0];lia,by exact m8⟩]
  left
  refine⟨some (.lst p ((w++[0]).map .int)),n3+1,⋯,z9o ⋯, ?_⟩
  erw[u0.fixk (show n<=p by lia),u1.fixk (show n<=p by lia),u2.fixk (show n<=p by lia),u7.fixk (show n<=p by lia),ut.fixk (show n<=p by lia),Z7 (show k≠p by lia),W3 (show q≠p by lia),W3 (show d≠p by lia),z0y (show h≠p by lia),U8,V3,Z7 (show h1≠p by lia),W3 (show h2≠p by lia),t5,i7,t7]
def zbH:MS:=(Z1 (Y1 (.nm 2) (Z2 z3W [(y0 0),(y0 1)]))
 (Z1 (Y1 (.nm 3) (Z2 z0S [(y0 2)]))
 (Z1 (Y1 (.nm 4) (Z2 z09 [(y0 2),(y0 3),(y4 (mCB [(mC (.int 24)),(mC (.int 6))] lstM) (mCB [(y4 (mCB [(y0 3)] X8) (mC (.int 12)) gtD)] zbJ) ixD)]))
 (Z1 (Y1 (.nm 5) (Z2 z0V [(y0 3),(y0 4)]))
 (Z1 (Y1 (.nm 6) (mCB [(mCB [(y0 3)] z4m),(mCB [(y0 4)] z4m)] lstM))
 (V8 (X4 [(mC (.int 2))]) (.nm 7) kbM))))))
set_option maxHeartbeats 2000000 in
def zg7(ns:List Int)(i n:Nat)(hi:i<1000)(hl:ns.length<1000)(o2 o3 o4 o5 o6 o7 o8:Option D)(u3:UpO n o3)(u4:UpO n o4)(u5:UpO n o5)(u6:UpO n o6)(u7:UpO n o7)(u8:UpO n o8):
 ∃(p2 p3 p4 p5 p6 p7 p8:Option D) (n':Nat),n<=n'/\(UpO n' p3/\UpO n' p4/\UpO n' p5/\UpO n' p6/\UpO n' p7/\UpO n' p8)/\
  zbH ⟨[some (.ro (ns.map .int)),some (.int i),o2,o3,o4,o5,o6,o7,o8],[some (.ro (ns.map .int))],n⟩= .nx ⟨[some (.ro (ns.map .int)),some (.int i),p2,p3,p4,p5,p6,p7,p8],[some (.ro (ns.map .int))],n'⟩:=by
 have fro: ∀k d,rp (pl k d) (.ro (ns.map .int))= .ro (ns.map .int):=λk d=>by erw[rp,Y8]
 generalize hr:zbH ⟨[some (.ro (ns.map .int)),some (.int i),o2,o3,o4,o5,o6,o7,o8],[some (.ro (ns.map .int))],n⟩=r
 unfold zbH at hr
 revert hr
 obtain⟨c,x,b0,e0⟩:=zin ns i n hi hl
 left
 rw[e0]
 left
 obtain⟨rows,c1,x1,k,n1,hw,hr,b1,hk,hk',e1⟩:=zcV n (n+1) c x b0 ⋯
 rw[e1,W6 rfl rfl rfl (λq=>by left;try erw[fro,u3.fix,u4.fix,u5.fix,u6.fix,u7.fix,u8.fix];rfl) (λq=>by left;try erw[fro];rfl)]
 try (left)
 obtain⟨w,⟨hw0,hw1⟩,ew⟩:= @zkW (decide (12<((rows.map rD).length:Int)))
 rw[ew]
 obtain⟨M,hM,eM⟩:=zgj (a:=24) (b:=6) hw0 hw1
 rw[eM]
 left
 obtain⟨sn,c2,x2,q,n2,hsn,b2,hq,hq',e2⟩:=zbG rows hw ⋯ n k (n1+1) c1 x1 M ⋯ ⋯ b1 ⋯ ⋯ ⋯
 have g4:=λA B=>zjk (A:=A) (B:=B) (l:=n) (k:=k) u4 (i6 n) ⋯
 have g5:=λA B=>zjk (A:=A) (B:=B) (l:=n) (k:=k) u5 (i6 n) ⋯
 have g6:=λA B=>zjk (A:=A) (B:=B) (l:=n) (k:=k) u6 (i6 n) ⋯
 have g7:=λA B=>zjk (A:=A) (B:=B) (l:=n) (k:=k) u7 (i6 n) ⋯
 have g8:=λA B=>zjk (A:=A) (B:=B) (l:=n) (k:=k) u8 (i6 n) ⋯
 rw[e2,zbF (show n≠k by lia) rfl rfl (z0u rows) rfl (by erw[Z0,Z8,i9,zg5,J8,zbD,zbE (show n≠k by lia),g4,g5,g6,g7,g8]) (by erw[Z0,Z8,i9,zg5])]
 left
 erw[zg5,J8,zbD,zbE (show n≠k by lia),g4,g5,g6,g7,g8]
 try (left)
 obtain⟨N,hN,hend,hgo⟩:=zb8 (gl:=gl rows sn) (F:=F0) (B:=5000) λm=>z2s hw hr hsn m
 obtain⟨d,n3,hd,hd',e3⟩:=zg3 rows hw hr sn hsn k q n2 ⋯ ⋯ ⋯ N hN hend hgo
 generalize ho:((runF' (gl rows sn) N 0 F0).find? λq=>Ends rows sn q.1).map (·.2)=o at e3
 rw[e3]
 left
 rw[z1V ⟨by decide,by decide⟩]
 left
 obtain⟨s',e7,r7,r8,m,rfl,hm,v7,v8⟩:=z0L (P:=λj s=> ∃(r7 r8:Option D) (m:Nat),s=⟨[some (.ro (ns.map .int)),some (.int i),some (.lst n [.int c2, .int x2]),some (.lst k (rows.map rD)),some (.lst q (sn.map .int)),some (z9m o d),some (.lst (n3+1+1) [.lst n3 (rows.map rD), .lst (n3+1) (sn.map .int)]),r7,r8],[some (.ro (ns.map .int))],m⟩/\n3+1+1<m/\UpO m r7/\UpO m r8) (lo:=0) (N:=(2:Int).toNat) (g:= .nm 7) (b:=kbM) (by
  rintro j hj s ⟨r7,r8,m,rfl,hm,v7,v8⟩
  refine⟨[some (.ro (ns.map .int)),some (.int i),some (.lst n [.int c2, .int x2]),some (.lst k (rows.map rD)),some (.lst q (sn.map .int)),some (z9m o d),some (.lst (n3+1+1) [.lst n3 (rows.map rD), .lst (n3+1) (sn.map .int)]),some (.int (0+(j:Int))),r8],rfl, ?_⟩
  obtain⟨p8,m',hm',w8,e⟩:=zlg rows hw hr sn hsn N hN hend hgo o ho (some (.ro (ns.map .int))) (some (.int i)) (some (.lst n [.int c2, .int x2])) (some (.int (0+(j:Int)))) r8 (some (.ro (ns.map .int))) k q d (n3+1+1) n3 (n3+1) m ⋯ ⋯ ⋯ ⋯ ⋯ ⋯ zjf zbA (zjg ⋯) zbA zjf
  exact⟨_,e,_,_,m',rfl,⋯,zbA,w8⟩) (2:Int).toNat 0 ⟨[some (.ro (ns.map .int)),some (.int i),some (.lst n [.int c2, .int x2]),some (.lst k (rows.map rD)),some (.lst q (sn.map .int)),some (z9m o d),some (.lst (n3+1+1) [.lst n3 (rows.map rD), .lst (n3+1) (sn.map .int)]),o7,o8],[some (.ro (ns.map .int))],n3+1+1+1⟩ (by decide) ⟨o7,o8,_,rfl,⋯,z8E u7 ⋯,z8E u8 ⋯⟩
 rw[e7]
 intro hr
 subst hr
 exact⟨_,_,_,_,_,_,_,m,⋯,⟨z7P ⋯,z9o ⋯,zle ⋯,zlf ⋯ ⋯ ⋯,v7,v8⟩,rfl⟩
set_option maxHeartbeats 2000000 in
def zjn(ns:List Int)(hl:ns.length<1000)(n:Nat): ∃n',f_law [.ro (ns.map .int)] n= .ok (.bool true) [.ro (ns.map .int)] n':=by
 unfold f_law
 have e0:zfj=Z1 (V8 (X4 [(mCB [(mC (.int 1)),(mCB [(mC (.int 3)),(mCB [(y0 0)] X8)] zeR)] zgf)]) (.nm 1) zbH) (K5 (mC (.bool true))):=rfl
 rw[e0]
 left
 have w0:((ns.map D.int).length:Int)=ns.length:=by simp
 rw[w0]
 generalize hk:(if(if(ns.length:Int)<(3:Int) then(ns.length:Int) else(3:Int))>1 then(if(ns.length:Int)<(3:Int) then(ns.length:Int) else(3:Int)) else(1:Int))=k
 have hk0:0<=k/\k<=6:=by split at hk<;>(try split at hk)<;>lia
 rw[z1V ⟨⋯,⋯⟩]
 left
 obtain⟨s',e2,o1,o2,o3,o4,o5,o6,o7,o8,m,rfl,_⟩:=z0L (P:=λi s=> ∃(o1 o2 o3 o4 o5 o6 o7 o8:Option D) (n:Nat),s=⟨[some (.ro (ns.map .int)),o1,o2,o3,o4,o5,o6,o7,o8],[some (.ro (ns.map .int))],n⟩/\UpO n o3/\UpO n o4/\UpO n o5/\UpO n o6/\UpO n o7/\UpO n o8) (lo:=0) (N:=k.toNat) (g:= .nm 1) (b:=zbH) (by
  rintro i hi s ⟨o1,o2,o3,o4,o5,o6,o7,o8,n,rfl,u3,u4,u5,u6,u7,u8⟩
  refine⟨[some (.ro (ns.map .int)),some (.int i),o2,o3,o4,o5,o6,o7,o8],by erw[S9];rfl, ?_⟩
  obtain⟨p2,p3,p4,p5,p6,p7,p8,n',hn,hv,e⟩:=zg7 ns i n ⋯ hl o2 o3 o4 o5 o6 o7 o8 u3 u4 u5 u6 u7 u8
  exact⟨_,e,_,_,_,_,_,_,_,_,n',rfl,hv⟩) k.toNat 0 ⟨[some (.ro (ns.map .int)),none,none,none,none,none,none,none,none],[some (.ro (ns.map .int))],n⟩ ⋯ ⟨none,none,none,none,none,none,none,none,n,rfl,nofun,nofun,nofun,nofun,nofun,nofun⟩
 rw[e2]
 left
 exact⟨m,rfl⟩
end My
set_option maxHeartbeats 4000000
namespace Mi
open PySem L2 PySem.Spec PyProof.Rows
def zbI(K:W.Frag)(np:Nat)(f:FM):Sp:=λvs H Q E=>vs.length=np/\∀G:Gx,G.K=K->KD K H->spM G np f vs H Q E
def zjo{P:bm}{w:bo}{K:W.Frag}{mg:Str->Option bc}{base:Heap}{CX:CXT}{k:Nat}{fa:Addr}{fd:bB}{x:Str}{f:FM}{G:Gx}(hG:G.K=K)(F:z0F P w K mg base CX k fa fd [x] (spM G 1 f)):z0F P w K mg base CX k fa fd [x] (zbI K 1 f):=
 ⟨λ_ _ _ _ h=>h.1,λA outer s H args us vs Q E hr e0 hb hv h=>F.run A outer s H args us vs Q E hr e0 hb hv (h.2 G hG λa o e=>(e0.bs a o (e0.mod.kin a o e)).2)⟩
theorem RDs.ints: ∀ns:List Int,RDs G ρ H (ns.map D.int) (ns.map V.int)
 |[]=>by erw[t7,RDs]
 |n::ns=>by
  erw[i7,RDs]
  exact⟨_,_,rfl,by erw[RD],RDs.ints ns⟩
theorem z4O: ∀ns:List Int,qq (ns.map D.int)=[]
 |[]=>by erw[t7,qq]
 |n::ns=>by erw[i7,qq,labs,z4O ns,B0]
def zjp{K:W.Frag}{H:Hp}{a:Addr}{ns:List Int}{f:FM}{E:XK}(e: ∀n,∃n',f [.ro (ns.map D.int)] n= .ok (.bool true) [.ro (ns.map D.int)] n')(hO:zjt H)(hS:SqL K H a (ns.map V.int)):zbI K 1 f [.ref a] H (λv _=>v= .bl true) E:=by
 refine⟨rfl,λG hG kd=> ?_⟩
 subst hG
 refine⟨rfl,λ_=>a,0,[.ro (ns.map D.int)], ?_,λi j hi=>absurd hi (P1 _),λl hl=>absurd hl (P1 _),λl hl=> ?_,kd, ?_⟩
 .erw[RDs,RD]
  refine⟨_,_,rfl,⟨a,ns.map V.int,rfl, ?_,RDs.ints ns⟩,rfl⟩
  rcases hS with(h|h)|h
  .rcases hO a with z|⟨o,xs,z⟩<;>rw[h] at z<;>cases z
  .exact .inl h
  .exact .inr h
 .erw[qq,labs,z4O,l7] at hl
  cases hl
 .obtain⟨n',e⟩:=e 0
  rw[e]
  intro ρ' v H' _ rd _
  erw[RD] at rd
  exact rd
end Mi
namespace My
open PySem L2 Mi
structure DA(K:W.Frag)(x:Str)(st:Stmt)(f:Addr)(d:bB):Prop where
 a:W.nsIn K bn x=some (some (.ref f))
 F:Fun K x x st f d
def zlh{st:Stmt}{oc:bc}{od an:Option Addr}{sl:Array (Option bc)}{kV dc pm cd ct:bc}(a:W.nsIn K bn x=some (some (.ref f)))
 (l:K.lookup f=some ⟨oc,od, .func (W.fnOf x x (z1X st) (z0G st) (Z4 st) .none kV dc pm an cd ct),sl⟩) (c:W.codeIn K cd x=true) (k:W.keepIn K (.ref f)=true):
 DA K x st f (W.fnOf x x (z1X st) (z0G st) (Z4 st) .none kV dc pm an cd ct):=⟨a,zgY l c k⟩
def dx{K:W.Frag}{h:Heap}{ps:List Str}(X:K.In h)(G:h.Ns bn mg)(a:DA K x st f d)
 (b: ∀kV dc pm an cd ct us,us.length=ps.length->bindArgs (W.fnOf x x (z1X st) (z0G st) (Z4 st) .none kV dc pm an cd ct) ⟨us,[]⟩=pure (ps.zip us)):Dx K mg x st ps:=
 ⟨f,d,a.F,a.F.binds b,W.mg_of X G a.a⟩
def la0{P:List bc->Prop}(h:P []) us(hl:us.length=0):P us:=by
 obtain rfl:=List.length_eq_zero_iff.mp hl
 exact h
def la1{P:List bc->Prop}(h: ∀a0,P [a0]) us(hl:us.length=1):P us:=by
 obtain⟨a,us,rfl⟩:=D0 hl
 exact la0 (P:=λus=>P (a::us)) (h a) us (Nat.succ.inj hl)
def la2{P:List bc->Prop}(h: ∀a0 a1,P [a0,a1]) us(hl:us.length=2):P us:=by
 obtain⟨a,us,rfl⟩:=D0 hl
 exact la1 (P:=λus=>P (a::us)) (h a) us (Nat.succ.inj hl)
def la3{P:List bc->Prop}(h: ∀a0 a1 a2,P [a0,a1,a2]) us(hl:us.length=3):P us:=by
 obtain⟨a,us,rfl⟩:=D0 hl
 exact la2 (P:=λus=>P (a::us)) (h a) us (Nat.succ.inj hl)
def la4{P:List bc->Prop}(h: ∀a0 a1 a2 a3,P [a0,a1,a2,a3]) us(hl:us.length=4):P us:=by
 obtain⟨a,us,rfl⟩:=D0 hl
 exact la3 (P:=λus=>P (a::us)) (h a) us (Nat.succ.inj hl)
def zjq{l:W.OpenLaw}{w:bo}{K:W.Frag}{h:Heap}{fa f0 f1 f2 f3 f4 f5 f6 f7 f8 f9 f10 f11 f12 f13 f14 f15 f16 f17 f18 f19 f20 f21 f22 f23 f24 f25:Addr}{d0 d1 d2 d3 d4 d5 d6 d7 d8 d9 d10 d11 d12 d13 d14 d15 d16 d17 d18 d19 d20 d21 d22 d23 d24 d25:bB}(X:K.In h)(G:h.Ns bn mg)(hfa:mg "law" =some (.ref fa))
 (a0:DA K "read_keys" z1c f0 d0)
 (a1:DA K "read_step" z1d f1 d1)
 (a2:DA K "longest_row" z0f f2 d2)
 (a3:DA K "press" z3G f3 d3)
 (a4:DA K "may_wait" z1w f4 d4)
 (a5:DA K "end_keys" z1x f5 d5)
 (a6:DA K "fewest_keys" z0g f6 d6)
 (a7:DA K "ways_to" z24 f7 d7)
 (a8:DA K "presses_without_loss" G2 f8 d8)
 (a9:DA K "keys_on_way" z0h f9 d9)
 (a10:DA K "_law_bag" z7o f10 d10)
 (a11:DA K "_law_take" z57 f11 d11)
 (a12:DA K "_law_table" z3H f12 d12)
 (a13:DA K "_law_pressed" z25 f13 d13)
 (a14:DA K "_law_step" z58 f14 d14)
 (a15:DA K "_law_read" z59 f15 d15)
 (a16:DA K "_law_starts" z2H f16 d16)
 (a17:DA K "_law_press" z3I f17 d17)
 (a18:DA K "_law_whole" z3J f18 d18)
 (a19:DA K "_law_sounds" z2I f19 d19)
 (a20:DA K "_law_steps" z3K f20 d20)
 (a21:DA K "_law_goals" z3L f21 d21)
 (a22:DA K "_law_ways" z5a f22 d22)
 (a23:DA K "_law_wanted" z2J f23 d23)
 (a24:DA K "_law_fewest" z2K f24 d24)
 (a25:DA K "law" zfg f25 d25)
 (z0:W.nsIn K bn "abs" =some none)
 (z1:W.nsIn K bn "all" =some none)
 (z2:W.nsIn K bn "any" =some none)
 (z3:W.nsIn K bn "bool" =some none)
 {tk4:Nat} (z4:W.nsIn K bn "LAST_KEY" =some (some (.int 25 tk4)))
 (z5:W.nsIn K bn "dict" =some none)
 (z6:W.nsIn K bn "int" =some none)
 (z7:W.nsIn K bn "isinstance" =some none)
 (z8:W.nsIn K bn "len" =some none)
 (z9:W.nsIn K bn "list" =some none)
 (z10:W.nsIn K bn "max" =some none)
 (z11:W.nsIn K bn "min" =some none)
 (z12:W.nsIn K bn "range" =some none)
 (z13:W.nsIn K bn "sorted" =some none)
 (z14:W.nsIn K bn "tuple" =some none)
 : ∃fd:bB,(∀(s:be) (v:bc),dg s fd ⟨[v],[]⟩ [("_law_script",v)])/\∀base:Heap,K.In base->base.Ns bn mg->z0F l.prog w K mg base CX0 7 fa fd ["_law_script"] (zbI K 1 f_law):=by
 have e:=hfa.symm.trans (W.mg_of X G a25.a)
 cases e
 obtain⟨oc,od,kV,doc,pm,an,cdv,ct,osl,rfl,lk,hcd⟩:=a25.F.ex
 exact⟨_,λs v=> .of_eq rfl,λbase _ _=>zjo rfl (zhY ⟨dx X G a0 λ_ _ _ _ _ _=>la2 λ_ _=>rfl,dx X G a1 λ_ _ _ _ _ _=>la2 λ_ _=>rfl,dx X G a2 λ_ _ _ _ _ _=>la2 λ_ _=>rfl,dx X G a3 λ_ _ _ _ _ _=>la3 λ_ _ _=>rfl,dx X G a4 λ_ _ _ _ _ _=>la2 λ_ _=>rfl,dx X G a5 λ_ _ _ _ _ _=>la2 λ_ _=>rfl,dx X G a6 λ_ _ _ _ _ _=>la2 λ_ _=>rfl,dx X G a7 λ_ _ _ _ _ _=>la2 λ_ _=>rfl,dx X G a8 λ_ _ _ _ _ _=>la2 λ_ _=>rfl,dx X G a9 λ_ _ _ _ _ _=>la2 λ_ _=>rfl,dx X G a10 λ_ _ _ _ _ _=>la2 λ_ _=>rfl,dx X G a11 λ_ _ _ _ _ _=>la2 λ_ _=>rfl,dx X G a12 λ_ _ _ _ _ _=>la1 λ_=>rfl,dx X G a13 λ_ _ _ _ _ _=>la3 λ_ _ _=>rfl,dx X G a14 λ_ _ _ _ _ _=>la2 λ_ _=>rfl,dx X G a15 λ_ _ _ _ _ _=>la2 λ_ _=>rfl,dx X G a16 λ_ _ _ _ _ _=>la1 λ_=>rfl,dx X G a17 λ_ _ _ _ _ _=>la4 λ_ _ _ _=>rfl,dx X G a18 λ_ _ _ _ _ _=>la1 λ_=>rfl,dx X G a19 λ_ _ _ _ _ _=>la3 λ_ _ _=>rfl,dx X G a20 λ_ _ _ _ _ _=>la2 λ_ _=>rfl,dx X G a21 λ_ _ _ _ _ _=>la4 λ_ _ _ _=>rfl,dx X G a22 λ_ _ _ _ _ _=>la2 λ_ _=>rfl,dx X G a23 λ_ _ _ _ _ _=>la3 λ_ _ _=>rfl,dx X G a24 λ_ _ _ _ _ _=>la2 λ_ _=>rfl,dx X G a25 λ_ _ _ _ _ _=>la1 λ_=>rfl,W.mg_none_of X G z0,W.mg_none_of X G z1,W.mg_none_of X G z2,W.mg_none_of X G z3,⟨_,W.mg_of X G z4⟩,W.mg_none_of X G z5,W.mg_none_of X G z6,W.mg_none_of X G z7,W.mg_none_of X G z8,W.mg_none_of X G z9,W.mg_none_of X G z10,W.mg_none_of X G z11,W.mg_none_of X G z12,W.mg_none_of X G z13,W.mg_none_of X G z14⟩)⟩
def zmp{l:W.OpenLaw}{q:bm}{loose:List Str}{XP:(Str->Option bc)->Heap->Prop}{YP:bo->Heap->Prop}{d:DefRec}{K:Params->W.Frag}(hn:l.most=some 63)(hdf:d.params.defaults=[])
 (hY: ∀w (h:Heap),YP w h->(K w.params).In h)
 (F: ∀w (mg:Str->Option bc) fa (h:Heap),(K w.params).In h->h.Ns bn mg->mg d.name=some (.ref fa)->
  ∃fd:bB,(∀s u,dg s fd ⟨[u],[]⟩ [("_law_script",u)])/\∀base:Heap,(K w.params).In base->base.Ns bn mg->z0F l.prog w (K w.params) mg base CX0 7 fa fd ["_law_script"] (zbI (K w.params) 1 f_law)):
 W.WalkO q loose XP YP l.row.toRowW d [] (λf vs=>PySem.call f vs):=
 L2.zew (n:=63) (k:=7) (x:= "_law_script") (CX:=λ_=>CX0) (sp:=λw=>zbI (K w.params) 1 f_law) hn (by decide) hdf ⟨rfl,by decide,by decide,rfl⟩ hY F (λ_ _ a ns hl hO hS=>zjp (λn=>zjn ns ⋯ n) hO hS) λ_ _ _ _ _ h=>h.elim
end My
inductive PySem.W.Fast:Prop|tw1750285095497025854|tw3295994257663099987|tw16261431105981500161|tw3775275958231450760|tw8602029756612689203|tw9261599841275846446|tw16042479666742023263|tw8494868985209698233|tw171631864391450476|tw2578398891751830926|tw17479115847388502715|tw11308225382806301240|tw1881110136625971353|tw17769708458718189062|tw18388169567326583285|tw1963485038881520217|tw8819407000678859823|tw3415789307488097096|tw11009005746838452132|tw6491403767365948391|tw7191380518304399608|tw9639978525362470330|tw9723038811934462665|tw17588779166257154318|tw13638270109191596379|tw11173066047751989253|tw11635157976784517928|tw14598295147382071926|tw9691191964292040881|tw304987185310256662|tw12147915343470983032|tw3732732892184016071|tw5516105015576179204|tw2887004764649128781|tw3142816679034757869|tw747103482987462706|tw10676453492289731014|tw9874752138076648274|tw3392325456878008869|tw9322942158240837479|tw10028718365585867425|tw3662986325508178513|tw13228506911758077421|tw4869892024463750105|tw4212716185001371364|tw10720095450638254472|tw3593415373896438080|tw7717112143332133213|tw11947096197387687126|tw17284637510111302930|tw13389706382617962436|tw1422478419900765839|tw6792231622549302212|tw11588929635319442235|tw74250466371656317|tw17309062840048051093|tw3708563835988095552|tw12602606567228408212|tw11955869544610117806|tw16961871955041077094|tw13587882538089269840|tw16627807245569267792|tw146499695553025548|tw11179564344365508259|tw17893365374751776862|tw13175425839304292230|tw1882408973010097747|tw8013291557183058638|tw398283363970582608|tw4857364934597509337|tw5797369848851992339|tw8438538751227856934|tw14420613839430952433|tw9051663833226437811|tw13906364538327396899|tw6141560958087185789|tw17436172783741853057|tw17999005658042077521|tw13891130420294133870|tw2996361981539482183|tw13441306189586614806|tw11625223788235423538|tw9173594352033337799|tw6976751592409008533|tw3069154055307571662|tw11169383283370635397|tw3240253108821353695|tw6209322607824496219|tw18387089504667744722|tw11962308237114866955|tw14523595275308424285|tw4759130661972762167|tw16279492549047608143|tw4443354314864514111|tw9141352431471298061|tw2812847651524004402|tw11119957484327837986|tw6942897280583971768|tw4436269551762713813|tw4106077585789880830|tw12949479518169223043|tw11451233845157506218|tw14663102857587240235|tw2525288849577533239|tw13723201259902522057|tw15653167618273115250|tw13401745992835057938|tw536974423877571804|tw12402323304471535748|tw4408733411546401367|tw9835769924918923207|tw14667141100797576227
open PySem PySem.W PyProof.Rows
set_option maxRecDepth 100000 in
set_option maxHeartbeats 0 in
theorem PySem.Challenge.cw_signbench_k05_fewest_keys_holds : PySem.Challenge.rw_signbench_k05_fewest_keys.Holds := by
 w_on;o_law;k_head;(case hw=>w_witness2)
 k_fill
 refine My.zmp (l:=PySem.Challenge.rw_signbench_k05_fewest_keys) rfl rfl (λw h Y=>PySem.W.kIn_of Y) ?F
 case F=>
  intro w mg fa h KX G hmg
  apply My.zjq KX G hmg<;>first|(apply My.zlh<;>k_is)|k_is|kernel_rfl|rfl|decide
