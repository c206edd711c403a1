import PyProof.Rows.All
import Wide.All
import OpenK.AllK
import Wide.FinOn
import Lean
import PyProof.EqAt
import PyProof.EqKinds
import PyProof.TupleCall
import PyProof.AttrMissHeap
import PyProof.CallFns
import PyProof.CallStr
import PyProof.DictTruth
import PyProof.Draws
import PyProof.EnumMake
import PyProof.FactsAll.range_2
import PyProof.ListRange
import PyProof.MeetsStr
import PyProof.P3Eq
import PyProof.Rows.CallKw2
import PyProof.Rows.CountFlat
import PyProof.Rows.FStr
import PyProof.Rows.Range3
import PyProof.Rows.StrJoin2
import PyProof.Rows.StrNews
import PyProof.Rows.ZipGen
import PyProof.SetRoads
import PyProof.StrBlockI
import PyProof.StrCalls
import PyProof.StrCalls5
import PyProof.StrOps2
import PyProof.StrWalks
import PyProof.SumAny
import PyProof.ZipIter
import PySem.Challenge.RW_signbench_k07_no_keys
local macro_rules|`(⋯)=>`(by lia)
open PySem renaming wpAny_bind→ba,Value→bb,wpAny_pure→be,Shared→bf,wpAny→bg,Expr→bh,model→bi,starEach→bj,Program→bm,mainGlobals→bn,World→bo,wpAny_newObj_type→bp,Around→bq,wpAny_holding→br,cellsFrom→bt,wpAny_call_entry→bu,foldedSetIterable→bw,assignEach→bx,sysModules→bz,wpAny_mono→bA,FuncData→bB,wpAny_typeNameOfWhole_itemiter→bC,wpAny_typeNameOfWhole_keyiter→bD,Obj→bE,eval→bF,bootBuiltins→bG,compareOp→bH,Paired→bJ,wpAny_typeNameOf_itemiter→bK,wpAny_passesOwn→bL,wpAny_dictEntries→bM,backTo→bN,behindInMarks→bO,attributeBase→bP,wpAny_typeNameOf_keyiter→bQ,DictEntry→bR,NameKind→bS,Pos→bT,IsItemIter→bU,wpAny_isOneOf_itemiter→bV,wpAny_setField_rec→bW,wpAny_dictEpoch→bX,binaryOp→bY,wpAny_fieldsOf→bZ,swapsWith→ca,wpAny_specialOf→cb,letOwnedTupleGo→cc,wpAny_field→cf,sliceBounds→cg,wpAny_truthy_bool→cj,pyNext→cm,wpAny_standAt→cn,wpAny_attempt→cp,wpAny_execs_nil→cq,assign→cr,codeAny→cu,getItem→cw,Keyword→cx,wpAny_Call_Name_kw→cy,firstArgMember→cz,sizeLine_eq→cB,keywordEach→cC,wpAny_pyIter_list→cD,wpAny_isInstance→cF,wpAny_forIn_list→cG,noFill_tuple_add→cH,wpAny_pyNext_list_item→cI,IsPart→cJ,codeAny_compStart_list→cL,size_of_entries→cM,Sem→cN,wpAny_pyNext_list_end→cO,wpAny_notOrdered_dict→cP,wpAny_isOneOf_keyiter→cQ,wpAny_loadName_local→cR,rawInt→cS,subscripted→cT,ReadsAll→cU,wpAny_setField→cW,PassesOwn→cX,valueAt→cY,callerA→cZ,wpAny_loadName_cell→de,swapsWithSole→dg,swappedStores→dh,seq_tuple_add→di,IsItemIterOut→dk,IsTupleKey→dl,wpAny_rule→dm,Env→dn,call_meets→du,eqIsQuiet_byValue→dw,wpAny_assign_Name→dz,BindsTo→dA,codeAny_mono→dB,concat_meets→dD,wpAny_sequenceKey→dE,wpAny_typeOf→dF,seqIndex_neg→dG,backToKw→dH,wpAny_pyIter_slot→dJ,eqIsQuiet→dL,wpAny_execs_cons→dM,typeOf→dN,wpAny_Dict_empty→dO,seqIndex_of→dQ,atKey→dR,holding→dU,reduceHash→dX,builtinsNs→dY,wpAny_Name→dZ,Operator→fb,pyIter→fc,CmpOp→fe,bindL→ff,bindC→fg,setField→fk,storeName→fm,isTrue→fw,Model→fx,Reads→fA,sizeLine→qh
open PyProof.Rows renaming seqObj→bI,AllBare→cA,bubble→cE,subscriptTail_builtinR→cK,entry_tuple_getitem→df,subscriptTail→dj,args_tuple_getitem→dt,mirror→dv,failedOf→dI,arrOf→dS,IntsAre→dW,Subscript_→fh,pendingOf→ft,IsTup→fy
open PySem.W renaming kasC_cons→dP,kasC_range→fj,kasC_pure→fo,kasC_bind→fq
set_option linter.defProp false
set_option bootstrap.genMatcherCode false
set_option genSizeOf false
local macro_rules|`(tactic|erw[$[$e:term],*]$[$l:location]?)=>`(tactic|simp only[$[$e:term],*]$[$l:location]?)
open List renaming mem_append_right→i4,mem_cons_of_mem→i5,map_cons→i6,mem_append_left→i7,mem_append→i9,length_map→l0,append_nil→l4,mem_cons_self→l5,mem_cons→l6,length_append→l8,size_toArray→l9,mem_singleton→m4,mem_map→m5,map_nil→m8,append_assoc→m9,length_cons→o0,map_append→t8,not_mem_nil→A2,nil_append→A4,reverse_cons→A6,length_take→A7,replicate→A8,lookup_cons→A9,cons_append→B3,take_of_length_le→B4,range→B5,length_drop→B8,length_nil→C0,drop_eq_nil_of_le→C2,getElem_mem→C3,pairwise_append→C4,map_map→C7,eq_nil_of_length_eq_zero→C8,take_add_one→C9,Nodup→D0,map_congr_left→D1,extract_eq_take_drop→D2,take_append_drop→D3,set_cons_zero→D4,set_cons_succ→D5,drop_drop→D9,exists_cons_of_length_eq_add_one→E1,nodup_cons→E3,getElem_of_mem→E4,take_length→E5,length_singleton→E6,mem_of_mem_drop→E9,take_succ_eq_append_getElem→F2,length_reverse→F5,take_succ_cons→F6,reverse_append→F7,reverse_nil→F8,drop_append_of_le_length→F9,zipWith_cons_cons→L0,foldl_cons→L1,nil_suffix→L3,perm_append_comm→L5,take_sublist→L6,length_range→L8,mem_of_mem_take→L9,isEmpty_nil→M7,drop_eq_getElem_cons→M8,pairwise_singleton→N0,drop_sublist→N1,drop_zero→N3,foldl_append→N4,all_eq_true→N5,perm_middle→N7,any_cons→N9,length→O0,take_append_of_le_length→O1,getElem_zipWith→O2,forall_mem_cons→O3,mem_filter→O4,filterMap_cons→O6,drop_succ_cons→O7,zipWith→P0,mem_range→P1,zip_cons_cons→P3,lookup_append→P5,pairwise_iff_getElem→P6,nodup_append→P7,map_take→R0,zipIdx_cons→R3,eraseIdx_cons_succ→R4,any_eq_true→R6,cons_ne_nil→R7,any_map→R9,of_mem_zip→S2,length_replicate→S4,length_filter_le→S5,lookup→S7,reverse_reverse→S8,replicate_succ→S9,filter_eq_self→T0,take_nil→T5,mem_filterMap→T6,suffix_append→T9,filter_append→u00,isEmpty_cons→u07,mem_reverse→u09,map_reverse→u0c,mem_flatten→u0e,filter_cons→u0f,length_set→u0g,forIn_cons→u0h,take_zero→u0k,map_drop→u0m,range'→u0o
open Nat renaming le_refl→i8,lt_of_lt_of_le→t7,lt_succ_self→B0,ne_of_lt→B1,zero_le→B7,le_of_ble_eq_true→B9,le_trans→C1,add_assoc→C6,lt_irrefl→D8,lt_succ_of_lt→F3,le_of_succ_le→F4,zero_add→I0,min_eq_right→N8,min_eq_left→O5,ne_of_gt→O8,le_of_eq→O9,add_sub_cancel→P2,not_lt→P4,le_of_not_lt→R1,lt_or_ge→R8,le_total→S1,not_lt_zero→S3,reduceAdd→T2,reduceSub→T3,eq_zero_or_pos→u01,le_of_lt→u02,le_succ_of_le→u06,min_le_right→u08,le_add_right→u0a,succ_le_succ→u0d,min_le_left→u0i,lt_trans→u0n
open Option renaming map_some→l7,getD_some→B2,map→B6,toList_some→D7,map_none→E7,getD_none→N6,isSome_iff_exists→P8,isSome_some→T7,isSome_map→u04,elim→u0p
open Bool renaming false_eq_true→t9,and_eq_true→A3,false_ne_true→A5,true_and→L4,not_true→M9,not_false→N2,false_or→P9,false_and→S6,and_true→T1,not_eq_false'→T8,true_or→u03,not_eq_true'→u05,noConfusion→u0b,or_eq_true→u0j,and_false→u0l
open Int renaming emod_lt_of_pos→D6,emod_nonneg→E8,toNat_natCast→L7,eq_ofNat_of_zero_le→R5,zero_add→S0,reduceBEq→T4
set_option Elab.async false
set_option linter.all false
set_option maxRecDepth 100000
set_option maxHeartbeats 4000000
theorem qw{c:Prop}{h:Decidable c}(k:c){α:Sort u}{a b:α}:ite c a b=a:=if_pos k
theorem qy{c:Prop}{h:Decidable c}(k: ¬c){α:Sort u}{a b:α}:ite c a b=b:=if_neg k
namespace L2
open PySem PySem.Spec PyProof.Rows
noncomputable abbrev Key:=Sum Int Str
noncomputable def z75:Key->bb->Bool
 | .inl k,v=>Value.isInt k v
 | .inr x,v=>Value.isStrOf x v
noncomputable def zjC(w:bo):Key->Int
 | .inl k=>hashInt k
 | .inr x=>hashStr w x
def Q7: ∀{k:Key} {v:bb},z75 k v=true->(∃i t,k=Sum.inl i/\v=Value.int i t)\/(∃x t,k=Sum.inr x/\v=Value.str x t)
 | .inl i,v,h=>by
  obtain⟨t,e⟩:=Value.isInt_shape (k:=i) (v:=v) h
  exact .inl ⟨i,t,rfl,e⟩
 | .inr x,v,h=>by
  obtain⟨t,e⟩:=Value.isStrOf_shape (x:=x) (v:=v) h
  exact .inr ⟨x,t,rfl,e⟩
def z7J(i:Int)(t:Tok):z75 (.inl i) (.int i t)=true:=by simp[z75,Value.isInt]
def z7K(x:Str)(t:Tok):z75 (.inr x) (.str x t)=true:=by simp[z75,Value.isStrOf]
def zeo(a b:Int):decide ((Sum.inl a:Key)=Sum.inl b)=(a==b):=by
 by_cases e:a=b
 .subst e;simp
 .have h: ¬(Sum.inl a:Key)=Sum.inl b:=λq=>e (Sum.inl.inj q)
  rw[decide_eq_false h]
  exact(beq_eq_false_iff_ne.mpr e).symm
def zep(a b:Str):decide ((Sum.inr a:Key)=Sum.inr b)=decide (a=b):=by
 by_cases e:a=b
 .subst e;simp
 .have h: ¬(Sum.inr a:Key)=Sum.inr b:=λq=>e (Sum.inr.inj q)
  rw[decide_eq_false h,decide_eq_false e]
def zeq(a:Int)(b:Str):decide ((Sum.inl a:Key)=Sum.inr b)=false:=decide_eq_false (λq=>nomatch q)
def zer(a:Str)(b:Int):decide ((Sum.inr a:Key)=Sum.inl b)=false:=decide_eq_false (λq=>nomatch q)
noncomputable def Q4(prog:bm)(w:bo):PySem.KeyKind prog w Key where
 is:=z75
 hash:=zjC w
 inj:=λv a b ha hb=>by
  rcases Q7 ha with⟨i,t,rfl,rfl⟩|⟨x,t,rfl,rfl⟩
  .rcases Q7 hb with⟨j,u,rfl,e⟩|⟨y,u,rfl,e⟩
   .injection e with e1 _;rw[e1]
   .exact nomatch e
  .rcases Q7 hb with⟨j,u,rfl,e⟩|⟨y,u,rfl,e⟩
   .exact nomatch e
   .injection e with e1 _;rw[e1]
 byValue:=λk v h=>by
  rcases Q7 h with⟨i,t,rfl,rfl⟩|⟨x,t,rfl,rfl⟩<;>rfl
 pyHash:=λhv h=>by
  rcases Q7 hv with⟨i,t,rfl,rfl⟩|⟨x,t,rfl,rfl⟩
  .exact wpAny_pyHash_int h
  .exact wpAny_pyHash_str h
 eqBool:=λhu hv h=>by
  rcases Q7 hu with⟨i,t,rfl,rfl⟩|⟨x,t,rfl,rfl⟩
  .rcases Q7 hv with⟨j,u,rfl,rfl⟩|⟨y,u,rfl,rfl⟩
   .rw[zeo] at h;exact wpAny_eqBool_int h
   .rw[zeq] at h;exact SeqAt.EqAt.int_str i t y u _ _ _ _ h
  .rcases Q7 hv with⟨j,u,rfl,rfl⟩|⟨y,u,rfl,rfl⟩
   .rw[zer] at h;exact SeqAt.EqAt.str_int x t j u _ _ _ _ h
   .rw[zep] at h;exact wpAny_eqBool_str h
 «strs» :=λk x t v h=>by
  rcases Q7 h with⟨i,u,rfl,e⟩|⟨y,u,rfl,e⟩
  .exact nomatch e
  .injection e with e1 _
   subst e1
   cases v<;>rfl
def z5E(prog:bm)(w:bo)(i:Int)(t:Tok):(Q4 prog w).is (.inl i) (.int i t)=true:=z7J i t
def z5F(prog:bm)(w:bo)(x:Str)(t:Tok):(Q4 prog w).is (.inr x) (.str x t)=true:=z7K x t
inductive V where
 |non|bl (b:Bool)|int (i:Int)|str (x:Str)|byt (b:Array UInt8)|flt (b:UInt64)|ref (a:Addr)|ty (n:String)
 deriving DecidableEq
noncomputable def RelV:V->bb->Prop
 | .non,u=>u=Value.none
 | .bl b,u=>u=Value.bool b
 | .int i,u=> ∃t,u=Value.int i t
 | .str x,u=> ∃t,u=Value.str x t
 | .byt b,u=> ∃t,u=Value.bytes b t
 | .flt b,u=> ∃t,u=Value.float b t
 | .ref a,u=>u=Value.ref a
 | .ty n,u=>u=Value.type n
noncomputable abbrev U0:List V->List bb->Prop:=bJ RelV
def U0.length{xs:List V}{us:List bb}(r:U0 xs us):xs.length=us.length:=Paired.length r
theorem U0.get: ∀{xs:List V} {us:List bb} {i:Nat} {x:V},U0 xs us->xs[i]? =some x->∃u,us[i]? =some u/\RelV x u
 |_,_,_,_, .nil,e=>by simp at e
 |_,_,0,_, .cons r _,e=>by simp at e;subst e;exact⟨_,rfl,r⟩
 |_,_,i+1,x, .cons _ t,e=>by
  obtain⟨u,h1,h2⟩:=U0.get (i:=i) (x:=x) t (by simpa using e)
  exact⟨u,by simpa using h1,h2⟩
theorem U0.set{x:V}{u:bb}(r:RelV x u): ∀{xs:List V} {us:List bb} (i:Nat),U0 xs us->U0 (xs.set i x) (us.set i u)
 |_,_,_, .nil=> .nil
 |_,_,0, .cons _ t=> .cons r t
 |_,_,i+1, .cons q t=> .cons q (U0.set r i t)
theorem U0.append: ∀{xs ys:List V} {us ws:List bb},U0 xs us->U0 ys ws->U0 (xs++ys) (us++ws)
 |_,_,_,_, .nil,s=>s
 |_,_,_,_, .cons r t,s=> .cons r (U0.append t s)
theorem U0.take: ∀{xs:List V} {us:List bb} (n:Nat),U0 xs us->U0 (xs.take n) (us.take n)
 |_,_,0,_=> .nil
 |_,_,_+1, .nil=> .nil
 |_,_,n+1, .cons r t=> .cons r (U0.take n t)
theorem U0.drop: ∀{xs:List V} {us:List bb} (n:Nat),U0 xs us->U0 (xs.drop n) (us.drop n)
 |_,_,0,r=>r
 |_,_,_+1, .nil=> .nil
 |_,_,n+1, .cons _ t=>U0.drop n t
noncomputable def RelO:Option V->Option bb->Prop
 |some v,some u=>RelV v u
 |none,none=>True
 |_,_=>False
noncomputable def KV{κ:Type}:List (κ×V)->List (κ×bb)->Prop:=bJ λ(p:κ×V) (q:κ×bb)=>p.1=q.1/\RelV p.2 q.2
noncomputable def kV:Key->V
 | .inl i=> .int i
 | .inr x=> .str x
theorem Paired.mapP{α β:Type}{F G:α->β->Prop}: ∀{l₁:List α} {l₂:List β},bJ F l₁ l₂->(∀a b,F a b->G a b)->bJ G l₁ l₂
 |_,_, .nil,_=> .nil
 |_,_, .cons r t,f=> .cons (f _ _ r) (Paired.mapP t f)
noncomputable abbrev NK:=List (Key⊕List Key)
section
variable(P:bm)(w:bo)
noncomputable def ItN(h:Heap):Key⊕List Key->bb->Prop
 | .inl k,v=>(Q4 P w).is k v=true
 | .inr ks,v=> ∃c,v= .ref c/\dl (Q4 P w) h ks c
noncomputable def IsN(h:Heap)(k:NK)(a:Addr):Prop:= ∃o items n,h.get? a=some o/\o.cls= .type "tuple" /\o.data= .seq items n/\bJ (ItN P w h) k items.toList
noncomputable def hsN:Key⊕List Key->Int
 | .inl k=>(Q4 P w).hash k
 | .inr ks=>tupleKeyHash (Q4 P w) ks
noncomputable def drN:Key⊕List Key->Nat
 | .inl _=>1
 | .inr ks=>ks.length+1
end
section
variable{P:bm}{w:bo}{h:Heap}
def zcc{x y:Key⊕List Key}{v:bb}(hx:ItN P w h x v)(hy:ItN P w h y v):x=y:=by
 cases x with
 |inl k=>
  cases y with
  |inl k'=>rw[(Q4 P w).inj v k k' hx hy]
  |inr ks=>obtain⟨c,rfl,_⟩:=hy;have:=(Q4 P w).byValue _ _ hx;simp[carriedByValue] at this
 |inr ks=>
  obtain⟨c,rfl,hc⟩:=hx
  cases y with
  |inl k'=>have:=(Q4 P w).byValue _ _ hy;simp[carriedByValue] at this
  |inr ks'=>obtain⟨c',e,hc'⟩:=hy;cases e;rw[hc.inj hc']
theorem z3Y: ∀{x y:NK} {vs:List bb},bJ (ItN P w h) x vs->bJ (ItN P w h) y vs->x=y
 |_,_,_, .nil, .nil=>rfl
 |_,_,_, .cons a b, .cons c d=>by rw[zcc a c,z3Y b d]
variable{A:bq}{E:bb->bf->Prop}{s:bf}
def z4L{M:fx}{a:Addr}{o:bE}{items:Array bb}{n m:Nat}{Q:Bool->bf->Prop}(ho:s.heap.get? a=some o)(hc:o.cls= .type "tuple")(hd:o.data= .seq items n)(hi: ∀v∈items.toList,∀(R:Bool->bf->Prop) E,R true s->bg M A (dL m v) R E s)(q:Q true s):bg M A (dL (m+1) (.ref a)) Q E s:=by
 have hT:s.TypeIs (.ref a) "tuple" :=⟨o,ho,hc⟩
 rw[dL]
 refine ba (cb hT PySem.F.slot_tuple_eq.lookup ?_)
 dsimp only
 refine ba (cF hT isSubtype_tuple_tuple ?_)
 rw[qy (by decide)]
 refine ba (wpAny_seqItems ho hd ?_)
 refine ba ?_
 dsimp only[B2]
 rw[<-Array.forIn_toList]
 refine cG _ (λr b s'=>b.1=none/\s'=s/\∀v∈r,v∈items.toList) _ ?_ ?_ _ _ ⟨rfl,rfl,λv hv=>hv⟩
 .rintro v r b s' ⟨_,rfl,hm⟩
  refine ba (hi v (hm v l5) _ _ ?_)
  rw[qy (by decide)]
  exact be ⟨rfl,rfl,λu hu=>hm u (i5 _ hu)⟩
 .rintro ⟨b1,b2⟩ s' ⟨hb,rfl,_⟩
  dsimp only at hb
  subst hb
  exact be q
theorem z4M{P':bm}{w':bo}: ∀{ks:List Key} {vs:List bb},ItemsAre (Q4 P w) ks vs->ItemsAre (Q4 P' w') ks vs
 |_,_, .nil=> .nil
 |_,_, .cons a b=> .cons a (z4M b)
def z7L{P':bm}{w':bo}{ks:List Key}{c:Addr}(hk:dl (Q4 P w) h ks c):dl (Q4 P' w') h ks c:=by
 obtain⟨o,items,n,h1,h2,h3,h4⟩:=hk
 exact⟨o,items,n,h1,h2,h3,z4M h4⟩
def zes{x y:Key⊕List Key}{u v:bb}(hu:A.units<cLine)(hx:ItN P w s.heap x u)(hy:ItN P w s.heap y v):SeqAt.EqAt A s u v (decide (x=y)):=λprog w' E Q q=>by
 cases x with
 |inl k=>
  cases y with
  |inl k'=>exact(Q4 prog w').eqBool (a:=k) (b:=k') hx hy (by rw[show decide (k=k')=decide ((Sum.inl k:Key⊕List Key)=Sum.inl k') by by_cases e:k=k'<;>simp[e]];exact q)
  |inr ks=>
   obtain⟨c,rfl,o,items,n,h1,h2,h3,_⟩:=hy
   rw[decide_eq_false (λe=>nomatch e)] at q
   rcases Q7 hx with⟨i,t,rfl,rfl⟩|⟨z,t,rfl,rfl⟩
   .exact SeqAt.EqAt.int_tuple i t ⟨o,h1,h2,n,h3⟩ hu prog w' E Q q
   .exact SeqAt.EqAt.str_tuple z t ⟨o,h1,h2,n,h3⟩ hu prog w' E Q q
 |inr ks=>
  obtain⟨c,rfl,hc⟩:=hx
  cases y with
  |inl k'=>
   obtain⟨o,items,n,h1,h2,h3,_⟩:=hc
   rw[decide_eq_false (λe=>nomatch e)] at q
   rcases Q7 hy with⟨i,t,rfl,rfl⟩|⟨z,t,rfl,rfl⟩
   .exact SeqAt.EqAt.tuple_int i t ⟨o,h1,h2,n,h3⟩ hu prog w' E Q q
   .exact SeqAt.EqAt.tuple_str z t ⟨o,h1,h2,n,h3⟩ hu prog w' E Q q
  |inr ks'=>
   obtain⟨c',rfl,hc'⟩:=hy
   refine wpAny_eqBool_tuple (knd:=Q4 prog w') hu (z7L hc) (z7L hc') ?_
   rw[show decide (ks=ks')=decide ((Sum.inr ks:Key⊕List Key)=Sum.inr ks') by by_cases e:ks=ks'<;>simp[e]];exact q
def zcd{α:Type}[DecidableEq α](x y:List α):((B5 (min x.length y.length)).all (λj=>decide (x[j]? =y[j]?))&&x.length==y.length)=decide (x=y):=by
 rw[Bool.eq_iff_iff]
 erw[A3,N5,P1,decide_eq_true_eq,beq_iff_eq]
 constructor
 .rintro ⟨h1,h2⟩
  apply List.ext_getElem?
  intro j
  by_cases hj:j<x.length
  .exact h1 j ⋯
  .rw[List.getElem?_eq_none ⋯,List.getElem?_eq_none ⋯]
 .rintro rfl;exact⟨λ_ _=>rfl,rfl⟩
theorem Paired.get2{α β:Type}{F:α->β->Prop}: ∀{l:List α} {m:List β},bJ F l m->∀j (h1:j<l.length) (h2:j<m.length),F l[j] m[j]
 |_,_, .cons a b,0,_,_=>a
 |_,_, .cons a b,j+1,h1,h2=>Paired.get2 b j (by simpa using h1) (by simpa using h2)
def zet{x y:NK}{a b:Addr}{Q:Bool->bf->Prop}(hu:A.units+1<cLine)(hx:IsN P w s.heap x a)(hy:IsN P w s.heap y b)(q:Q (decide (x=y)) s):bg (bi P w) A (eqBool (.ref a) (.ref b)) Q E s:=by
 by_cases e:a=b
 .subst e
  obtain⟨o,items,n,h1,h2,h3,h4⟩:=hx
  obtain⟨o',items',n',k1,k2,k3,k4⟩:=hy
  obtain rfl:o=o':=Option.some.inj (h1.symm.trans k1)
  rw[h3] at k3
  injection k3 with k3 _
  subst k3
  obtain rfl:=z3Y h4 k4
  exact SeqAt.EqAt.same _ P w E Q (by simpa using q)
 .obtain⟨o,items,n,h1,h2,h3,h4⟩:=hx
  obtain⟨o',items',n',k1,k2,k3,k4⟩:=hy
  have l1:x.length=items.size:=by have:=Paired.length h4;simpa using this
  have l2:y.length=items'.size:=by have:=Paired.length k4;simpa using this
  refine SeqAt.EqAt.of_refs e (SeqAt.RcAt.tuples (e:=λj=>decide (x[j]? =y[j]?)) ⟨o,h1,h2,n,h3⟩ ⟨o',k1,k2,n',k3⟩ ⋯ λj j1 j2=> ?_) P w E Q ?_
  .have:=zes (A:=A.in1) (show A.units+1<cLine from hu) (Paired.get2 h4 j ⋯ (by simpa using j1)) (Paired.get2 k4 j ⋯ (by simpa using j2))
   rw[List.getElem?_eq_getElem ⋯,List.getElem?_eq_getElem ⋯]
   simpa using this
  .rw[<-l1,<-l2,zcd];exact q
def z9P{k:Key⊕List Key}{v:bb}{Q:Int->bf->Prop}(hu:A.units<cLine)(hk:ItN P w s.heap k v)(q:Q (hsN P w k) {s with toks:=s.toks+drN k}):bg (bi P w) A (pyHash v) Q E s:=by
 cases k with
 |inl k=>exact(Q4 P w).pyHash hk q
 |inr ks=>obtain⟨c,rfl,hc⟩:=hk;exact wpAny_pyHash_tuple hu hc q
def z9Q{k:NK}{a:Addr}{Q:Int->bf->Prop}(hu:A.units+1<cLine)(hk:IsN P w s.heap k a)(q:Q (dX (Builtin.Tuple.tupleHashOf (k.map (hsN P w)))) {s with toks:=s.toks+((k.map drN).sum+1)}):bg (bi P w) A (pyHash (.ref a)) Q E s:=by
 obtain⟨o,items,n,ho,hc,hd,hi⟩:=hk
 have hT:s.TypeIs (.ref a) "tuple" :=⟨o,ho,hc⟩
 delta pyHash
 delta pyHashByItsType
 refine ba (wpAny_cRoomFor_or (.inr ⋯) ?_)
 refine ba (cb hT PySem.F.slot_tuple_hash.lookup ?_)
 rw[qy (show ¬(some (Value.builtin "tuple.__hash__")==some Value.none)=true by rw[beq_builtin_none];decide)]
 refine ba (cb hT PySem.F.slot_tuple_hash.lookup ?_)
 refine ba (wpAny_callSpecialIfBoundUnlessNone?_slot hT PySem.F.slot_tuple_hash (bu PySem.F.slot_tuple_hash hT PySem.F.entry_tuple_hash ?_ (PySem.F.args_tuple_hash_1 _)))
 change bg _ A.in1 (Builtin.Tuple.tupleItemsOf (Value.ref a)>>=_) _ _ s
 refine ba (wpAny_tupleItemsOf ho hd (ba ?_))
 rw[<-Array.forIn_toList]
 refine cG _ (λr (b:Array Int) s'=> ∃d l,k=d++l/\bJ (ItN P w s.heap) l r/\b.toList=d.map (hsN P w)/\s'={s with toks:=s.toks+(d.map drN).sum}) _ ?_ ?_ _ _ ⟨[],k,rfl,hi,rfl,rfl⟩
 .rintro x r b s' ⟨d,l,rfl,hl,hb,rfl⟩
  cases hl with
  | @cons z _ l' _ h1 hl'=>
   refine ba (z9P (A:=A.in1) (s:={s with toks:=s.toks+(d.map drN).sum}) (show A.units+1<cLine from hu) h1 ?_)
   have fin: ∃d' l2,d++z::l'=d'++l2/\bJ (ItN P w s.heap) l2 r/\(b.push (hsN P w z)).toList=d'.map (hsN P w)/\({s with toks:=s.toks+(d.map drN).sum+drN z}:bf)={s with toks:=s.toks+(d'.map drN).sum}:=⟨d++[z],l',by simp,hl',by simp[hb],by simp[C6]⟩
   exact be fin
 .rintro b s' ⟨d,l,rfl,hl,hb,rfl⟩
  cases hl
  rw[l4] at q
  change bg _ A.in1 (retInt (Builtin.Tuple.tupleHashOf b.toList)) _ _ _
  rw[hb]
  refine wpAny_ret_mkInt ?_
  delta dX at q
  show bg _ _ (if(decide (-(2:Int)^63<=Builtin.Tuple.tupleHashOf (d.map (hsN P w)))&&decide (Builtin.Tuple.tupleHashOf (d.map (hsN P w))<2^63))=true then _ else _) Q E _
  split
  .rename_i hr
   rw[qw hr] at q
   exact be (by simpa[C6] using q)
  .rename_i hr
   rw[qy hr] at q
   exact ba (dm (be (by simpa[C6] using q)))
def z7M{k:NK}{a:Addr}{Q:Bool->bf->Prop}(hk:IsN P w s.heap k a)(q:Q true s):bg (bi P w) A (dL 8 (.ref a)) Q E s:=by
 obtain⟨o,items,n,h1,h2,h3,h4⟩:=hk
 refine z4L h1 h2 h3 (λv hv R E' r=> ?_) q
 have all: ∀{k:NK} {vs:List bb},bJ (ItN P w s.heap) k vs->∀v∈vs,∃z,ItN P w s.heap z v:=by
  intro k vs p
  induction p with
  |nil=>intro v hv;cases hv
  |cons a b ih=>
   intro v hv
   rcases l6.mp hv with rfl|hv
   .exact⟨_,a⟩
   .exact ih v hv
 obtain⟨z,hz⟩:=all h4 v hv
 cases z with
 |inl k=>rw[dw _ ((Q4 P w).byValue _ _ hz)];exact be r
 |inr ks=>
  obtain⟨c,rfl,o,items,n,h1,h2,h3,h4⟩:=hz
  exact z4L h1 h2 h3 (λv hv R E' r=>by rw[dw _ (h4.byValue v hv)];exact be r) r
def z7N{h':Heap}{d:Addr}{o:bE}{es:Array bR}{ep:Nat}(ho:h.get? d=some o)(hd:o.data= .dict es ep)(hs:Heap.SameBut d h h'): ∀{k:NK} {vs:List bb},bJ (ItN P w h) k vs->bJ (ItN P w h') k vs:=λp=>Paired.mapP p λz v q=>by
 cases z with
 |inl k=>exact q
 |inr ks=>obtain⟨c,rfl,hc⟩:=q;exact⟨c,rfl,hc.keeps ho hd hs⟩
end
noncomputable def z1i(P:bm)(w:bo):HeapKind P w NK where
 is:=IsN P w
 hash:=λk=>dX (Builtin.Tuple.tupleHashOf (k.map (hsN P w)))
 draws:=λk=>(k.map drN).sum+1
 room:=λA=>A.units+1<cLine
 inj:=λ⟨o,items,n,h1,_,h3,h4⟩ ⟨o',items',n',k1,_,k3,k4⟩=>by
  obtain rfl:o=o':=Option.some.inj (h1.symm.trans k1)
  rw[h3] at k3
  injection k3 with k3 _
  subst k3
  exact z3Y h4 k4
 keeps:=λ{h h' k a d o es ep} ⟨o',items,n,h1,h2,h3,h4⟩ ho hd hs=>by
  have hne:a≠d:=by
   rintro rfl
   obtain rfl:o'=o:=Option.some.inj (h1.symm.trans ho)
   rw[hd] at h3;cases h3
  exact⟨o',items,n,(hs.2 a hne).trans h1,h2,h3,z7N ho hd hs h4⟩
 pyHash:=λhu hk q=>z9Q hu hk q
 eqBool:=λhu hx hy q=>zet hu hx hy q
 quiet:=λhk q=>z7M hk q
def z2H{P:bm}{w:bo}{A:bq}(hu:A.units+2<cLine):(z1i P w).room A.in1:=hu
inductive HO where
 |lst (xs:List V)
 |tup (xs:List V)
 |dK (kvs:List (Key×V))|dT (kvs:List (NK×V))
 |set (S:Int->Bool) (n:Nat)
 |ins (C dx:Addr) (fs:List (Str×V))
 |own (x:Addr)
 |xd (fs:List (Str×V))
 |met (f x:Addr)
 |rng (lo hi:Int)
 |frz (o:bE) (u:HO)
 |tbl (ps:Array bb)
 |ext (φ:Heap->Prop)
noncomputable abbrev Hp:=Addr->Option HO
noncomputable def upd(H:Hp)(a:Addr)(o:HO):Hp:=λb=>if b=a then some o else H b
def Z6{H:Hp}{a:Addr}{o:HO}:upd H a o a=some o:=by delta upd;rw[qw rfl]
def Z7{H:Hp}{a b:Addr}{o:HO}(h:b≠a):upd H a o b=H b:=by delta upd;rw[qy h]
def z0j{H:Hp}{a b:Addr}{o u:HO}(h:H a=some o)(h':H b=some u)(d:o≠u):a≠b:=by
 intro e;subst e;rw[h] at h';exact d (Option.some.inj h')
def U6{H:Hp}{a b:Addr}{o:HO}(h:H a=some o)(h':H b=none):a≠b:=by
 intro e;subst e;rw[h] at h';cases h'
noncomputable def TKi(H:Hp):Key⊕List Key->V->Prop
 | .inl k,x=>x=kV k
 | .inr ks,x=> ∃c,x= .ref c/\H c=some (.tup (ks.map kV))
noncomputable def TK(H:Hp)(k:NK)(b:Addr):Prop:= ∃xs,H b=some (.tup xs)/\bJ (TKi H) k xs
def TK.stay{H H':Hp}{k:NK}{b:Addr}(ht: ∀b xs,H b=some (.tup xs)->H' b=some (.tup xs))(h:TK H k b):TK H' k b:=by
 obtain⟨xs,h1,h2⟩:=h
 refine⟨xs,ht _ _ h1,Paired.mapP h2 λz x q=> ?_⟩
 cases z with
 |inl k=>exact q
 |inr ks=>obtain⟨c,e,q⟩:=q;exact⟨c,e,ht _ _ q⟩
section
variable(P:bm)(w:bo)
noncomputable def K7(H:Hp)(h:Heap)(a:Addr):HO->Prop
 | .lst xs=>xs.length<=qh/\∃(its:List bb) (n:Nat),U0 xs its/\h.get? a=some {cls:= .type "list",data:= .seq its.toArray n}
 | .tup xs=>xs.length<=qh/\∃its:List bb,U0 xs its/\fy h a its.toArray
 | .dK kvs=>kvs.length<=qh/\(a==bz)=false/\∃vs,KV kvs vs/\h.DictOf (Q4 P w) a vs
 | .dT kvs=>kvs.length<=qh/\(a==bz)=false/\∃xs:List (NK×Addr×bb),
  bJ (λ(p:NK×V) (q:NK×Addr×bb)=>p.1=q.1/\TK H p.1 q.2.1/\RelV p.2 q.2.2) kvs xs/\
  ∃o es ep,h.get? a=some o/\o.ExactDict/\o.data= .dict es ep/\es.toList=xs.map (entryOfKey (z1i P w))/\(xs.map (·.1)).Nodup
 | .set S n=>h.SetOf (intKind P w) a S n
 | .ins C dx fs=>H dx=some (.own a)/\fs.length<=1000/\dx≠a/\h.get? a=some (W.instObj C dx)/\
  ∃mA,h.Ns1 dx mA/\(∀f,RelO (fs.lookup f) (mA f))/\PySem.Within mA (fs.map (·.1))
 | .own _=> ∃o,h.get? a=some o
 | .xd fs=> ∃mA,h.Ns1 a mA/\∀f,RelO (fs.lookup f) (mA f)
 | .rng lo hi=> ∃t u v,h.get? a=some {cls:= .type "range",data:= .fields #[.int lo t, .int hi u, .int 1 v]}
 | .frz o u=>h.get? a=some o/\K7 H h a u
 | .tbl ps=>h.get? a=some {cls:= .none,data:= .fields ps}
 | .met f x=>h.get? a=some (W.methodObj (.ref f) (.ref x))
 | .ext φ=>φ h/\(∃o,h.get? a=some o)/\∀h1 h2:Heap,φ h1->(∀o,h1.get? a=some o->h2.get? a=some o)->φ h2
noncomputable def HOk(H:Hp)(h:Heap):Prop:= ∀a o,H a=some o->K7 P w H h a o
end
section
variable{P:bm}{w:bo}{H H':Hp}{h h':Heap}{a:Addr}{o:HO}
def K7.lt(x:K7 P w H h a o):a<h.objs.size:=by
 cases o with
 |lst xs=>obtain⟨_,_,_,_,e⟩:=x;exact Heap.lt_size e
 |tup xs=>obtain⟨_,_,_,p⟩:=x;exact p.lt
 |dK kvs=>obtain⟨_,_,_,_,o,_,_,e,_⟩:=x;exact Heap.lt_size e
 |dT kvs=>obtain⟨_,_,_,_,o,_,_,e,_⟩:=x;exact Heap.lt_size e
 |set S n=>obtain⟨o,_,_,_,e,_⟩:=x;exact Heap.lt_size e
 |ins C dx fs=>obtain⟨_,_,_,e,_⟩:=x;exact Heap.lt_size e
 |own y=>obtain⟨_,e⟩:=x;exact Heap.lt_size e
 |xd fs=>obtain⟨_,⟨_,_,_,e,_⟩,_⟩:=x;exact Heap.lt_size e
 |rng lo hi=>obtain⟨_,_,_,e⟩:=x;exact Heap.lt_size e
 |frz ob u=>obtain⟨e,_⟩:=x;exact Heap.lt_size e
 |tbl ps=>exact Heap.lt_size (show h.get? a=some _ from x)
 |met f y=>exact Heap.lt_size (show h.get? a=some _ from x)
 |ext φ=>obtain⟨_,⟨_,e⟩,_⟩:=x;exact Heap.lt_size e
def K7.stay(x:K7 P w H h a o)(k: ∀b u,(b=a\/H b=some (.own a))->h.get? b=some u->h'.get? b=some u)
 (ho: ∀b,H b=some (.own a)->H' b=some (.own a)) (ht: ∀b xs,H b=some (.tup xs)->H' b=some (.tup xs)):K7 P w H' h' a o:=by
 induction o with
 |lst xs=>obtain⟨z,its,n,r,e⟩:=x;exact⟨z,its,n,r,k _ _ (.inl rfl) e⟩
 |tup xs=>obtain⟨z,its,r,ob,e,c⟩:=x;exact⟨z,its,r,ob,k _ _ (.inl rfl) e,c⟩
 |dK kvs=>obtain⟨z,y,vs,r,ob,es,ep,e,c⟩:=x;exact⟨z,y,vs,r,ob,es,ep,k _ _ (.inl rfl) e,c⟩
 |dT kvs=>
  obtain⟨z,y,xs,r,ob,es,ep,e,c⟩:=x
  exact⟨z,y,xs,Paired.mapP r λp q z=>⟨z.1,z.2.1.stay ht,z.2.2⟩,ob,es,ep,k _ _ (.inl rfl) e,c⟩
 |set S n=>obtain⟨ob,es,ep,t,e,c⟩:=x;exact⟨ob,es,ep,t,k _ _ (.inl rfl) e,c⟩
 |ins C dx fs=>
  obtain⟨d,z,ne,e,mA,⟨od,es,ep,e2,c⟩,r⟩:=x
  exact⟨ho _ d,z,ne,k _ _ (.inl rfl) e,mA,⟨od,es,ep,k _ _ (.inr d) e2,c⟩,r⟩
 |own y=>obtain⟨ob,e⟩:=x;exact⟨ob,k _ _ (.inl rfl) e⟩
 |xd fs=>obtain⟨mA,⟨od,es,ep,e,c⟩,r⟩:=x;exact⟨mA,⟨od,es,ep,k _ _ (.inl rfl) e,c⟩,r⟩
 |rng lo hi=>obtain⟨t,u,v,e⟩:=x;exact⟨t,u,v,k _ _ (.inl rfl) e⟩
 |frz ob u ih=>obtain⟨e,q⟩:=x;exact⟨k _ _ (.inl rfl) e,ih q⟩
 |tbl ps=>
  have e:h.get? a=some {cls:= .none,data:= .fields ps}:=x
  show h'.get? a=some {cls:= .none,data:= .fields ps}
  exact k a _ (.inl rfl) e
 |met f y=>
  have e:h.get? a=some (W.methodObj (.ref f) (.ref y)):=x
  show h'.get? a=some (W.methodObj (.ref f) (.ref y))
  exact k a _ (.inl rfl) e
 |ext φ=>obtain⟨p,⟨o,e⟩,st⟩:=x;exact⟨st _ _ p λo q=>k _ _ (.inl rfl) q,⟨o,k _ _ (.inl rfl) e⟩,st⟩
def HOk.lt(x:HOk P w H h)(e:H a=some o):a<h.objs.size:=(x a o e).lt
def HOk.fresh(x:HOk P w H h)(e:h.objs.size<=a):H a=none:=by
 cases q:H a with
 |none=>rfl
 |some u=>exact absurd (t7 (x.lt q) e) (D8 _)
def HOk.kept(x:HOk P w H h)(k: ∀b u,h.get? b=some u->h'.get? b=some u):HOk P w H h':=λa o e=>
 (x a o e).stay (λb u _ q=>k b u q) (λ_ q=>q) λ_ _ q=>q
def HOk.laid(x:HOk P w H h)(k: ∀b u,h.get? b=some u->h'.get? b=some u)(hp:h.objs.size<=a)(new:K7 P w (upd H a o) h' a o):HOk P w (upd H a o) h':=λb u e=>by
 have hn:=x.fresh hp
 by_cases hb:b=a
 .subst hb;rw[Z6] at e;cases e;exact new
 .rw[Z7 hb] at e
  exact(x b u e).stay (λc v _ q=>k c v q) (λc q=>by rw[Z7 (U6 q hn)];exact q) λc xs q=>by rw[Z7 (U6 q hn)];exact q
end
noncomputable def Rd(H:Hp)(a:Addr)(u:HO):Prop:=H a=some u\/∃o,H a=some (.frz o u)
def Rd.ok{P:bm}{w:bo}{H:Hp}{h:Heap}{a:Addr}{u:HO}(r:Rd H a u)(x:HOk P w H h):K7 P w H h a u:=by
 rcases r with r|⟨o,r⟩
 .exact x a u r
 .obtain⟨_,q⟩:=x a _ r
  exact q
noncomputable def Mut:Option HO->Prop
 |some (.lst _)=>True
 |some (.dK _)=>True
 |some (.dT _)=>True
 |some (.set _ _)=>True
 |some (.ins _ _ _)=>True
 |some (.ext _)=>True
 |_=>False
section
variable{P:bm}{w:bo}{H:Hp}{h h':Heap}{x e:Addr}{o':HO}
def HOk.write(ok:HOk P w H h)(mu:Mut (H x))(he:e=x\/H e=some (.own x))(k: ∀b u,b≠e->h.get? b=some u->h'.get? b=some u)(heo: ∃u,h'.get? e=some u)
 (new:K7 P w (upd H x o') h' x o'):HOk P w (upd H x o') h':=λb u q=>by
 have nown: ∀c y,H c=some (.own y)->c≠x:=λc y r z=>by subst z;rw[r] at mu;exact mu
 have ntup: ∀c xs,H c=some (.tup xs)->c≠x:=λc xs r z=>by subst z;rw[r] at mu;exact mu
 by_cases hb:b=x
 .subst hb;rw[Z6] at q;cases q;exact new
 .rw[Z7 hb] at q
  by_cases hbe:b=e
  .have q':H b=some (.own x):=by
    rcases he with z|z
    .exact absurd (hbe.trans z) hb
    .rw[hbe];exact z
   rw[q] at q';cases q'
   obtain⟨v,hv⟩:=heo
   exact⟨v,by rw[hbe];exact hv⟩
  .refine(ok b u q).stay (λc v hc r=>k c v ?_ r) (λc r=>by rw[Z7 (nown c b r)];exact r) λc xs r=>by rw[Z7 (ntup c xs r)];exact r
   rcases hc with rfl|hc
   .exact hbe
   .rintro rfl
    rcases he with z|z
    .exact nown c b hc z
    .rw[hc] at z;cases z;exact hb rfl
end
structure Un(fs ex:List Addr)(H H':Hp)(h h':Heap):Prop where
 keep: ∀b o,h.get? b=some o->H b=none->b∉fs->b∉ex->h'.get? b=some o
 slot: ∀b o,h.get? b=some o->H b=none->b∈fs->b∉ex->∃sl,h'.get? b=some {o with slots:=sl}
 free: ∀b o,h.get? b=some o->H b=none->b∉ex->H' b=none
 there: ∀b o,h.get? b=some o->b∉ex->∃o',h'.get? b=some o'
 tups: ∀b xs,H b=some (.tup xs)->H' b=some (.tup xs)
 frzs: ∀b o u,H b=some (.frz o u)->H' b=some (.frz o u)
 tbls: ∀b ps,H b=some (.tbl ps)->∃more,H' b=some (.tbl (ps++more))
section
variable{fs fs' ex ex':List Addr}{H H1 H2:Hp}{h h1 h2 h':Heap}{a x e:Addr}{o:HO}
def Un.any(u:Un fs ex H H1 h h1){b:Addr}{ob:bE}(q:h.get? b=some ob)(n:H b=none)(hx:b∉ex): ∃sl,h1.get? b=some {ob with slots:=sl}:=by
 by_cases hb:b∈fs
 .exact u.slot b ob q n hb hx
 .exact⟨ob.slots,u.keep b ob q n hb hx⟩
def Un.kept(k: ∀b u,h.get? b=some u->h'.get? b=some u):Un fs ex H H h h':=
 ⟨λb ob q _ _ _=>k b ob q,λb ob q _ _ _=>⟨ob.slots,k b ob q⟩,λ_ _ _ n _=>n,λb ob q _=>⟨ob,k b ob q⟩,λ_ _ q=>q,λ_ _ _ q=>q,λ_ ps q=>⟨#[],by rw[q];simp⟩⟩
def Un.refl:Un fs ex H H h h:=Un.kept λ_ _ q=>q
def Un.laid(k: ∀b u,h.get? b=some u->h'.get? b=some u)(hp:h.objs.size<=a)(hn:H a=none):Un fs ex H (upd H a o) h h' where
 keep:=λb u q _ _ _=>k b u q
 slot:=λb u q _ _ _=>⟨u.slots,k b u q⟩
 free:=λb u q n _=>by rw[Z7 (B1 (t7 (Heap.lt_size q) hp))];exact n
 there:=λb u q _=>⟨u,k b u q⟩
 tups:=λb xs q=>by rw[Z7 (U6 q hn)];exact q
 frzs:=λb u xs q=>by rw[Z7 (U6 q hn)];exact q
 tbls:=λb ps q=>⟨#[],by rw[Z7 (U6 q hn),q];simp⟩
def Un.write(mu:Mut (H x))(he:e=x\/H e=some (.own x))(k: ∀b u,b≠e->h.get? b=some u->h'.get? b=some u)(heo: ∃u,h'.get? e=some u):Un fs ex H (upd H x o) h h':=by
 have hx: ∀b,H b=none->b≠x:=λb n z=>by subst z;rw[n] at mu;exact mu
 have hb: ∀b,H b=none->b≠e:=λb n z=>by
  subst z
  rcases he with r|r
  .exact hx b n r
  .rw[n] at r;cases r
 have hm: ∀b u,H b=some u->¬Mut (some u)->b≠x:=λb u q nm z=>by subst z;rw[q] at mu;exact nm mu
 refine⟨λb u q n _ _=>k b u (hb b n) q,λb u q n _ _=>⟨u.slots,k b u (hb b n) q⟩,λb u q n _=>by rw[Z7 (hx b n)];exact n,λb u q _=> ?_,
  λb xs q=>by rw[Z7 (hm b _ q λz=>z)];exact q,λb u xs q=>by rw[Z7 (hm b _ q λz=>z)];exact q,λb ps q=>⟨#[],by rw[Z7 (hm b _ q λz=>z),q];simp⟩⟩
 by_cases hbe:b=e
 .subst hbe;exact heo
 .exact⟨u,k b u hbe q⟩
end
noncomputable def trk(h:Heap)(H:Hp):List Addr:=(B5 h.objs.size).filter λa=>(H a).isSome
noncomputable def z9R(h:Heap)(H:Hp):Heap:=W.hideAll h (trk h H)
def z7O(h:Heap)(H:Hp):(z9R h H).objs.size=h.objs.size:=W.hideAll_size _ _
def z9S{h:Heap}{H:Hp}{b:Addr}{o:bE}(e:h.get? b=some o)(n:H b=none):(z9R h H).get? b=some o:=
 W.hideAll_get _ e λhm=>by
  have q:(H b).isSome=true:=(O4.mp hm).2
  rw[n] at q;simp at q
def zce{h:Heap}{H:Hp}{b:Addr}{o:bE}(e:(z9R h H).get? b=some o):h.get? b=some o/\H b=none:=by
 have e':h.get? b=some o:=W.of_hideAll (trk h H) e
 refine⟨e', ?_⟩
 cases q:H b with
 |none=>rfl
 |some x=>
  have hm:b∈trk h H:=O4.mpr ⟨P1.mpr (Heap.lt_size e'),by simp[q]⟩
  have z:(z9R h H).get? b=none:=W.hideAll_none (trk h H) hm
  rw[z] at e;cases e
structure Mod(K:W.Frag)(mg:Str->Option bb)(base:Heap):Prop where
 kin:K.In base
 glob:base.Ns bn mg
 blt: ∃mb,base.Ns dY mb/\∀x:Str,x≠ "__name__" ->mb x=bG x
 nolimit:base.NoLimit
structure Cx where
 prog:bm
 w:bo
 K:W.Frag
 mg:Str->Option bb
 base:Heap
 A:bq
 N:List Str
 s₀:bf
 H₀:Hp
 env:dn
 outer:List dn
 stack:List dn
 ex:List Addr
 fn:Str->Bool
 calm:Bool
 pn:List (Addr×bE)
 xe:bb->bf->Prop
noncomputable def frs(l:List dn):List Addr:=l.filterMap (·.frame)
noncomputable abbrev Cx.fs(X:Cx):List Addr:=frs X.outer
noncomputable def Vis(sc:Scope)(x:Str):Prop:=sc.names.lookup x=some .local\/sc.names.lookup x=some .cell\/sc.names.lookup x=some .free
noncomputable def Loc(sc:Scope)(x:Str):Prop:=sc.names.lookup x=some .local\/sc.names.lookup x=some .cell
noncomputable def zjD(env:dn)(h:Heap)(m:Str->Option bb)(x:Str)(u:bb):Prop:=
 (env.kindOf x=some .local/\m x=some u)\/((env.kindOf x=some .cell\/env.kindOf x=some .free)/\∃c,env.cells.lookup x=some c/\h.IsCell c (some u))
structure Cx.Ok(X:Cx):Prop where
 mod:Mod X.K X.mg X.base
 kind:X.env.scope.kind= .function
 glob:X.env.globals=bn
 blt:X.env.builtins=dY
 above:X.s₀.heap.objs.size<=X.env.locals
 inj: ∀x y c,X.env.cells.lookup x=some c->X.env.cells.lookup y=some c->x=y
 has: ∀x,(X.env.kindOf x=some .cell\/X.env.kindOf x=some .free)->∃c,X.env.cells.lookup x=some c
 cab: ∀x c,X.fn x=true->X.env.cells.lookup x=some c->X.s₀.heap.objs.size<=c
 hd:X.calm=true->X.A.handled=none
 frames:X.A.frames=some X.stack
 stk:X.stack=X.outer\/(X.stack=X.env::X.outer/\X.env.frame=some X.env.locals)
 exf: ∀b∈X.ex,b≠X.env.locals/\∀x c,X.env.cells.lookup x=some c->c≠b
 bs: ∀b o,X.base.get? b=some o->X.s₀.heap.get? b=some o/\X.H₀ b=none
 bsz:X.base.objs.size<=X.s₀.heap.objs.size
 noex: ∀b o,X.base.get? b=some o->b∉X.ex
 exfs: ∀b∈X.ex,b∉X.fs
 funs:X.s₀.heap.FunFrames X.base X.outer
 frf: ∀b∈X.fs,X.H₀ b=none
structure Inv(X:Cx)(qx:List (Addr×bE))(σ:List (Option V))(H:Hp)(s:bf):Prop where
 ok:X.Ok
 os:s.os=X.s₀.os
 bare:cA s.gens
 base:Un X.fs X.ex X.H₀ H X.s₀.heap s.heap
 loc: ∃m,s.heap.Ns X.env.locals m/\∀(i:Nat) (x:Str) (v:V),X.N[i]? =some x->σ[i]? =some (some v)->Vis X.env.scope x->∃u,RelV v u/\zjD X.env s.heap m x u
 cell: ∀x c,X.env.cells.lookup x=some c->∃v,s.heap.IsCell c v
 free:H X.env.locals=none
 freeC: ∀x c,X.env.cells.lookup x=some c->H c=none
 pin: ∀p∈X.pn++qx,s.heap.get? p.1=some p.2/\H p.1=none/\p.1≠X.env.locals/\p.1∉X.fs/\∀v,p.2.data≠ .cell v
 hok:HOk X.prog X.w H s.heap
 len:σ.length=X.N.length
section
variable{X:Cx}{qx:List (Addr×bE)}{σ:List (Option V)}{H H':Hp}{s:bf}{h':Heap}
def Cx.Ok.nofr(ok:X.Ok){b:Addr}{o:bE}(e:X.base.get? b=some o):b∉X.fs:=λhb=>by
 have:=(ok.funs.mem hb).1
 rw[e] at this;cases this
def Inv.bs(I:Inv X qx σ H s): ∀b o,X.base.get? b=some o->s.heap.get? b=some o/\H b=none:=λb o e=>
 ⟨I.base.keep b o (I.ok.bs b o e).1 (I.ok.bs b o e).2 (I.ok.nofr e) (I.ok.noex b o e),I.base.free b o (I.ok.bs b o e).1 (I.ok.bs b o e).2 (I.ok.noex b o e)⟩
def Inv.bk(I:Inv X qx σ H s): ∀b o,X.base.get? b=some o->s.heap.get? b=some o:=λb o e=>(I.bs b o e).1
def Inv.mod(I:Inv X qx σ H s):Mod X.K X.mg X.base:=I.ok.mod
def Inv.kIn(I:Inv X qx σ H s):X.K.In s.heap:=I.ok.mod.kin.keeps I.bk
def Inv.lt(I:Inv X qx σ H s):X.env.locals<s.heap.objs.size:=let⟨_,hn,_⟩:=I.loc;hn.lt
def Inv.sz(I:Inv X qx σ H s):X.s₀.heap.objs.size<=s.heap.objs.size:=C1 I.ok.above (u02 I.lt)
def Inv.nofs(I:Inv X qx σ H s){a:Addr}(h:s.heap.objs.size<=a):a∉X.fs:=λhb=>by
 obtain⟨_,o,ho,_⟩:=I.ok.funs.mem hb
 exact absurd (t7 (Heap.lt_size ho) (C1 I.sz h)) (D8 _)
def Inv.cne(I:Inv X qx σ H s): ∀x c,X.env.cells.lookup x=some c->c≠X.env.locals:=λx c e z=>by
 obtain⟨v,o,ho,hd⟩:=I.cell x c e
 obtain⟨m,⟨o',es,ep,ho',hd',_⟩,_⟩:=I.loc
 rw[z,ho'] at ho;cases ho;rw[hd'] at hd;cases hd
def Inv.funs(I:Inv X qx σ H s):s.heap.FunFrames X.base X.outer:=by
 have all: ∀(l:List dn),(∀b∈frs l,b∈X.fs)->X.s₀.heap.FunFrames X.base l->s.heap.FunFrames X.base l:=by
  intro l
  induction l with
  |nil=>intro _ _;trivial
  |cons env r ih=>
   intro hs hl
   obtain⟨hk,⟨L,o,hf,hn,ho,hd⟩,hr⟩:=hl
   have hL:L∈X.fs:=hs L (by unfold frs;rw[O6,hf];exact l5)
   obtain⟨sl,e⟩:=I.base.slot L o ho (I.ok.frf L hL) hL λz=>I.ok.exfs L z hL
   exact⟨hk,⟨L,_,hf,hn,e,hd⟩,ih (λb hb=>hs b (by unfold frs;rw[O6,hf];exact i5 _ hb)) hr⟩
 exact all X.outer (λ_ hb=>hb) I.ok.funs
def Inv.stack(I:Inv X qx σ H s):s.heap.FunFrames X.base X.stack:=by
 rcases I.ok.stk with e|⟨e,hf⟩
 .rw[e];exact I.funs
 .rw[e]
  obtain⟨m,hn,_⟩:=I.loc
  refine .cons (by rw[I.ok.kind];decide) hf hn ?_ I.funs
  exact Heap.get?_none_of_le (C1 I.ok.bsz I.ok.above)
def Inv.stkSub(I:Inv X qx σ H s): ∀b∈frs X.stack,b∈X.env.locals::X.fs:=λb hb=>by
 rcases I.ok.stk with e|⟨e,hf⟩
 .rw[e] at hb;exact i5 _ hb
 .rw[e] at hb
  unfold frs at hb
  rw[O6,hf] at hb
  exact hb
def Inv.stkFree(I:Inv X qx σ H s): ∀b∈frs X.stack,H b=none:=λb hb=>by
 rcases l6.mp (I.stkSub b hb) with e|hb
 .rw[e];exact I.free
 .obtain⟨_,o,ho,_⟩:=I.ok.funs.mem hb
  exact I.base.free b o ho (I.ok.frf b hb) λz=>I.ok.exfs b z hb
def Inv.step{g':Array GenState}{t':Nat}{d':Drawn}{ch:List Addr}(I:Inv X qx σ H s)
 (hch: ∀b∈ch,(b∈X.ex\/X.s₀.heap.objs.size<=b)/\b≠X.env.locals/\(∀x c,X.env.cells.lookup x=some c->c≠b)/\∀p∈X.pn++qx,p.1≠b)
 (keep: ∀b o,b≠X.env.locals->b∉X.fs->b∉ch->s.heap.get? b=some o->H b=none->h'.get? b=some o)
 (slot: ∀b o,b≠X.env.locals->b∈X.fs->b∉ch->s.heap.get? b=some o->H b=none->∃sl,h'.get? b=some {o with slots:=sl}) (free: ∀b o,b∉ch->s.heap.get? b=some o->H b=none->H' b=none)
 (there: ∀b o,b∉ch->s.heap.get? b=some o->∃o',h'.get? b=some o')
 (tups: ∀b xs,H b=some (.tup xs)->H' b=some (.tup xs)) (frzs: ∀b o u,H b=some (.frz o u)->H' b=some (.frz o u)) (tbls: ∀b ps,H b=some (.tbl ps)->∃more,H' b=some (.tbl (ps++more)))
 (ns: ∀m,s.heap.Ns X.env.locals m->h'.Ns X.env.locals m) (hok:HOk X.prog X.w H' h') (hg:cA g'):
 Inv X qx σ H' {s with heap:=h',gens:=g',drawn:=d',toks:=t'}:=by
 have neL: ∀b o,X.s₀.heap.get? b=some o->b≠X.env.locals:=λb o e=>B1 (t7 (Heap.lt_size e) I.ok.above)
 have neC: ∀b o,X.s₀.heap.get? b=some o->b∉X.ex->b∉ch:=λb o e hx hb=>by
  rcases(hch b hb).1 with z|z
  .exact hx z
  .exact absurd (t7 (Heap.lt_size e) z) (D8 _)
 have cellK: ∀x c,X.env.cells.lookup x=some c->∀v,s.heap.IsCell c v->h'.IsCell c v:=λx c e v ⟨o,ho,hd⟩=>by
  have nch:c∉ch:=λz=>(hch c z).2.2.1 x c e rfl
  by_cases hc:c∈X.fs
  .obtain⟨sl,q⟩:=slot c o (I.cne x c e) hc nch ho (I.freeC x c e)
   exact⟨_,q,hd⟩
  .exact⟨o,keep c o (I.cne x c e) hc nch ho (I.freeC x c e),hd⟩
 refine⟨I.ok,I.os,hg,⟨λb o e n hb hx=> ?_,λb o e n hb hx=> ?_,λb o e n hx=> ?_,λb o e hx=> ?_,λb xs e=>tups b xs (I.base.tups b xs e),λb o xs e=>frzs b o xs (I.base.frzs b o xs e),λb ps e=> ?_⟩, ?_,λx c e=> ?_, ?_,λx c e=> ?_,λp hp=> ?_,hok,I.len⟩
 .exact keep b o (neL b o e) hb (neC b o e hx) (I.base.keep b o e n hb hx) (I.base.free b o e n hx)
 .obtain⟨sl,e1⟩:=I.base.slot b o e n hb hx
  obtain⟨sl',e2⟩:=slot b _ (neL b o e) hb (neC b o e hx) e1 (I.base.free b o e n hx)
  exact⟨sl',e2⟩
 .obtain⟨o',e1⟩:=I.base.there b o e hx
  exact free b o' (neC b o e hx) e1 (I.base.free b o e n hx)
 .obtain⟨o',e1⟩:=I.base.there b o e hx
  exact there b o' (neC b o e hx) e1
 .obtain⟨m1,e1⟩:=I.base.tbls b ps e
  obtain⟨m2,e2⟩:=tbls b _ e1
  exact⟨m1++m2,by rw[e2,Array.append_assoc]⟩
 .obtain⟨m,hn,hl⟩:=I.loc
  refine⟨m,ns m hn,λi x v e1 e2 e3=> ?_⟩
  obtain⟨u,r,l⟩:=hl i x v e1 e2 e3
  refine⟨u,r, ?_⟩
  rcases l with l|⟨k,c,e,z⟩
  .exact .inl l
  .exact .inr ⟨k,c,e,cellK x c e _ z⟩
 .obtain⟨v,z⟩:=I.cell x c e
  exact⟨v,cellK x c e v z⟩
 .obtain⟨m,⟨o,_,_,ho,_⟩,_⟩:=I.loc
  exact free _ o (λz=>(hch _ z).2.1 rfl) ho I.free
 .obtain⟨v,o,ho,hd⟩:=I.cell x c e
  exact free c o (λz=>(hch c z).2.2.1 x c e rfl) ho (I.freeC x c e)
 .obtain⟨e,n,ne,nf,d⟩:=I.pin p hp
  have nch:p.1∉ch:=λz=>(hch p.1 z).2.2.2 p hp rfl
  exact⟨keep p.1 p.2 ne nf nch e n,free p.1 p.2 nch e n,ne,nf,d⟩
def Inv.un{t':Nat}(I:Inv X qx σ H s)(u:Un X.fs [] H H' s.heap h')(hok:HOk X.prog X.w H' h'):Inv X qx σ H' {s with heap:=h',toks:=t'}:=by
 obtain⟨m,⟨o,es,ep,ho,r⟩,_⟩:=id I.loc
 obtain⟨sl,hL⟩:=u.any ho I.free (by simp)
 exact I.step (g':=s.gens) (d':=s.drawn) (ch:=[]) (λ_ z=>nomatch z) (λb o _ hb _ e n=>u.keep b o e n hb (by simp)) (λb o _ hb _ e n=>u.slot b o e n hb (by simp)) (λb o _ e n=>u.free b o e n (by simp)) (λb o _ e=>u.there b o e (by simp)) u.tups u.frzs u.tbls (λm' hm=>by
  obtain⟨o',es',ep',ho',r'⟩:=hm
  rw[ho] at ho';cases ho'
  exact⟨_,es',ep',hL,r'⟩) hok I.bare
def Inv.call{g':Array GenState}{t':Nat}{d':Drawn}{ch:List Addr}(I:Inv X qx σ H s)(u:Un (frs X.stack) ch H H' s.heap h')(hok:HOk X.prog X.w H' h')(hg:cA g')
 (hch: ∀b∈ch,(b∈X.ex\/X.s₀.heap.objs.size<=b)/\b≠X.env.locals/\(∀x c,X.env.cells.lookup x=some c->c≠b)/\∀p∈X.pn++qx,p.1≠b):
 Inv X qx σ H' {s with heap:=h',gens:=g',drawn:=d',toks:=t'}:=by
 obtain⟨m,⟨o,es,ep,ho,r⟩,_⟩:=id I.loc
 obtain⟨sl,hL⟩:=u.any ho I.free λz=>(hch _ z).2.1 rfl
 exact I.step (ch:=ch) hch (λb o hL hb hc e n=>u.keep b o e n (λz=>(l6.mp (I.stkSub b z)).elim hL hb) hc) (λb o _ _ hc e n=>u.any e n hc) (λb o hc e n=>u.free b o e n hc) (λb o hc e=>u.there b o e hc) u.tups u.frzs u.tbls (λm' hm=>by
  obtain⟨o',es',ep',ho',r'⟩:=hm
  rw[ho] at ho';cases ho'
  exact⟨_,es',ep',hL,r'⟩) hok hg
def Inv.turned{t':Nat}{it:Addr}(I:Inv X qx σ H s)(k: ∀b o,b≠it->s.heap.get? b=some o->h'.get? b=some o)(hn:H it=none)(hL:it≠X.env.locals)
 (h1:it∈X.ex\/X.s₀.heap.objs.size<=it) (h2: ∀x c,X.env.cells.lookup x=some c->c≠it) (h3: ∀p∈X.pn++qx,p.1≠it):Inv X qx σ H {s with heap:=h',toks:=t'}:=by
 have nit: ∀b u,H b=some u->b≠it:=λb u e z=>by rw[z,hn] at e;cases e
 refine I.step (g':=s.gens) (d':=s.drawn) (ch:=[it]) (λb hb=> ?_) (λb o _ _ hc e _=>k b o (λz=>hc (by simp[z])) e) (λb o _ _ hc e _=>⟨o.slots,k b o (λz=>hc (by simp[z])) e⟩) (λ_ _ _ _ n=>n)
  (λb o hc e=>⟨o,k b o (λz=>hc (by simp[z])) e⟩) (λ_ _ e=>e) (λ_ _ _ e=>e) (λb ps e=>⟨#[],by rw[e];simp⟩) (λm hm=> ?_) (λb u e=> ?_) I.bare
 .have e:b=it:=by simpa using hb
  subst e
  exact⟨h1,hL,h2,h3⟩
 .obtain⟨o,es,ep,ho,r⟩:=hm
  exact⟨o,es,ep,k _ o (Ne.symm hL) ho,r⟩
 .refine(I.hok b u e).stay (λc v hc q=>k c v ?_ q) (λ_ q=>q) λ_ _ q=>q
  rcases hc with z|z
  .rw[z];exact nit b u e
  .exact nit c _ z
def Inv.tok(I:Inv X qx σ H s)(t:Nat):Inv X qx σ H {s with toks:=t}:=I.un (h':=s.heap) (t':=t) Un.refl I.hok
def Inv.kept{t':Nat}(I:Inv X qx σ H s)(k: ∀b u,s.heap.get? b=some u->h'.get? b=some u):Inv X qx σ H {s with heap:=h',toks:=t'}:=I.un (Un.kept k) (I.hok.kept k)
def Inv.laid{a:Addr}{o:HO}{t':Nat}(I:Inv X qx σ H s)(k: ∀b u,s.heap.get? b=some u->h'.get? b=some u)(hp:s.heap.objs.size<=a)(new:K7 X.prog X.w (upd H a o) h' a o):
 Inv X qx σ (upd H a o) {s with heap:=h',toks:=t'}:=I.un (Un.laid k hp (I.hok.fresh hp)) (I.hok.laid k hp new)
def Inv.write{x e:Addr}{o:HO}{t':Nat}(I:Inv X qx σ H s)(mu:Mut (H x))(he:e=x\/H e=some (.own x))(k: ∀b u,b≠e->s.heap.get? b=some u->h'.get? b=some u)(heo: ∃u,h'.get? e=some u)
 (new:K7 X.prog X.w (upd H x o) h' x o):Inv X qx σ (upd H x o) {s with heap:=h',toks:=t'}:=I.un (Un.write mu he k heo) (I.hok.write mu he k heo new)
def Inv.pins_of{pins':List (Addr×bE)}(I:Inv X qx σ H s)(h: ∀p∈pins',s.heap.get? p.1=some p.2/\H p.1=none/\p.1≠X.env.locals/\p.1∉X.fs/\∀v,p.2.data≠ .cell v):Inv X pins' σ H s:=
 ⟨I.ok,I.os,I.bare,I.base,I.loc,I.cell,I.free,I.freeC,λp hp=>(i9.mp hp).elim (λz=>I.pin p (i7 _ z)) (h p),I.hok,I.len⟩
def z6p{N:List Str}(hN:N.Nodup){i j:Nat}{x:Str}(a:N[i]? =some x)(b:N[j]? =some x):i=j:=by
 obtain⟨h1,e1⟩:=List.getElem?_eq_some_iff.mp a
 obtain⟨h2,e2⟩:=List.getElem?_eq_some_iff.mp b
 exact(List.getElem_inj hN).mp (e1.trans e2.symm)
def z7P{M:fx}{A:bq}{E:bb->bf->Prop}{i:Nat}{x:Str}{v:V}{u:bb}{Q:Unit->bf->Prop}(I:Inv X qx σ H s)(hN:X.N.Nodup)(hi:X.N[i]? =some x)(hx:Loc X.env.scope x)(r:RelV v u)
 (h: ∀s',Inv X qx (σ.set i (some v)) H s'->(∃a,Heap.SameBut a s.heap s'.heap/\(a=X.env.locals\/X.env.cells.lookup x=some a))->Q () s') (hf:X.fn x=true\/X.env.scope.names.lookup x=some .local:=by first|exact .inl rfl|exact .inr rfl|assumption):bg M A (fm X.env x u) Q E s:=by
 obtain⟨m,hn,hl⟩:=id I.loc
 have hcls:(X.env.scope.kind== .class||(X.env.scope.kind== .module&&X.env.locals !=X.env.globals))=false:=by rw[I.ok.kind];rfl
 have hiσ:i<σ.length:=by rw[I.len];exact(List.getElem?_eq_some_iff.mp hi).1
 have cne:=I.cne
 have tracked: ∀{a:Addr} {h':Heap},(∃o,s.heap.get? a=some o/\H a=none)->Heap.SameBut a s.heap h'->HOk X.prog X.w H h':=λ{a h'} ha hs b ob e=>by
  obtain⟨_,_,hfree⟩:=ha
  refine(I.hok b ob e).stay (λc w' hc q=>(hs.2 c ?_).trans q) (λ_ q=>q) λ_ _ q=>q
  rintro rfl
  rcases hc with rfl|hc
  .rw[hfree] at e;cases e
  .rw[hfree] at hc;cases hc
 rcases hx with hk|hk
 .refine wpAny_storeName_local hk hn (λh' hn' hs=> ?_) hcls
  obtain⟨oL,_,_,hoL,_⟩:=id hn
  refine h _ ⟨I.ok,I.os,I.bare,⟨λb o e n hb hx=> ?_,λb o e n hb hx=> ?_,I.base.free,λb o e hx=> ?_,I.base.tups,I.base.frzs,I.base.tbls⟩,⟨_,hn',λj y v' e1 e2 e3=> ?_⟩,λy c e=> ?_,I.free,I.freeC,λp hp=> ?_,tracked ⟨oL,hoL,I.free⟩ hs,by simpa using I.len⟩ ⟨_,hs, .inl rfl⟩
  .exact(hs.2 b (B1 (t7 (Heap.lt_size e) I.ok.above))).trans (I.base.keep b o e n hb hx)
  .obtain⟨sl,e1⟩:=I.base.slot b o e n hb hx
   exact⟨sl,(hs.2 b (B1 (t7 (Heap.lt_size e) I.ok.above))).trans e1⟩
  .obtain⟨o',e1⟩:=I.base.there b o e hx
   exact⟨o',(hs.2 b (B1 (t7 (Heap.lt_size e) I.ok.above))).trans e1⟩
  .by_cases hj:j=i
   .subst hj
    rw[hi] at e1;cases e1
    rw[List.getElem?_set_self hiσ] at e2
    cases e2
    exact⟨u,r, .inl ⟨hk,by simp⟩⟩
   .rw[List.getElem?_set_ne (Ne.symm hj)] at e2
    obtain⟨u',r',q⟩:=hl j y v' e1 e2 e3
    refine⟨u',r', ?_⟩
    rcases q with⟨k,e⟩|⟨k,c,e,z⟩
    .refine .inl ⟨k, ?_⟩
     have:y≠x:=λe=>hj (z6p hN e1 (e▸hi))
     simp[this,e]
    .exact .inr ⟨k,c,e,z.sameBut hs (cne y c e)⟩
  .obtain⟨w',z⟩:=I.cell y c e
   exact⟨w',z.sameBut hs (cne y c e)⟩
  .obtain⟨e,n,ne,nf,d⟩:=I.pin p hp
   exact⟨(hs.2 p.1 ne).trans e,n,ne,nf,d⟩
 .have hfn:X.fn x=true:=by
   rcases hf with z|z
   .exact z
   .rw[z] at hk;cases hk
  obtain⟨c,hc⟩:=I.ok.has x (.inl hk)
  obtain⟨w',z⟩:=I.cell x c hc
  refine wpAny_storeName_cell I.ok.kind hk hc z (λh' hc' hs=> ?_)
  obtain⟨oc,hoc,hocd⟩:=id z
  refine h {s with heap:=h'} ⟨I.ok,I.os,I.bare,⟨λb o e n hb hx=> ?_,λb o e n hb hx=> ?_,I.base.free,λb o e hx=> ?_,I.base.tups,I.base.frzs,I.base.tbls⟩,⟨m,hn.sameBut hs (Ne.symm (cne x c hc)),λj y v' e1 e2 e3=> ?_⟩,λy c' e=> ?_,I.free,I.freeC,λp hp=> ?_,tracked ⟨oc,hoc,I.freeC x c hc⟩ hs,by simpa using I.len⟩ ⟨c,hs, .inr hc⟩
  .exact(hs.2 b (B1 (t7 (Heap.lt_size e) (I.ok.cab x c hfn hc)))).trans (I.base.keep b o e n hb hx)
  .obtain⟨sl,e1⟩:=I.base.slot b o e n hb hx
   exact⟨sl,(hs.2 b (B1 (t7 (Heap.lt_size e) (I.ok.cab x c hfn hc)))).trans e1⟩
  .obtain⟨o',e1⟩:=I.base.there b o e hx
   exact⟨o',(hs.2 b (B1 (t7 (Heap.lt_size e) (I.ok.cab x c hfn hc)))).trans e1⟩
  .by_cases hj:j=i
   .subst hj
    rw[hi] at e1;cases e1
    rw[List.getElem?_set_self hiσ] at e2
    cases e2
    exact⟨u,r, .inr ⟨.inl hk,c,hc,hc'⟩⟩
   .rw[List.getElem?_set_ne (Ne.symm hj)] at e2
    obtain⟨u',r',q⟩:=hl j y v' e1 e2 e3
    refine⟨u',r', ?_⟩
    rcases q with q|⟨k,c',e,z'⟩
    .exact .inl q
    .refine .inr ⟨k,c',e,z'.sameBut hs ?_⟩
     rintro rfl
     exact hj (z6p hN e1 (I.ok.inj _ _ _ e hc▸hi))
  .by_cases hcc:c'=c
   .subst hcc;exact⟨_,hc'⟩
   .obtain⟨w2,z2⟩:=I.cell y c' e
    exact⟨w2,z2.sameBut hs hcc⟩
  .obtain⟨e,n,ne,nf,d⟩:=I.pin p hp
   refine⟨(hs.2 p.1 ?_).trans e,n,ne,nf,d⟩
   intro q
   rw[q,hoc] at e
   have q':oc=p.2:=Option.some.inj e
   exact d w' (by rw[<-q'];exact hocd)
def z2y{M:fx}{A:bq}{E:bb->bf->Prop}{i:Nat}{x:Str}{v:V}{u:bb}{Q:Unit->bf->Prop}(I:Inv X qx σ H s)(hN:X.N.Nodup)(hi:X.N[i]? =some x)(hx:Loc X.env.scope x)(r:RelV v u)
 (h: ∀s',Inv X qx (σ.set i (some v)) H s'->Q () s') (hf:X.fn x=true\/X.env.scope.names.lookup x=some .local:=by first|exact .inl rfl|exact .inr rfl|assumption):bg M A (fm X.env x u) Q E s:=
 z7P I hN hi hx r (λs' I' _=>h s' I') hf
def Inv.call'{s':bf}{ch:List Addr}(I:Inv X qx σ H s)(ho:s'.os=s.os)(u:Un (frs X.stack) ch H H' s.heap s'.heap)(hok:HOk X.prog X.w H' s'.heap)(hg:cA s'.gens)
 (hch: ∀b∈ch,(b∈X.ex\/X.s₀.heap.objs.size<=b)/\b≠X.env.locals/\(∀x c,X.env.cells.lookup x=some c->c≠b)/\∀p∈X.pn++qx,p.1≠b):Inv X qx σ H' s':=by
 obtain⟨h',g',d',t',o'⟩:=s'
 have e:o'=s.os:=ho
 subst e
 exact I.call (g':=g') (t':=t') (d':=d') u hok hg hch
end
noncomputable abbrev XK:=bb->Option Addr->Hp->Prop
noncomputable abbrev St:=List (Option V)
noncomputable abbrev VK:=V->Hp->Prop
noncomputable abbrev TE:=St->Hp->VK->Prop
noncomputable abbrev TT:=St->Hp->(Bool->Hp->Prop)->Prop
noncomputable abbrev TA:=St->Hp->(List V->Hp->Prop)->Prop
structure Ends where
 nx:St->Hp->Prop
 rt:VK
 bk:St->Hp->Prop:=λ_ _=>False
 ct:St->Hp->Prop:=λ_ _=>False
noncomputable abbrev TS:=Ends->St->Hp->Prop
noncomputable def EP(X:Cx)(qx:List (Addr×bE))(σ:St)(Q:VK)(u:bb)(s':bf):Prop:= ∃v H',Inv X qx σ H' s'/\RelV v u/\Q v H'
noncomputable def TP(X:Cx)(qx:List (Addr×bE))(σ:St)(Q:Bool->Hp->Prop)(b:Bool)(s':bf):Prop:= ∃H',Inv X qx σ H' s'/\Q b H'
noncomputable def AP(X:Cx)(qx:List (Addr×bE))(σ:St)(Q:List V->Hp->Prop)(us:List bb)(s':bf):Prop:= ∃vs H',Inv X qx σ H' s'/\U0 vs us/\Q vs H'
noncomputable def SP(X:Cx)(qx:List (Addr×bE))(D:Ends)(f:Flow)(s':bf):Prop:=
 match f with
 | .next=> ∃σ' H',Inv X qx σ' H' s'/\D.nx σ' H'
 | .brk=> ∃σ' H',Inv X qx σ' H' s'/\D.bk σ' H'
 | .cont=> ∃σ' H',Inv X qx σ' H' s'/\D.ct σ' H'
 | .ret u=> ∃v σ' H',Inv X qx σ' H' s'/\RelV v u/\D.rt v H'
noncomputable def PE(X:Cx)(e:bh)(t:TE):Prop:=
 ∀(qx:List (Addr×bE)) (s:bf) (σ:St) (H:Hp) (Q:VK),Inv X qx σ H s->t σ H Q->bg (bi X.prog X.w) X.A (bF e X.env) (EP X qx σ Q) X.xe s
noncomputable def PT(X:Cx)(e:bh)(t:TT):Prop:=
 ∀(qx:List (Addr×bE)) (s:bf) (σ:St) (H:Hp) (Q:Bool->Hp->Prop),Inv X qx σ H s->t σ H Q->bg (bi X.prog X.w) X.A (fw e X.env (bF e X.env)) (TP X qx σ Q) X.xe s
noncomputable def PW(X:Cx)(e:bh)(t:TT):Prop:=
 ∀(whole:cN bb) (qx:List (Addr×bE)) (s:bf) (σ:St) (H:Hp) (Q:Bool->Hp->Prop),Inv X qx σ H s->t σ H Q->bg (bi X.prog X.w) X.A (fw e X.env whole) (TP X qx σ Q) X.xe s
def PW.pt{X:Cx}{e:bh}{t:TT}(h:PW X e t):PT X e t:=h _
noncomputable def PA(X:Cx)(es:List bh)(t:TA):Prop:=
 ∀(pos:bT) (qx:List (Addr×bE)) (s:bf) (σ:St) (H:Hp) (Q:List V->Hp->Prop),Inv X qx σ H s->t σ H Q->bg (bi X.prog X.w) X.A (spliced (bN pos (bj es X.env))) (AP X qx σ Q) X.xe s
noncomputable def PS(X:Cx)(st:Stmt)(t:TS):Prop:=
 ∀(qx:List (Addr×bE)) (s:bf) (σ:St) (H:Hp) (D:Ends),Inv X qx σ H s->t D σ H->bg (bi X.prog X.w) X.A (exec st X.env) (SP X qx D) X.xe s
noncomputable def PSs(X:Cx)(st:List Stmt)(t:TS):Prop:=
 ∀(qx:List (Addr×bE)) (s:bf) (σ:St) (H:Hp) (D:Ends),Inv X qx σ H s->t D σ H->bg (bi X.prog X.w) X.A (execs st X.env) (SP X qx D) X.xe s
def thn{α:Type}{t:cN α}{Q Q':α->bf->Prop}{M:fx}{A:bq}{E:bb->bf->Prop}{s:bf}(h:bg M A t Q E s)(hQ: ∀a s,Q a s->Q' a s):bg M A t Q' E s:=bA h hQ λ_ _ x=>x
section
variable{X:Cx}
noncomputable def zhz(i:Nat):TE:=λ σ H Q=> ∃v,σ[i]? =some (some v)/\Q v H
noncomputable def tC(v:V):TE:=λ_ H Q=>Q v H
def zeu{i:Nat}{x:Str}{pos:bT}(hN:X.N[i]? =some x)(hv:Vis X.env.scope x)(hd:(x==("__debug__" :Str))=false:=by decide)(hcd:(x==("__classdict__" :Str))=false:=by decide):PE X (.Name x pos) (zhz i):=by
 intro qx s σ H Q I h
 obtain⟨v,e,h⟩:=h
 obtain⟨m,hn,hl⟩:=I.loc
 obtain⟨u,r,l⟩:=hl i x v hN e hv
 have fin:EP X qx σ Q u s:=⟨v,H,I,r,h⟩
 rcases l with⟨hk,hm⟩|⟨hk,c,hc,hcell⟩
 .exact dZ (cR I.ok.kind hk hn hm fin) hd
 .rcases hk with hk|hk
  .exact dZ (de I.ok.kind hk hc hcell fin) hd
  .exact dZ (wpAny_loadName_free I.ok.kind hk hc hcell fin hcd) hd
def Z2{i j pos}:PE X (.Constant (.int i) j pos) (tC (.int i)):=λ_ _ _ H _ I h=>wpAny_Constant_int ⟨.int i,H,I.tok _,⟨_,rfl⟩,h⟩
def z7Q{b j pos}:PE X (.Constant (.bool b) j pos) (tC (.bl b)):=λ_ _ _ H _ I h=>Constant_bool ⟨.bl b,H,I,rfl,h⟩
def z2I{j pos}:PE X (.Constant .none j pos) (tC .non):=λ_ _ _ H _ I h=>Constant_none ⟨.non,H,I,rfl,h⟩
noncomputable def Gl(X:Cx)(x:Str):Prop:=X.env.kindOf x=some .globalImplicit
def z7R{E:bb->bf->Prop}{qx:List (Addr×bE)}{s:bf}{σ:St}{H:Hp}{x:Str}{u:bb}{pos:bT}{Q:bb->bf->Prop}(I:Inv X qx σ H s)(hg:Gl X x)(hm:X.mg x=some u)(h:Q u s)
 (hd:(x==("__debug__" :Str))=false:=by decide):bg (bi X.prog X.w) X.A (bF (.Name x pos) X.env) Q E s:=
 Calls.Name_function_global I.ok.kind hg (Calls.loadGlobal_global (by rw[I.ok.glob];exact I.mod.glob.keeps I.bk) hm h) hd
def z6q{E:bb->bf->Prop}{qx:List (Addr×bE)}{s:bf}{σ:St}{H:Hp}{x:Str}{u:bb}{pos:bT}{Q:bb->bf->Prop}(I:Inv X qx σ H s)(hg:Gl X x)(hm:X.mg x=none)(hv:bG x=some u)(h:Q u s)
 (hn:x≠ "__name__" :=by decide) (hd:(x==("__debug__" :Str))=false:=by decide):bg (bi X.prog X.w) X.A (bF (.Name x pos) X.env) Q E s:=by
 obtain⟨mb,h1,h2⟩:=I.mod.blt
 exact Calls.Name_function_global I.ok.kind hg (Calls.loadGlobal_builtin (by rw[I.ok.glob];exact I.mod.glob.keeps I.bk) hm (by rw[I.ok.blt];exact h1.keeps I.bk) ((h2 x hn).trans hv) h) hd
def zcf{x:Str}{v:V}{u:bb}{pos:bT}(hg:Gl X x)(hm:X.mg x=some u)(r:RelV v u)(hd:(x==("__debug__" :Str))=false:=by decide):PE X (.Name x pos) (tC v):=
 λ_ _ _ H _ I h=>z7R I hg hm ⟨v,H,I,r,h⟩ hd
def zcg{x:Str}{v:V}{u:bb}{pos:bT}(hg:Gl X x)(hm:X.mg x=none)(hv:bG x=some u)(r:RelV v u)(hn:x≠ "__name__" :=by decide)(hd:(x==("__debug__" :Str))=false:=by decide):PE X (.Name x pos) (tC v):=
 λ_ _ _ H _ I h=>z6q I hg hm hv ⟨v,H,I,r,h⟩ hn hd
variable{a b:bh}{ta tb:TE}{pos:bT}
variable{tA tB':TT}{rest:List bh}
noncomputable def zjE(t u:TT):TT:=λ σ H Q=>t σ H λc H1=>if c=true then u σ H1 Q else Q false H1
noncomputable def tOr(t u:TT):TT:=λ σ H Q=>t σ H λc H1=>if c=true then Q true H1 else u σ H1 Q
noncomputable def zjF(t:TT):TT:=λ σ H Q=>t σ H λc H1=>Q (!c) H1
def zch(ha:PT X a tA):PW X (.BoolOp .And [a] pos) tA:=by
 intro wh qx s σ H Q I h
 refine isTrue_and (thn (ha qx s σ H Q I h) λc s1 e=> ?_)
 cases c with
 |true=>exact isTrue_and_nil e
 |false=>exact e
def zev(ha:PT X a tA):PW X (.BoolOp .Or [a] pos) tA:=by
 intro wh qx s σ H Q I h
 refine isTrue_or (thn (ha qx s σ H Q I h) λc s1 e=> ?_)
 cases c with
 |false=>exact isTrue_or_nil e
 |true=>exact e
def zew(ha:PT X a tA)(hb:PW X (.BoolOp .And (b::rest) pos) tB'):PW X (.BoolOp .And (a::b::rest) pos) (zjE tA tB'):=by
 intro wh qx s σ H Q I h
 refine isTrue_and (thn (ha qx s σ H _ I h) ?_)
 rintro c s1 ⟨H1,I1,q1⟩
 cases c with
 |true=>exact hb wh qx s1 σ H1 Q I1 q1
 |false=>exact⟨H1,I1,q1⟩
def zhA(ha:PT X a tA)(hb:PW X (.BoolOp .Or (b::rest) pos) tB'):PW X (.BoolOp .Or (a::b::rest) pos) (tOr tA tB'):=by
 intro wh qx s σ H Q I h
 refine isTrue_or (thn (ha qx s σ H _ I h) ?_)
 rintro c s1 ⟨H1,I1,q1⟩
 cases c with
 |true=>exact⟨H1,I1,q1⟩
 |false=>exact hb wh qx s1 σ H1 Q I1 q1
def zex(ha:PT X a tA):PT X (.UnaryOp .Not a pos) (zjF tA):=by
 intro qx s σ H Q I h
 exact isTrue_not (ha qx s σ H (λc H1=>Q (!c) H1) I h)
noncomputable def zhB(ta tb:TE):TE:=λ σ H Q=>ta σ H λx H1=> ∃c,x= .bl c/\if c=true then tb σ H1 Q else Q (.bl false) H1
def zey{op}{t:TE}(h:PE X a t):PE X (.BoolOp op [a] pos) t:=λqx s σ H Q I hw=>BoolOp_one (h qx s σ H Q I hw)
def zez(ha:PE X a ta)(hb:PE X (.BoolOp .And (b::rest) pos) tb):PE X (.BoolOp .And (a::b::rest) pos) (zhB ta tb):=by
 intro qx s σ H Q I h
 refine BoolOp_and (thn (ha qx s σ H _ I h) ?_)
 rintro v s1 ⟨x,H1,I1,r1,q1⟩
 obtain⟨c,rfl,q1⟩:=q1
 cases r1
 refine cj ?_
 cases c with
 |true=>exact hb qx s1 σ H1 Q I1 q1
 |false=>exact⟨.bl false,H1,I1,rfl,q1⟩
end
noncomputable def SqL(K:W.Frag)(H:Hp)(a:Addr)(xs:List V):Prop:=
 Rd H a (.lst xs)\/
  ∃(o:bE) (its:Array bb) (n:Nat),K.lookup a=some o/\o.cls= .type "list" /\o.dict=none/\o.data= .seq its n/\its.size<=qh/\U0 xs its.toList
noncomputable def SqT(K:W.Frag)(H:Hp)(a:Addr)(xs:List V):Prop:=
 Rd H a (.tup xs)\/
  ∃(o:bE) (its:Array bb) (n:Nat),K.lookup a=some o/\o.cls= .type "tuple" /\o.data= .seq its n/\its.size<=qh/\U0 xs its.toList
noncomputable def zjG:bb->Option V
 | .none=>some .non
 | .bool b=>some (.bl b)
 | .int i _=>some (.int i)
 | .str x _=>some (.str x)
 | .bytes b _=>some (.byt b)
 | .float b _=>some (.flt b)
 | .ref a=>some (.ref a)
 | .type n=>some (.ty n)
 |_=>none
def RelV.abs{x:V}{u:bb}(r:RelV x u):zjG u=some x:=by
 cases x with
 |non=>cases r;rfl
 |bl _=>cases r;rfl
 |int _=>obtain⟨t,rfl⟩:=r;rfl
 |str _=>obtain⟨t,rfl⟩:=r;rfl
 |byt _=>obtain⟨t,rfl⟩:=r;rfl
 |flt _=>obtain⟨t,rfl⟩:=r;rfl
 |ref _=>cases r;rfl
 |ty _=>cases r;rfl
def RelV.inj{x y:V}{u:bb}(r:RelV x u)(q:RelV y u):x=y:=Option.some.inj (r.abs.symm.trans q.abs)
theorem U0.inj: ∀{xs ys:List V} {us:List bb},U0 xs us->U0 ys us->xs=ys
 |_,_,_, .nil, .nil=>rfl
 |_,_,_, .cons r t, .cons r' t'=>by rw[r.inj r',U0.inj t t']
section
variable{X:Cx}{qx:List (Addr×bE)}{σ:St}{H:Hp}{s:bf}{a:Addr}{xs ys:List V}
def SqL.of{K:W.Frag}(h:H a=some (.lst xs)):SqL K H a xs:= .inl (.inl h)
def SqT.of{K:W.Frag}(h:H a=some (.tup xs)):SqT K H a xs:= .inl (.inl h)
def Inv.list(I:Inv X qx σ H s)(h:SqL X.K H a xs): ∃its:List bb,U0 xs its/\PlainL s.heap a its.toArray/\xs.length<=qh:=by
 rcases h with h|⟨o,its,n,hk,hc,hd,hs,hz,r⟩
 .obtain⟨z,its,n,r,e⟩:=h.ok I.hok
  exact⟨its,r,⟨_,n,e,rfl,rfl,rfl⟩,z⟩
 .refine⟨its.toList,r,⟨o,n,I.kIn a o hk,hc,hd,by simpa using hs⟩, ?_⟩
  have e:=r.length
  erw[Array.length_toList] at e
  lia
def Inv.tuple(I:Inv X qx σ H s)(h:SqT X.K H a xs): ∃its:List bb,U0 xs its/\fy s.heap a its.toArray/\xs.length<=qh:=by
 rcases h with h|⟨o,its,n,hk,hc,hs,hz,r⟩
 .obtain⟨z,its,r,p⟩:=h.ok I.hok
  exact⟨its,r,p,z⟩
 .refine⟨its.toList,r,⟨o,I.kIn a o hk,hc,n,by simpa using hs⟩, ?_⟩
  have e:=r.length
  erw[Array.length_toList] at e
  lia
def Inv.list_inj(I:Inv X qx σ H s)(h:SqL X.K H a xs)(h':SqL X.K H a ys):xs=ys:=by
 obtain⟨its,r,⟨o,n,e,_,_,d⟩,_⟩:=I.list h
 obtain⟨its',r',⟨o',n',e',_,_,d'⟩,_⟩:=I.list h'
 rw[e] at e';cases e'
 rw[d] at d'
 injection d' with d1 _
 have:its=its':=by simpa using congrArg Array.toList d1
 subst this
 exact r.inj r'
def Inv.tuple_inj(I:Inv X qx σ H s)(h:SqT X.K H a xs)(h':SqT X.K H a ys):xs=ys:=by
 obtain⟨its,r,⟨o,e,_,n,d⟩,_⟩:=I.tuple h
 obtain⟨its',r',⟨o',e',_,n',d'⟩,_⟩:=I.tuple h'
 rw[e] at e';cases e'
 rw[d] at d'
 injection d' with d1 _
 have:its=its':=by simpa using congrArg Array.toList d1
 subst this
 exact r.inj r'
end
noncomputable abbrev Cx.wish(X:Cx)(E:bb->bf->Prop):Cx:={X with xe:=E}
noncomputable abbrev Cx.nox(X:Cx):Cx:=X.wish λ_ _=>False
def Cx.Ok.wish{X:Cx}(ok:X.Ok)(E:bb->bf->Prop):(X.wish E).Ok:=
 ⟨ok.mod,ok.kind,ok.glob,ok.blt,ok.above,ok.inj,ok.has,ok.cab,ok.hd,ok.frames,ok.stk,ok.exf,ok.bs,ok.bsz,ok.noex,ok.exfs,ok.funs,ok.frf⟩
def Cx.Ok.unwish{X:Cx}{E:bb->bf->Prop}(ok:(X.wish E).Ok):X.Ok:=
 ⟨ok.mod,ok.kind,ok.glob,ok.blt,ok.above,ok.inj,ok.has,ok.cab,ok.hd,ok.frames,ok.stk,ok.exf,ok.bs,ok.bsz,ok.noex,ok.exfs,ok.funs,ok.frf⟩
section
variable{X:Cx}{qx:List (Addr×bE)}{σ:St}{H:Hp}{s:bf}{E:bb->bf->Prop}
def Inv.wish(I:Inv X qx σ H s)(E:bb->bf->Prop):Inv (X.wish E) qx σ H s:=⟨I.ok.wish E,I.os,I.bare,I.base,I.loc,I.cell,I.free,I.freeC,I.pin,I.hok,I.len⟩
def Inv.unwish(I:Inv (X.wish E) qx σ H s):Inv X qx σ H s:=⟨I.ok.unwish,I.os,I.bare,I.base,I.loc,I.cell,I.free,I.freeC,I.pin,I.hok,I.len⟩
def SP.unwish{D:Ends}{f:Flow}{s':bf}(h:SP (X.wish E) qx D f s'):SP X qx D f s':=by
 cases f with
 |next=>obtain⟨σ',H',I,q⟩:=h;exact⟨σ',H',I.unwish,q⟩
 |brk=>obtain⟨σ',H',I,q⟩:=h;exact⟨σ',H',I.unwish,q⟩
 |cont=>obtain⟨σ',H',I,q⟩:=h;exact⟨σ',H',I.unwish,q⟩
 |ret u=>obtain⟨v,σ',H',I,r,q⟩:=h;exact⟨v,σ',H',I.unwish,r,q⟩
def PSs.nox{st:List Stmt}{t:TS}(h:PSs X.nox st t):PSs X st t:=λqx s σ H D I hw=>
 bA (h qx s σ H D (I.wish _) hw) (λ_ _ q=>q.unwish) λ_ _ z=>False.elim z
variable{st:Stmt}{rest:List Stmt}{t u:TS}{e:bh}{te:TE}{pos:bT}
noncomputable def zhC:TS:=λD σ H=>D.nx σ H
noncomputable def zjH(t u:TS):TS:=λD σ H=>t {D with nx:=u D} σ H
def zci:PSs X [] zhC:=λ_ _ σ H _ I h=>cq ⟨σ,H,I,h⟩
def z9T(h1:PS X st t)(h2:PSs X rest u):PSs X (st::rest) (zjH t u):=by
 intro qx s σ H D I h
 refine dM (thn (h1 qx s σ H {D with nx:=u D} I h) λf s1 q=> ?_)
 cases f with
 |next=>
  obtain⟨σ',H',I',q⟩:=q
  exact h2 qx s1 σ' H' D I' q
 |ret v=>exact q
 |brk=>exact q
 |cont=>exact q
def zcj(h1:PS X st t):PSs X [st] t:=by
 intro qx s σ H D I h
 refine dM (thn (h1 qx s σ H D I h) λf s1 q=> ?_)
 cases f with
 |next=>exact cq q
 |ret v=>exact q
 |brk=>exact q
 |cont=>exact q
def Inv.quiet{qx:List (Addr×bE)}{σ:St}{H:Hp}{s:bf}(I:Inv X qx σ H s):interactive X.env=false:=by simp[interactive,I.ok.kind]
noncomputable def zhD(te:TE):TS:=λD σ H=>te σ H λ_ H1=>D.nx σ H1
def zck(he:PE X e te)(hs:ca e none pos.line X.env=pure false:=by rfl):PS X (.Expr e pos) (zhD te):=by
 intro qx s σ H D I h
 exact wpAny_Expr_any (thn (he qx s σ H _ I h) λv s1 ⟨x,H1,I1,r1,q1⟩=>⟨σ,H1,I1,q1⟩) I.quiet hs
noncomputable def zjI(te:TE):TS:=λD σ H=>te σ H D.rt
def zeA(he:PE X e te):PS X (.Return (some e) pos) (zjI te):=by
 intro qx s σ H D I h
 exact wpAny_Return_some (thn (he qx s σ H _ I h) λv s1 ⟨x,H1,I1,r1,q1⟩=>⟨x,σ,H1,I1,r1,q1⟩)
noncomputable def zjJ(c:TT)(t u:TS):TS:=λD σ H=>c σ H λb H1=>if b=true then t D σ H1 else u D σ H1
def zhE{c:bh}{a b:List Stmt}{tc:TT}(hc:PT X c tc)(ha:PSs X a t)(hb:PSs X b u):PS X (.If c a b pos) (zjJ tc t u):=by
 intro qx s σ H D I h
 refine wpAny_If (thn (hc qx s σ H _ I h) ?_)
 rintro d s1 ⟨H1,I1,q1⟩
 cases d with
 |true=>exact ha qx s1 σ H1 D I1 q1
 |false=>exact hb qx s1 σ H1 D I1 q1
end
noncomputable abbrev TG:=V->St->Hp->(St->Hp->Prop)->Prop
noncomputable abbrev TGs:=List V->St->Hp->(St->Hp->Prop)->Prop
noncomputable def PG(X:Cx)(qv:bh)(t:TG):Prop:=
 ∀(qx:List (Addr×bE)) (s:bf) (σ:St) (H:Hp) (v:V) (u:bb) (Q:St->Hp->Prop),Inv X qx σ H s->RelV v u->t v σ H Q->
  bg (bi X.prog X.w) X.A (cr qv X.env u) (λ_ s'=> ∃σ' H',Inv X qx σ' H' s'/\Q σ' H') X.xe s
noncomputable def PGs(X:Cx)(ts:List bh)(t:TGs):Prop:=
 ∀(qx:List (Addr×bE)) (s:bf) (σ:St) (H:Hp) (vs:List V) (us:List bb) (Q:St->Hp->Prop),Inv X qx σ H s->U0 vs us->t vs σ H Q->
  bg (bi X.prog X.w) X.A (assignInOrder ((bx ts X.env).map (·.2)) us) (λ_ s'=> ∃σ' H',Inv X qx σ' H' s'/\Q σ' H') X.xe s
noncomputable abbrev zhF:=V->V->V->Hp->(Hp->Prop)->Prop
noncomputable def zjl(X:Cx)(t:zhF):Prop:=
 ∀(qx:List (Addr×bE)) (s:bf) (σ:St) (H:Hp) (o i v:V) (ov iv u:bb) (Q:Hp->Prop),Inv X qx σ H s->RelV o ov->RelV i iv->RelV v u->t o i v H Q->
  bg (bi X.prog X.w) X.A (setItem ov iv u) (λ_ s'=> ∃H',Inv X qx σ H' s'/\Q H') X.xe s
noncomputable abbrev TIp:=V->V->Hp->VK->Prop
noncomputable def PIp(X:Cx)(op:fb)(t:TIp):Prop:=
 ∀(qx:List (Addr×bE)) (s:bf) (σ:St) (H:Hp) (x y:V) (v u:bb) (Q:VK),Inv X qx σ H s->RelV x v->RelV y u->t x y H Q->
  bg (bi X.prog X.w) X.A (inplaceOp op v u) (EP X qx σ Q) X.xe s
section
variable{X:Cx}{pos:bT}
noncomputable def z9U(i:Nat):TG:=λv σ H Q=>Q (σ.set i (some v)) H
def U8{i:Nat}{x:Str}(hN:X.N.Nodup)(hi:X.N[i]? =some x)(hx:Loc X.env.scope x)(hf:X.fn x=true\/X.env.scope.names.lookup x=some .local:=by first|exact .inl rfl|exact .inr rfl|assumption):PG X (.Name x pos) (z9U i):=by
 intro qx s σ H v u Q I r h
 exact dz (z2y I hN hi hx r (λs' I'=>⟨_,H,I',h⟩) hf)
noncomputable def zjK:TGs:=λvs σ H Q=>vs=[]/\Q σ H
noncomputable def zhG(t:TG)(u:TGs):TGs:=λvs σ H Q=> ∃v r,vs=v::r/\t v σ H λ σ' H'=>u r σ' H' Q
def zcl:PGs X [] zjK:=by
 intro qx s σ H vs us Q I r h
 obtain⟨e,h⟩:=h
 subst e
 cases r
 exact assignInOrder_nil ⟨σ,H,I,h⟩
def z9V{e:bh}{es:List bh}{t:TG}{u:TGs}(h1:PG X e t)(h2:PGs X es u)
 (hs:(bx (e::es) X.env).map (·.2)=cr e X.env::(bx es X.env).map (·.2):=by rfl):PGs X (e::es) (zhG t u):=by
 intro qx s σ H vs us Q I r h
 obtain⟨v,vr,e1,h⟩:=h
 subst e1
 cases r with
 |cons r rr=>
  rw[hs]
  refine assignInOrder_cons (thn (h1 qx s σ H _ _ _ I r h) ?_)
  rintro _ s1 ⟨σ1,H1,I1,q1⟩
  exact h2 qx s1 σ1 H1 _ _ Q I1 rr q1
noncomputable def zjL(K:W.Frag)(n:Nat)(t:TGs):TG:=λv σ H Q=> ∃a xs,v= .ref a/\SqT K H a xs/\xs.length=n/\t xs σ H Q
def zeB{es:List bh}{k:Nat}{t:TGs}{n:Nat}(hc:X.calm=true)(h:PGs X es t)
 (hn:(bx es X.env).length=n:=by rfl) (hst:(bx es X.env).findIdx? (·.1)=none:=by rfl):PG X (.Tuple es k pos) (zjL X.K n t):=by
 intro qx s σ H v u Q I r hw
 obtain⟨a,xs,e1,hq,hl,hw⟩:=hw
 subst e1
 cases r
 obtain⟨its,rv,ht,hz⟩:=I.tuple hq
 refine assign_Tuple_tuple (I.ok.hd hc) ht (by simp[hn,<-hl,rv.length]) hst λh' hx=> ?_
 have I1:Inv X qx σ H {s with heap:=h'}:=I.kept (t':=s.toks) λb o e=>hx b o (B1 (Heap.lt_size e)) e
 exact h qx _ σ H xs _ Q I1 (by simpa using rv) hw
noncomputable def zjm(to ti:TE)(t:zhF):TG:=λv σ H Q=>to σ H λo H1=>ti σ H1 λi H2=>t o i v H2 λH3=>Q σ H3
def zbg{o i:bh}{to ti:TE}{t:zhF}(ho:PE X o to)(hi:PE X i ti)(hs:zjl X t)
 (ha: ∀v,cr (.Subscript o i pos) X.env v=(do
  let ov<-dU [v] (bF o X.env)
  let iv<-dU [v,ov] (bF i X.env)
  standAt pos
  dU [v,ov,iv] (setItem ov iv v)
  release [v,ov,iv] []):=by intro _;rfl):PG X (.Subscript o i pos) (zjm to ti t):=by
 intro qx s σ H v u Q I r h
 rw[ha]
 refine ba (br (thn (ho qx s σ H _ I h) ?_))
 rintro ov s1 ⟨x,H1,I1,r1,q1⟩
 refine ba (br (thn (hi qx s1 σ H1 _ I1 q1) ?_))
 rintro iv s2 ⟨y,H2,I2,r2,q2⟩
 refine ba (cn (ba (br (thn (hs qx s2 σ H2 x y v ov iv u _ I2 r1 r2 r q2) ?_))))
 rintro _ s3 ⟨H3,I3,q3⟩
 exact wpAny_release ⟨σ,H3,I3,q3⟩
noncomputable def zhH(te:TE)(g:TG):TS:=λD σ H=>te σ H λx H1=>g x σ H1 D.nx
def zbh{tg e:bh}{te:TE}{g:TG}(he:PE X e te)(hg:PG X tg g)(hs:dg [tg] e pos.line X.env=pure false:=by rfl)(hw:dh [tg] e X.env=pure none:=by rfl)
 (h1:(bx [tg] X.env).map (·.2)=[cr tg X.env]:=by rfl):PS X (.Assign [tg] e pos) (zhH te g):=by
 intro qx s σ H D I h
 refine wpAny_Assign_stores (thn (he qx s σ H _ I h) λv s1 ⟨x,H1,I1,r1,q1⟩=> ?_) hs hw
 rw[h1]
 exact thn (hg qx s1 σ H1 x v _ I1 r1 q1) λ_ s2 q=>q
def z2c{i:Nat}{x:Str}{e:bh}{te:TE}{pos':bT}(hN:X.N.Nodup)(hi:X.N[i]? =some x)(hx:Loc X.env.scope x)(he:PE X e te)(hs:ca e (some (.Name x pos')) pos.line X.env=pure false:=by rfl)(hf:X.fn x=true\/X.env.scope.names.lookup x=some .local:=by first|exact .inl rfl|exact .inr rfl|assumption):
 PS X (.Assign [.Name x pos'] e pos) (zhH te (z9U i)):=by
 intro qx s σ H D I h
 refine wpAny_Assign_Name (thn (he qx s σ H _ I h) λv s1 ⟨y,H1,I1,r1,q1⟩=> ?_) hs
 exact z2y I1 hN hi hx r1 (λs2 I2=>⟨_,H1,I2,q1⟩) hf
noncomputable def zjM(i:Nat)(te:TE)(ti:TIp):TS:=λD σ H=> ∃x,σ[i]? =some (some x)/\te σ H λy H1=>ti x y H1 λz H2=>D.nx (σ.set i (some z)) H2
def zeC{i:Nat}{x:Str}{e:bh}{te:TE}{op:fb}{ti:TIp}{pos':bT}(hN:X.N.Nodup)(hi:X.N[i]? =some x)(hx:Loc X.env.scope x)(he:PE X e te)(ho:PIp X op ti)(hf:X.fn x=true\/X.env.scope.names.lookup x=some .local:=by first|exact .inl rfl|exact .inr rfl|assumption):
 PS X (.AugAssign (.Name x pos') op e pos) (zjM i te ti):=by
 intro qx s σ H D I h
 obtain⟨v,e1,h⟩:=h
 obtain⟨m,hn,hl⟩:=I.loc
 have vis:Vis X.env.scope x:=by rcases hx with k|k;exact .inl k;exact .inr (.inl k)
 obtain⟨u,r,l⟩:=hl i x v hi e1 vis
 refine wpAny_AugAssign_Name ?_
 have go:bg (bi X.prog X.w) X.A (bF e X.env) (λw s₂=>bg (bi X.prog X.w) X.A (inplaceOp op u w) (λr s₃=>bg (bi X.prog X.w) X.A (fm X.env x r) (λ_=>SP X qx D .next) X.xe s₃) X.xe s₂) X.xe s:=by
  refine thn (he qx s σ H _ I h) ?_
  rintro w s1 ⟨y,H1,I1,r1,q1⟩
  refine thn (ho qx s1 σ H1 v y u w _ I1 r r1 q1) ?_
  rintro z s2 ⟨zv,H2,I2,r2,q2⟩
  exact z2y I2 hN hi hx r2 (λs3 I3=>⟨_,H2,I3,q2⟩) hf
 rcases l with⟨hk,hm⟩|⟨hk,c,hc,hcell⟩
 .exact cR I.ok.kind hk hn hm go
 .rcases hk with hk|hk
  .exact de I.ok.kind hk hc hcell go
  .rcases hx with k|k
   .have:X.env.scope.names.lookup x=some .free:=hk
    rw[k] at this;cases this
   .have:X.env.scope.names.lookup x=some .free:=hk
    rw[k] at this;cases this
noncomputable def ipI(f:Int->Int->Int):TIp:=λx y H Q=> ∃i j,x= .int i/\y= .int j/\Q (.int (f i j)) H
def zeD:PIp X .Add (ipI λi j=>i+j):=by
 intro qx s σ H x y v u Q I r1 r2 h
 obtain⟨i,j,e1,e2,q⟩:=h
 subst e1;subst e2
 obtain⟨t,rfl⟩:=r1
 obtain⟨t',rfl⟩:=r2
 exact iadd_int ⟨.int _,H,I.tok _,⟨_,rfl⟩,q⟩
noncomputable def zeE(c:TT)(tb:TS):TS:=λD σ H=> ∃W:Nat->St->Hp->Prop,(∃m,W m σ H)/\∀m σ H,W m σ H->
 c σ H λb H1=>if b=true then ∃N:St->Hp->Prop,(∀σ' H',N σ' H'->∃m',m'<m/\W m' σ' H')/\tb {D with nx:=N,ct:=N,bk:=D.nx} σ H1 else D.nx σ H1
def z9W{c:bh}{body:List Stmt}{tc:TT}{tb:TS}(hp:cX (bi X.prog X.w) X.A X.env X.xe)(hc:PT X c tc)(hb:PSs X body tb):PS X (.While c body [] pos) (zeE tc tb):=by
 intro qx s σ H D I h
 obtain⟨W,⟨m0,w0⟩,turn⟩:=h
 refine wpAny_While (codeAny_whileLoop (λn s'=> ∃σ' H',Inv X qx σ' H' s'/\W n σ' H') ?_ m0 ⟨σ,H,I,w0⟩)
 rintro n s1 ⟨σ1,H1,I1,w1⟩
 refine bL hp (thn (hc qx s1 σ1 H1 _ I1 (turn n σ1 H1 w1)) ?_)
 rintro b s2 ⟨H2,I2,q2⟩
 cases b with
 |true=>
  obtain⟨N,hN,q2⟩:=q2
  rw[qw rfl]
  refine bL hp (thn (hb qx s2 σ1 H2 _ I2 q2) λf s3 q3=> ?_)
  cases f with
  |next=>
   obtain⟨σ3,H3,I3,n3⟩:=q3
   obtain⟨m',hm,w3⟩:=hN σ3 H3 n3
   exact⟨m',hm,σ3,H3,I3,w3⟩
  |cont=>
   obtain⟨σ3,H3,I3,n3⟩:=q3
   obtain⟨m',hm,w3⟩:=hN σ3 H3 n3
   exact⟨m',hm,σ3,H3,I3,w3⟩
  |brk=>exact q3
  |ret v=>exact q3
 |false=>
  rw[qy A5]
  exact cq ⟨σ1,H2,I2,q2⟩
end
structure It where
 go:Nat->Hp->Prop
 yld:Nat->Hp->V->Hp->Prop
 stop:Nat->Hp->Prop
noncomputable def z76(X:Cx)(qx:List (Addr×bE))(H:Hp)(b:Addr):Prop:=
 H b=none/\b≠X.env.locals/\b∉X.fs/\(b∈X.ex\/X.s₀.heap.objs.size<=b)/\(∀x c,X.env.cells.lookup x=some c->c≠b)/\∀p∈X.pn++qx,p.1≠b
def Inv.fpOk{X:Cx}{qx:List (Addr×bE)}{σ:St}{H H':Hp}{s:bf}{b:Addr}(I:Inv X qx σ H s)(hb:s.heap.objs.size<=b)(hn:H' b=none):z76 X qx H' b:=by
 refine⟨hn,O8 (t7 I.lt hb),I.nofs hb, .inr (C1 I.sz hb),λx c e z=> ?_,λp hp z=> ?_⟩
 .obtain⟨v,q⟩:=I.cell x c e
  exact absurd (t7 q.lt (by rw[z];exact hb)) (D8 _)
 .exact absurd (t7 (Heap.lt_size (I.pin p hp).1) (by rw[z];exact hb)) (D8 _)
structure zcm(P:bm)(w:bo)(K:W.Frag)(tg:bh)(J:It)(fp:List Addr)(it:Addr)(tn:Nat->Heap->Prop):Prop where
 mem:it∈fp
 obj: ∀i h,tn i h->∀b∈fp,∃o,h.get? b=some o/\∀v,o.data≠ .cell v
 keep: ∀i h h',tn i h->(∀b∈fp,∀o,h.get? b=some o->h'.get? b=some o)->tn i h'
 item: ∀(X:Cx),X.prog=P->X.w=w->X.K=K->X.calm=true->∀(i:Nat) (qx:List (Addr×bE)) (s:bf) (σ:St) (H:Hp) (E:bb->bf->Prop),Inv X qx σ H s->(∀b∈fp,z76 X qx H b)->tn i s.heap->J.go i H->
  bg (bi P w) X.A (cm (.ref it)) (λr s1=> ∃u,r=some u/\
   bg (bi P w) X.A (cc tg (.ref it) u) (λ_ s2=> ∃x H',Inv X qx σ H' s2/\RelV x u/\J.yld i H x H'/\tn (i+1) s2.heap/\∀b∈fp,H' b=none) E s1) E s
 done: ∀(X:Cx),X.prog=P->X.w=w->X.K=K->X.calm=true->∀(i:Nat) (qx:List (Addr×bE)) (s:bf) (σ:St) (H:Hp) (E:bb->bf->Prop),Inv X qx σ H s->(∀b∈fp,z76 X qx H b)->tn i s.heap->J.stop i H->
  bg (bi P w) X.A (cm (.ref it)) (λr s1=>r=none/\Inv X qx σ H s1) E s
 self: ∀(A:bq) (i:Nat) (s:bf) (Q:bb->bf->Prop) (E:bb->bf->Prop),tn i s.heap->Q (.ref it) s->bg (bi P w) A (fc (.ref it)) Q E s
noncomputable abbrev TI:=St->Hp->(It->Hp->Prop)->Prop
noncomputable def PIE(X:Cx)(qx:List (Addr×bE))(σ:St)(tg:bh)(R:It->Hp->Prop)(itv:bb)(s2:bf):Prop:=
 ∃(it:Addr) (fp:List Addr) (tn:Nat->Heap->Prop) (J:It) (H':Hp),itv= .ref it/\Inv X qx σ H' s2/\zcm X.prog X.w X.K tg J fp it tn/\tn 0 s2.heap/\(∀b∈fp,z76 X qx H' b)/\R J H'
noncomputable def PI(X:Cx)(tg iter:bh)(wi:TI):Prop:=
 ∀(qx:List (Addr×bE)) (s:bf) (σ:St) (H:Hp) (R:It->Hp->Prop),Inv X qx σ H s->wi σ H R->
  bg (bi X.prog X.w) X.A (bF iter X.env) (λv s1=>bg (bi X.prog X.w) X.A (fc v) (PIE X qx σ tg R) X.xe s1) X.xe s
def z9X{M:fx}{A:bq}{E:bb->bf->Prop}{s:bf}{tg:bh}{it:Addr}{u:bb}{o:bE}{n:String}{vs:Array bb}{Q:Unit->bf->Prop}(ho:s.heap.get? it=some o)(hc:o.cls= .type n)(hd:o.data= .fields vs)
 (hn:["enumerate", "zip", "dict_itemiterator", "dict_reverseitemiterator", "odict_iterator", "itertools.zip_longest", "itertools.pairwise"].contains n=false) (hQ:Q () s):bg M A (cc tg (.ref it) u) Q E s:=by
 unfold cc
 cases tg<;>first
  |exact be hQ
  |(cases u<;>first
   |exact be hQ
   |(refine ba (wpAny_load ho ?_)
     rw[hc,hd]
     show bg M A (if(["enumerate", "zip", "dict_itemiterator", "dict_reverseitemiterator", "odict_iterator", "itertools.zip_longest", "itertools.pairwise"].contains n&&vs[0]? ==some (cS _))=true then _ else _) Q E s
     rw[qy (by intro h;rw[hn,S6] at h;cases h)]
     exact be hQ))
noncomputable def Itl(K:W.Frag)(a:Addr):It:=
 ⟨λi H=> ∃xs x,SqL K H a xs/\xs[i]? =some x,λi H x H'=>H'=H/\∀xs,SqL K H a xs->xs[i]? =some x,λi H=> ∃xs,SqL K H a xs/\xs.length<=i⟩
noncomputable def Itt(K:W.Frag)(a:Addr):It:=
 ⟨λi H=> ∃xs x,SqT K H a xs/\xs[i]? =some x,λi H x H'=>H'=H/\∀xs,SqT K H a xs->xs[i]? =some x,λi H=> ∃xs,SqT K H a xs/\xs.length<=i⟩
noncomputable def Itr(lo:Int)(n:Nat):It:=⟨λi _=>i<n,λi H x H'=>H'=H/\x= .int (lo+i),λi _=>n<=i⟩
def z7S{P:bm}{w:bo}{K:W.Frag}{tg:bh}(a it:Addr):zcm P w K tg (Itl K a) [it] it (λi h=>h.IsListIter it a i) where
 mem:=by simp
 obj:=λi h st b hb=>by
  have e:b=it:=by simpa using hb
  subst e
  obtain⟨o,e,c,d⟩:=st
  exact⟨o,e,λv z=>by rw[d] at z;cases z⟩
 keep:=λi h h' st k=>st.at λo e=>k it (by simp) o e
 item:=by
  intro X hP hw hK hc i qx s σ H E I hf st hg
  subst hP hw hK
  obtain⟨xs,x,hq,hx⟩:=hg
  obtain⟨its,rv,p,hz⟩:=I.list hq
  obtain⟨u,hu,ru⟩:=rv.get hx
  obtain⟨f0,f1,f2,f3,f4,f5⟩:=hf it (by simp)
  refine cI st p.isList (x:=u) (by simpa using hu) λh' st' sb=> ?_
  have I1:Inv X qx σ H {s with heap:=h'}:=I.turned (t':=s.toks) (λb o hb e=>(sb.2 b hb).trans e) f0 f1 f3 f4 f5
  obtain⟨o,e,c,d⟩:=id st'
  exact⟨u,rfl,z9X (s:={s with heap:=h'}) e c d (by decide) ⟨x,H,I1,ru,⟨rfl,λys hy=>by rw[I.list_inj hy hq];exact hx⟩,st',λb hb=>(hf b hb).1⟩⟩
 done:=by
  intro X hP hw hK hc i qx s σ H E I hf st hg
  subst hP hw hK
  obtain⟨xs,hq,hx⟩:=hg
  obtain⟨its,rv,p,hz⟩:=I.list hq
  obtain⟨f0,f1,f2,f3,f4,f5⟩:=hf it (by simp)
  have hl:=rv.length
  exact cO (I.ok.hd hc) st p.isList (by simp;lia) λh' eb=>⟨rfl,I.turned (t':=s.toks) (λb o hb e=>eb b o hb e) f0 f1 f3 f4 f5⟩
 self:=λ_ _ _ _ _ st h=>wpAny_pyIter_listiter st h
def z77{P:bm}{w:bo}{K:W.Frag}{tg:bh}(a it:Addr):zcm P w K tg (Itt K a) [it] it (λi h=>h.IsTupleIter it a i) where
 mem:=by simp
 obj:=λi h st b hb=>by
  have e:b=it:=by simpa using hb
  subst e
  obtain⟨o,e,c,d⟩:=st
  exact⟨o,e,λv z=>by rw[d] at z;cases z⟩
 keep:=λi h h' st k=>st.at λo e=>k it (by simp) o e
 item:=by
  intro X hP hw hK hc i qx s σ H E I hf st hg
  subst hP hw hK
  obtain⟨xs,x,hq,hx⟩:=hg
  obtain⟨its,rv,p,hz⟩:=I.tuple hq
  obtain⟨u,hu,ru⟩:=rv.get hx
  obtain⟨f0,f1,f2,f3,f4,f5⟩:=hf it (by simp)
  refine wpAny_pyNext_tuple_item st (show s.heap.IsTuple a its.toArray from p) (x:=u) (by simpa using hu) λh' st' sb=> ?_
  have I1:Inv X qx σ H {s with heap:=h'}:=I.turned (t':=s.toks) (λb o hb e=>(sb.2 b hb).trans e) f0 f1 f3 f4 f5
  obtain⟨o,e,c,d⟩:=id st'
  exact⟨u,rfl,z9X (s:={s with heap:=h'}) e c d (by decide) ⟨x,H,I1,ru,⟨rfl,λys hy=>by rw[I.tuple_inj hy hq];exact hx⟩,st',λb hb=>(hf b hb).1⟩⟩
 done:=by
  intro X hP hw hK hc i qx s σ H E I hf st hg
  subst hP hw hK
  obtain⟨xs,hq,hx⟩:=hg
  obtain⟨its,rv,p,hz⟩:=I.tuple hq
  obtain⟨f0,f1,f2,f3,f4,f5⟩:=hf it (by simp)
  have hl:=rv.length
  exact wpAny_pyNext_tuple_end (I.ok.hd hc) st (show s.heap.IsTuple a its.toArray from p) (by simp;lia) λh' eb=>⟨rfl,I.turned (t':=s.toks) (λb o hb e=>eb b o hb e) f0 f1 f3 f4 f5⟩
 self:=λ_ _ _ _ _ st h=>wpAny_pyIter_tupleiter st h
def z78{P:bm}{w:bo}{K:W.Frag}{tg:bh}(it:Addr)(lo:Int)(n:Nat):zcm P w K tg (Itr lo n) [it] it (λi h=>IsRangeIter h it (lo+(i:Nat)*1) ((n:Int) -(i:Nat)) 1) where
 mem:=by simp
 obj:=λi h st b hb=>by
  have e:b=it:=by simpa using hb
  subst e
  exact⟨_,st,λv z=>by
   have z':Data.fields _=Data.cell v:=z
   cases z'⟩
 keep:=λi h h' st k=>k it (by simp) _ st
 item:=by
  intro X hP hw hK hc i qx s σ H E I hf st hg
  subst hP hw hK
  obtain⟨f0,f1,f2,f3,f4,f5⟩:=hf it (by simp)
  have W:=Walks.range (prog:=X.prog) (w:=X.w) (I.ok.hd hc) it lo 1 n
  refine W.item i s _ _ hg st λv h' tk hv st' kk=> ?_
  obtain⟨t,rfl⟩:=hv
  have I1:Inv X qx σ H {s with heap:=h',toks:=tk}:=I.turned (λb o hb e=>kk b o (by simpa using hb) e) f0 f1 f3 f4 f5
  refine⟨_,rfl,z9X (s:={s with heap:=h',toks:=tk}) (n:= "range_iterator") st' rfl rfl (by decide) ⟨.int (lo+i),H,I1,⟨t, ?_⟩,⟨rfl,rfl⟩,st',λb hb=>(hf b hb).1⟩⟩
  rw[Int.mul_one]
 done:=by
  intro X hP hw hK hc i qx s σ H E I hf st hg
  subst hP hw hK
  obtain⟨f0,f1,f2,f3,f4,f5⟩:=hf it (by simp)
  exact wpAny_pyNext_range_end (I.ok.hd hc) st (by have:n<=i:=hg;lia) λh' eb=>⟨rfl,I.turned (t':=s.toks) (λb o hb e=>eb b o hb e) f0 f1 f3 f4 f5⟩
 self:=λ_ _ _ _ _ st h=>wpAny_pyIter_rangeiter st h
section
variable{X:Cx}{tg:bh}
def z9Y{qx:List (Addr×bE)}{σ:St}{H:Hp}{s:bf}{R:It->Hp->Prop}{E:bb->bf->Prop}{lo hi:Int}{t u v:Tok}{tk:Nat}(I:Inv X qx σ H s)(h1: -(2^62)<=lo)(h2:lo<2^62)(h3: -(2^62)<=hi)(h4:hi<2^62)
 (q:R (Itr lo (hi -lo).toNat) H):bg (bi X.prog X.w) X.A (fc (.ref s.heap.objs.size)) (PIE X qx σ tg R) E {s with heap:=s.heap.push {cls:= .type "range",data:= .fields #[.int lo t, .int hi u, .int 1 v]},toks:=tk}:=by
 refine wpAny_pyIter_range (IsRange.new ..) (small_one h1 h2 h3 h4) ?_
 have I1:Inv X qx σ H {s with heap:=s.heap.push {cls:= .type "range",data:= .fields #[.int lo t, .int hi u, .int 1 v]},toks:=tk}:=I.kept λb o e=>Heap.get?_push_of_some _ e
 refine⟨(s.heap.push {cls:= .type "range",data:= .fields #[.int lo t, .int hi u, .int 1 v]}).objs.size,[(s.heap.push {cls:= .type "range",data:= .fields #[.int lo t, .int hi u, .int 1 v]}).objs.size],_,_,H,rfl,
  I1.kept (t':=tk) λb o e=>Heap.get?_push_of_some _ e,z78 _ lo (hi -lo).toNat, ?_,λb hb=> ?_,q⟩
 .have e1:lo+((0:Nat):Int)*1=lo:=by simp
  have e2:(((hi -lo).toNat:Nat):Int) -((0:Nat):Int)=Builtin.Range.rangeSize lo hi 1:=by rw[rangeSize_one];split<;>lia
  show IsRangeIter _ _ (lo+((0:Nat):Int)*1) ((((hi -lo).toNat:Nat):Int) -((0:Nat):Int)) 1
  rw[e1,e2]
  exact Heap.get?_push_size _ rfl
 .have e:b=(s.heap.push {cls:= .type "range",data:= .fields #[.int lo t, .int hi u, .int 1 v]}).objs.size:=by simpa using hb
  subst e
  exact I1.fpOk (i8 _) (I1.hok.fresh (i8 _))
noncomputable def zhI(ta:TA):TI:=λ σ H R=>ta σ H λvs H1=> ∃j:Int,vs=[.int j]/\-(2^62)<=j/\j<2^62/\R (Itr 0 j.toNat) H1
def z7T{a:bh}{ta:TA}{p pos:bT}(hg:Gl X "range")(hm:X.mg "range" =none)(ha:PA X [a] ta)(hs:bj [a] X.env=[(false,bF a X.env)]:=by rfl):PI X tg (.Call (.Name "range" p) [a] [] pos) (zhI ta):=by
 intro qx s σ H R I h
 refine Call_ (z6q I hg hm boot_range (PyProof.Rows.callWith_type1 (thn (ha pos qx s σ H _ I h) λus s1 ⟨vs,H1,I1,r1,q1⟩=> ?_) hs rfl))
 obtain⟨j,e,q1,q2,q⟩:=q1
 subst e
 cases r1 with
 |cons r rr=>
  cases rr
  obtain⟨t,rfl⟩:=r
  exact call_range_1 (z9Y I1 ⋯ ⋯ q1 q2 (by simpa using q))
noncomputable def zjN(wi:TI)(g:TG)(tb:TS):TS:=λD σ H=>wi σ H λJ H1=> ∃W:Nat->Nat->St->Hp->Prop,(∃m,W 0 m σ H1)/\∀i m σ H,W i m σ H->
 (J.stop i H/\D.nx σ H)\/(J.go i H/\∃N:St->Hp->Prop,(∀σ' H',N σ' H'->∃m',m'<m/\W (i+1) m' σ' H')/\∀x H',J.yld i H x H'->g x σ H' λ σ2 H2=>tb {D with nx:=N,ct:=N,bk:=D.nx} σ2 H2)
noncomputable def z6r(fp:List Addr)(h:Heap):List (Addr×bE):=fp.filterMap λb=>(h.get? b).map λo=>(b,o)
def z0o{fp:List Addr}{h:Heap}{b:Addr}{o:bE}(hb:b∈fp)(e:h.get? b=some o):(b,o)∈z6r fp h:=T6.mpr ⟨b,hb,by rw[e];rfl⟩
def z7U{fp:List Addr}{h:Heap}{p:Addr×bE}(hp:p∈z6r fp h):p.1∈fp/\h.get? p.1=some p.2:=by
 obtain⟨b,hb,e⟩:=T6.mp hp
 cases q:h.get? b with
 |none=>rw[q] at e;cases e
 |some o=>
  rw[q] at e
  have e':(b,o)=p:=Option.some.inj e
  subst e'
  exact⟨hb,q⟩
def Inv.pinned{qx:List (Addr×bE)}{σ:St}{H:Hp}{s:bf}{fp:List Addr}(I:Inv X qx σ H s)(hf: ∀b∈fp,z76 X qx H b)(ho: ∀b∈fp,∃o,s.heap.get? b=some o/\∀v,o.data≠ .cell v):Inv X (qx++z6r fp s.heap) σ H s:=
 I.pins_of λp hp=>(i9.mp hp).elim (λz=>I.pin p (i4 _ z)) λz=>by
  obtain⟨hb,e⟩:=z7U z
  obtain⟨f0,f1,f2,_⟩:=hf p.1 hb
  obtain⟨o,e',d⟩:=ho p.1 hb
  rw[e] at e';cases e'
  exact⟨e,f0,f1,f2,d⟩
def Inv.unpinned{qx pl:List (Addr×bE)}{σ:St}{H:Hp}{s:bf}(I:Inv X (qx++pl) σ H s):Inv X qx σ H s:=I.pins_of λp hp=>I.pin p (i4 _ (i7 _ hp))
def zbi{iter:bh}{body:List Stmt}{wi:TI}{g:TG}{tb:TS}{pos:bT}(hp:cX (bi X.prog X.w) X.A X.env X.xe)(hc:X.calm=true)(hi:PI X tg iter wi)(hg:PG X tg g)(hb:PSs X body tb)
 (hs: ∀x,bw iter X.env x=pure x:=by intro _;rfl):PS X (.For tg iter body [] pos) (zjN wi g tb):=by
 intro qx s σ H D I h
 refine wpAny_For (thn (hi qx s σ H _ I h) λv s1 h1=>thn h1 λitv s2 h2=> ?_) hs
 obtain⟨it,fp,tn,J,H2,e,I2,T,st2,f2,W,⟨m0,w0⟩,turn⟩:=h2
 subst e
 have stat: ∀{H':Hp},(∀b∈fp,H' b=none)->∀b∈fp,z76 X qx H' b:=λhn b hb=>⟨hn b hb,(f2 b hb).2⟩
 refine codeAny_forLoop_any (λn s'=> ∃i σ' H',Inv X qx σ' H' s'/\tn i s'.heap/\(∀b∈fp,H' b=none)/\W i n σ' H') ?_ m0 ⟨0,σ,H2,I2,st2,λb hb=>(f2 b hb).1,w0⟩
 rintro n s3 ⟨i,σ3,H3,I3,st3,fr3,w3⟩
 rcases turn i n σ3 H3 w3 with⟨stop,qn⟩|⟨go,N,hN,step⟩
 .refine bL hp (thn (T.done X rfl rfl rfl hc i qx s3 σ3 H3 X.xe I3 (stat fr3) st3 stop) ?_)
  rintro r s4 ⟨hr,I4⟩
  subst hr
  exact cq ⟨σ3,H3,I4,qn⟩
 .refine bL hp (thn (T.item X rfl rfl rfl hc i qx s3 σ3 H3 X.xe I3 (stat fr3) st3 go) ?_)
  rintro r s4 ⟨u,hr,h4⟩
  subst hr
  refine bL hp (thn h4 ?_)
  rintro _ s5 ⟨x,H5,I5,r5,y5,st5,fr5⟩
  have I5':=I5.pinned (stat fr5) (T.obj _ _ st5)
  refine bL hp (thn (hg _ s5 σ3 H5 x u _ I5' r5 (step x H5 y5)) ?_)
  rintro _ s6 ⟨σ6,H6,I6,q6⟩
  refine bL hp (thn (hb _ s6 σ6 H6 _ I6 q6) λf s7 q7=> ?_)
  have again: ∀{σ7:St} {H7:Hp},Inv X (qx++z6r fp s5.heap) σ7 H7 s7->N σ7 H7->∃m,m<n/\∃i σ' H',Inv X qx σ' H' s7/\tn i s7.heap/\(∀b∈fp,H' b=none)/\W i m σ' H':=λ{σ7 H7} I7 n7=>by
   obtain⟨m',hm,w7⟩:=hN σ7 H7 n7
   refine⟨m',hm,i+1,σ7,H7,I7.unpinned,T.keep _ _ _ st5 λb hb o e=>(I7.pin (b,o) (i4 _ (i4 _ (z0o hb e)))).1,λb hb=> ?_,w7⟩
   obtain⟨o,e,d⟩:=T.obj _ _ st5 b hb
   exact(I7.pin (b,o) (i4 _ (i4 _ (z0o hb e)))).2.1
  cases f with
  |next=>obtain⟨σ7,H7,I7,n7⟩:=q7;exact again I7 n7
  |cont=>obtain⟨σ7,H7,I7,n7⟩:=q7;exact again I7 n7
  |brk=>obtain⟨σ7,H7,I7,q7⟩:=q7;exact⟨σ7,H7,I7.unpinned,q7⟩
  |ret v=>obtain⟨x7,σ7,H7,I7,r7,q7⟩:=q7;exact⟨x7,σ7,H7,I7.unpinned,r7,q7⟩
end
noncomputable abbrev R2:=V->V->Hp->VK->Prop
noncomputable def OpR(X:Cx)(f:bb->bb->cN bb)(r:R2):Prop:=
 ∀(qx:List (Addr×bE)) (s:bf) (σ:St) (H:Hp) (x y:V) (v u:bb) (Q:VK),Inv X qx σ H s->RelV x v->RelV y u->r x y H Q->
  bg (bi X.prog X.w) X.A (f v u) (EP X qx σ Q) X.xe s
noncomputable def CallR(X:Cx)(f:bb)(r:List V->Hp->VK->Prop):Prop:=
 ∀(qx:List (Addr×bE)) (s:bf) (σ:St) (H:Hp) (xs:List V) (us:List bb) (Q:VK),Inv X qx σ H s->U0 xs us->r xs H Q->
  bg (bi X.prog X.w) X.A (call f us) (EP X qx σ Q) X.xe s
noncomputable def zjO(X:Cx)(r:V->Hp->(Bool->Hp->Prop)->Prop):Prop:=
 ∀(qx:List (Addr×bE)) (s:bf) (σ:St) (H:Hp) (x:V) (v:bb) (Q:Bool->Hp->Prop),Inv X qx σ H s->RelV x v->r x H Q->
  bg (bi X.prog X.w) X.A (truthy v) (TP X qx σ Q) X.xe s
noncomputable def tOp(r:R2)(ta tb:TE):TE:=λ σ H Q=>ta σ H λx H1=>tb σ H1 λy H2=>r x y H2 Q
noncomputable def rI(C:Int->Int->Prop)(g:Int->Int->V):R2:=λx y H Q=> ∃i j,x= .int i/\y= .int j/\C i j/\Q (g i j) H
noncomputable def rI0(g:Int->Int->V):R2:=λx y H Q=> ∃i j,x= .int i/\y= .int j/\Q (g i j) H
section
variable{X:Cx}{a b c:bh}{ta tb tc:TE}{pos:bT}
def zhJ(ha:PE X a ta)(hb:PE X b tb){qx:List (Addr×bE)}{s:bf}{σ:St}{H:Hp}{R:V->V->Hp->Prop}(I:Inv X qx σ H s)
 (h:ta σ H λx H1=>tb σ H1 λy H2=>R x y H2) {Q:bb->bf->Prop} {f:bb->bb->cN bb}
 (hf: ∀v u s2 x y H2,Inv X qx σ H2 s2->RelV x v->RelV y u->R x y H2->bg (bi X.prog X.w) X.A (f v u) Q X.xe s2):
 bg (bi X.prog X.w) X.A (bF a X.env) (λv s₁=>bg (bi X.prog X.w) X.A (bF b X.env) (λu s₂=>bg (bi X.prog X.w) X.A (f v u) Q X.xe s₂) X.xe s₁) X.xe s:=by
 refine thn (ha qx s σ H _ I h) ?_
 rintro v s1 ⟨x,H1,I1,r1,q1⟩
 refine thn (hb qx s1 σ H1 _ I1 q1) ?_
 rintro u s2 ⟨y,H2,I2,r2,q2⟩
 exact hf v u s2 x y H2 I2 r1 r2 q2
def zhK{op:fb}{r:R2}(ho:OpR X (bY op) r)(ha:PE X a ta)(hb:PE X b tb):PE X (.BinOp a op b pos) (tOp r ta tb):=by
 intro qx s σ H Q I h
 exact wpAny_BinOp (zhJ ha hb I h λv u s2 x y H2 I2 rx ry q=>ho qx s2 σ H2 x y v u Q I2 rx ry q)
def opI{f:bb->bb->cN bb}{C:Int->Int->Prop}{g:Int->Int->Int}
 (rule: ∀(i j:Int) (t u:Tok) (s:bf) (Q:bb->bf->Prop) (E:bb->bf->Prop),C i j->Q (.int (g i j) s.toks) {s with toks:=s.toks+1}->bg (bi X.prog X.w) X.A (f (.int i t) (.int j u)) Q E s):
 OpR X f (rI C λi j=> .int (g i j)):=by
 intro qx s σ H x y v u Q I rx ry h
 obtain⟨i,j,rfl,rfl,hc,q⟩:=h
 obtain⟨t,rfl⟩:=rx
 obtain⟨t',rfl⟩:=ry
 exact rule i j t t' s _ _ hc ⟨.int (g i j),H,I.tok _,⟨_,rfl⟩,q⟩
def zjP{f:bb->bb->cN bb}{g:Int->Int->Int}
 (rule: ∀(i j:Int) (t u:Tok) (s:bf) (Q:bb->bf->Prop) (E:bb->bf->Prop),Q (.int (g i j) s.toks) {s with toks:=s.toks+1}->bg (bi X.prog X.w) X.A (f (.int i t) (.int j u)) Q E s):
 OpR X f (rI0 λi j=> .int (g i j)):=by
 intro qx s σ H x y v u Q I rx ry h
 obtain⟨i,j,rfl,rfl,q⟩:=h
 obtain⟨t,rfl⟩:=rx
 obtain⟨t',rfl⟩:=ry
 exact rule i j t t' s _ _ ⟨.int (g i j),H,I.tok _,⟨_,rfl⟩,q⟩
def zjn{f:bb->bb->cN bb}{g:Int->Int->Bool}
 (rule: ∀(i j:Int) (t u:Tok) (s:bf) (Q:bb->bf->Prop) (E:bb->bf->Prop),Q (.bool (g i j)) s->bg (bi X.prog X.w) X.A (f (.int i t) (.int j u)) Q E s):
 OpR X f (rI0 λi j=> .bl (g i j)):=by
 intro qx s σ H x y v u Q I rx ry h
 obtain⟨i,j,rfl,rfl,q⟩:=h
 obtain⟨t,rfl⟩:=rx
 obtain⟨t',rfl⟩:=ry
 exact rule i j t t' s _ _ ⟨.bl (g i j),H,I,rfl,q⟩
noncomputable def zec(i j:Int):Prop:=0<j/\j<2^200
def zhL{x j:Int}(h1:0<j)(h2:j<2^200):Builtin.divisionGoesByPylong x j=false:=by
 refine PyProof.noPylong_of_log2 ?_
 have h3:j.natAbs.log2<200:=(Nat.log2_lt ⋯).mpr ⋯
 lia
noncomputable def zed(i j:Int):Prop:=0<=j/\j<=1000000/\i.natAbs<2^64
noncomputable def zbj(i j:Int):Prop:=(-(2^64)<i/\i<2^64)\/(-(2^64)<j/\j<2^64)
def zbj.ok{i j:Int}(h:zbj i j):IntMulOk i j:=by
 rcases h with⟨h1,h2⟩|⟨h1,h2⟩
 .exact .of_left (intBits_le_64 h1 h2)
 .exact .of_right (intBits_le_64 h1 h2)
def zeF:OpR X (bY .Add) (rI0 λi j=> .int (i+j)):=zjP λ_ _ _ _ _ _ _ q=>add_int q
def zeG:OpR X (bY .Mult) (rI zbj λi j=> .int (i*j)):=opI λ_ _ _ _ _ _ _ hc q=>mul_int q hc.ok
def zcn:OpR X (bY .FloorDiv) (rI zec λi j=> .int (i/j)):=opI λi j _ _ _ _ _ hc q=>by
 have h1:(0:Int)<j:=hc.1
 have h2:j<2^200:=hc.2
 exact floordiv_int ⋯ (by rw[Int.fdiv_eq_ediv_of_nonneg i ⋯];exact q) (.inl (zhL h1 h2))
def zeH:OpR X (bY .Mod) (rI (λ_ j=>0<j) λi j=> .int (i %j)):=opI λi j _ _ _ _ _ hc q=>by
 have h1:(0:Int)<j:=hc
 exact mod_int' ⋯ (by rw[Int.fmod_eq_emod_of_nonneg i ⋯];exact q)
def zeI:OpR X (bY .Pow) (rI zed λi j=> .int (i^j.toNat)):=opI λ_ _ _ _ _ _ _ hc q=>pow_int_small hc.1 hc.2.1 hc.2.2 q
def zbk{qx:List (Addr×bE)}{σ:St}{H:Hp}{s:bf}{Q:VK}{k k':Bool}(I:Inv X qx σ H s)(q:Q (.bl k) H)(e:k=k'):EP X qx σ Q (.bool k') s:=by
 subst e
 exact⟨.bl k,H,I,rfl,q⟩
def zhM:OpR X (bH .Lt) (rI0 λi j=> .bl (decide (i<j))):=zjn λ_ _ _ _ _ _ _ q=>lt_int q
def zhN:OpR X (bH .Gt) (rI0 λi j=> .bl (decide (j<i))):=zjn λ_ _ _ _ _ _ _ q=>gt_int q
def zeJ:OpR X (bH .Is) (λx y H Q=>y= .non/\Q (.bl (decide (x= .non))) H):=by
 intro qx s σ H x y v u Q I rx ry h
 obtain⟨rfl,q⟩:=h
 cases ry
 refine is_none_gen (zbk I q ?_)
 cases x<;>first
  |(cases rx;rfl)
  |(obtain⟨t,rfl⟩:=rx;rfl)
def zco:OpR X (bH .IsNot) (λx y H Q=>y= .non/\Q (.bl (!decide (x= .non))) H):=by
 intro qx s σ H x y v u Q I rx ry h
 obtain⟨rfl,q⟩:=h
 cases ry
 refine isnot_none_gen (zbk I q ?_)
 cases x<;>first
  |(cases rx;rfl)
  |(obtain⟨t,rfl⟩:=rx;rfl)
def OpR.or{f:bb->bb->cN bb}{r r':R2}(h:OpR X f r)(h':OpR X f r'):OpR X f (λx y H Q=>r x y H Q\/r' x y H Q):=by
 intro qx s σ H x y v u Q I rx ry q
 rcases q with q|q
 .exact h qx s σ H x y v u Q I rx ry q
 .exact h' qx s σ H x y v u Q I rx ry q
def j9(b:bh){op:fe}(h:op≠ .In:=by decide)(h2:op≠ .NotIn:=by decide):bO op b=false:=by
 have e1:(op==CmpOp.In)=false:=by cases op<;>first|rfl|exact absurd rfl h
 have e2:(op==CmpOp.NotIn)=false:=by cases op<;>first|rfl|exact absurd rfl h2
 cases b<;>simp[bO,e1,e2]
def zcp{op:fe}{r:R2}(ho:OpR X (bH op) r)(ha:PE X a ta)(hb:PE X b tb)(hm:bO op b=false):PE X (.Compare a [op] [b] pos) (tOp r ta tb):=by
 intro qx s σ H Q I h
 exact wpAny_Compare1 (zhJ ha hb I h λv u s2 x y H2 I2 rx ry q=>ho qx s2 σ H2 x y v u Q I2 rx ry q) hm
noncomputable def zhO(t:TE):TT:=λ σ H Q=>t σ H λx H'=> ∃k,x= .bl k/\Q k H'
def zcq{op:fe}{r:R2}(ho:OpR X (bH op) r)(ha:PE X a ta)(hb:PE X b tb)(hm:bO op b=false):PT X (.Compare a [op] [b] pos) (zhO (tOp r ta tb)):=by
 intro qx s σ H Q I h
 refine wpAny_isTrue_Compare1 (thn (ha qx s σ H _ I h) λv s1 ⟨x,H1,I1,r1,q1⟩=>thn (hb qx s1 σ H1 _ I1 q1) λu s2 ⟨y,H2,I2,r2,q2⟩=>
  thn (ho qx s2 σ H2 x y v u _ I2 r1 r2 q2) λc s3 ⟨z,H3,I3,r3,k,e,q3⟩=> ?_) hm
 subst e
 cases r3
 exact cj ⟨H3,I3,q3⟩
noncomputable def TruV(K:W.Frag)(x:V)(H:Hp)(k:Bool):Prop:=
 match x with
 | .non=>k=false
 | .bl b=>k=b
 | .int i=>k=(i !=0)
 | .str y=>y.length<=qh/\k=((y.length:Int) !=0)
 | .byt y=>y.size<=qh/\k=((y.size:Int) !=0)
 | .ref p=>(∃xs,SqL K H p xs/\k= !xs.isEmpty)\/(∃xs,SqT K H p xs/\k= !xs.isEmpty)\/∃kvs,H p=some (.dK kvs)/\k= !kvs.isEmpty
 |_=>False
def z79{κ:Type}{kvs:List (κ×V)}{vs:List (κ×bb)}(r:KV kvs vs):(!vs.isEmpty)= !kvs.isEmpty:=by
 cases r<;>rfl
def z3z{xs:List V}{its:List bb}(r:U0 xs its):(!its.toArray.isEmpty)= !xs.isEmpty:=by
 cases r<;>simp
def z4N:(qh:Nat)<2^63:=by rw[cB];decide
def zeK:zjO X (λx H Q=> ∃k,TruV X.K x H k/\Q k H):=by
 intro qx s σ H x v Q I rx h
 obtain⟨k,e,q⟩:=h
 have hl:=z4N
 have hs:qh=16777216:=cB
 cases x with
 |non=>
  cases rx
  have e':k=false:=e
  subst e'
  exact truthy_none ⟨H,I,q⟩
 |bl b=>
  cases rx
  have e':k=b:=e
  subst e'
  exact cj ⟨H,I,q⟩
 |int i=>
  obtain⟨t,rfl⟩:=rx
  have e':k=(i !=0):=e
  subst e'
  exact PySem.P.truthy_int ⟨H,I,q⟩
 |str y=>
  obtain⟨t,rfl⟩:=rx
  obtain⟨hy,e'⟩:y.length<=qh/\k=((y.length:Int) !=0):=e
  subst e'
  exact PySem.P.truthy_str ⋯ ⟨H,I.tok _,q⟩
 |byt y=>
  obtain⟨t,rfl⟩:=rx
  obtain⟨hy,e'⟩:y.size<=qh/\k=((y.size:Int) !=0):=e
  subst e'
  exact W.truthy_bytes ⋯ ⟨H,I.tok _,q⟩
 |ref p=>
  cases rx
  have e':(∃xs,SqL X.K H p xs/\k= !xs.isEmpty)\/(∃xs,SqT X.K H p xs/\k= !xs.isEmpty)\/∃kvs,H p=some (.dK kvs)/\k= !kvs.isEmpty:=e
  rcases e' with⟨xs,hx,e'⟩|⟨xs,hx,e'⟩|⟨kvs,hx,e'⟩
  .subst e'
   obtain⟨its,r,pl,hz⟩:=I.list hx
   have hlen:=r.length
   exact wpAny_truthy_list pl.isList (by erw[l9];lia) ⟨H,I.tok _,by rw[z3z r];exact q⟩
  .subst e'
   obtain⟨its,r,pl,hz⟩:=I.tuple hx
   have hlen:=r.length
   exact truthy_tuple pl (by erw[l9];lia) ⟨H,I.tok _,by rw[z3z r];exact q⟩
  .subst e'
   obtain⟨hz,hS,vs,r,m⟩:kvs.length<=qh/\(p==bz)=false/\∃vs,KV kvs vs/\s.heap.DictOf (Q4 X.prog X.w) p vs:=I.hok p _ hx
   have hlen:kvs.length=vs.length:=Paired.length r
   exact wpAny_truthy_dict hS m ⋯ ⟨H,I.tok _,by rw[z79 r];exact q⟩
 |_=>exact(show False from e).elim
def z9Z(ha:PE X a ta)(he: ∀whole,fw a X.env whole=(do let v<-whole;standAt a.pos;dU [v] (truthy v))):
 PT X a (λ σ H Q=>ta σ H λx H'=> ∃k,TruV X.K x H' k/\Q k H'):=by
 intro qx s σ H Q I h
 exact isTrue_plain (thn (ha qx s σ H _ I h) λv s1 ⟨x,H1,I1,r1,q1⟩=>zeK qx s1 σ H1 x v Q I1 r1 q1) (he _)
def z7a:OpR X (bY .Add) (λx y H Q=> ∃i j,x= .str i/\y= .str j/\i.length+j.length<=qh/\Q (.str (i++j)) H):=by
 intro qx s σ H x y v u Q I rx ry h
 obtain⟨i,j,rfl,rfl,hz,q⟩:=h
 obtain⟨t,rfl⟩:=rx
 obtain⟨t',rfl⟩:=ry
 exact add_str (λt' tk=>⟨.str (i++j),H,I.tok _,⟨_,rfl⟩,q⟩) hz
def z3Z{x:V}{us:List bb}(r:U0 [x] us): ∃u,us=[u]/\RelV x u:=by
 cases r with
 |cons r1 r2=>cases r2;exact⟨_,rfl,r1⟩
def zcr{x y:V}{us:List bb}(r:U0 [x,y] us): ∃u w',us=[u,w']/\RelV x u/\RelV y w':=by
 cases r with
 |cons r1 r2=>
  cases r2 with
  |cons r3 r4=>cases r4;exact⟨_,_,rfl,r1,r3⟩
def za0:CallR X (.builtin "abs") (λxs H Q=> ∃i,xs=[.int i]/\Q (.int (if i<0 then -i else i)) H):=by
 intro qx s σ H xs us Q I r h
 obtain⟨i,rfl,q⟩:=h
 obtain⟨u,rfl,t,rfl⟩:=z3Z r
 exact call_abs_int λu tk=>⟨.int (if i<0 then -i else i),H,I.tok _,⟨_,rfl⟩,q⟩
def z7V(hc:X.calm=true):CallR X (.builtin "max") (λxs H Q=> ∃i j,xs=[.int i, .int j]/\Q (.int (if j>i then j else i)) H):=by
 intro qx s σ H xs us Q I r h
 obtain⟨i,j,rfl,q⟩:=h
 obtain⟨u,w',rfl,⟨t,rfl⟩,⟨t',rfl⟩⟩:=zcr r
 refine max_two_ints (I.ok.hd hc) λh' tk k=>⟨_,H,I.kept k, ?_,q⟩
 by_cases hj:j>i
 .rw[qw hj,qw hj];exact⟨_,rfl⟩
 .rw[qy hj,qy hj];exact⟨_,rfl⟩
def z7W(hc:X.calm=true):CallR X (.builtin "min") (λxs H Q=> ∃i j,xs=[.int i, .int j]/\Q (.int (if j<i then j else i)) H):=by
 intro qx s σ H xs us Q I r h
 obtain⟨i,j,rfl,q⟩:=h
 obtain⟨u,w',rfl,⟨t,rfl⟩,⟨t',rfl⟩⟩:=zcr r
 refine min_two_ints (I.ok.hd hc) λh' tk k=>⟨_,H,I.kept k, ?_,q⟩
 by_cases hj:j<i
 .rw[qw hj,qw hj];exact⟨_,rfl⟩
 .rw[qy hj,qy hj];exact⟨_,rfl⟩
def z7X:CallR X (.type "int") (λxs H Q=>(∃i,xs=[.int i]/\Q (.int i) H)\/∃k,xs=[.bl k]/\Q (.int (if k then 1 else 0)) H):=by
 intro qx s σ H xs us Q I r h
 rcases h with⟨i,rfl,q⟩|⟨k,rfl,q⟩
 .obtain⟨u,rfl,t,rfl⟩:=z3Z r
  exact call_int_int ⟨.int i,H,I,⟨_,rfl⟩,q⟩
 .obtain⟨u,rfl,r1⟩:=z3Z r
  cases r1
  exact call_int_bool ⟨.int (if k then 1 else 0),H,I.tok _,⟨_,rfl⟩,q⟩
end
def RelO.some_of{v:V}{o:Option bb}(r:RelO (some v) o): ∃u,o=some u/\RelV v u:=by
 cases o with
 |none=>exact(show False from r).elim
 |some u=>exact⟨u,rfl,r⟩
structure z3t(k:Nat)(A:bq):Prop where
 hd:A.handled=none
 dp:A.depth+3*k+5<recursionLimit
 un:A.units+16*k+200<cLine
 gd:A.guards=some []
def z3t.mono{j k:Nat}{A:bq}(r:z3t k A)(h:j<=k):z3t j A:=⟨r.hd,by have:=r.dp;lia,by have:=r.un;lia,r.gd⟩
def z3t.deeper{k:Nat}{A:bq}(r:z3t (k+1) A)(env:dn):z3t k (A.deeper env):=
 ⟨r.hd,by have:=r.dp;show A.depth+1+3*k+5<_;lia,by have:=r.un;show A.units+3+16*k+200<_;lia,r.gd⟩
def z3t.depth{k:Nat}{A:bq}(r:z3t k A):A.depth<recursionLimit:=by have:=r.dp;lia
def z3t.units{k:Nat}{A:bq}(r:z3t k A):A.units+64<cLine:=by have:=r.un;lia
noncomputable def zjQ:TA:=λ_ H Q=>Q [] H
noncomputable def zhP(ta:TE)(tr:TA):TA:=λ σ H Q=>ta σ H λx H1=>tr σ H1 λxs H2=>Q (x::xs) H2
section
variable{X:Cx}{e:bh}{es:List bh}{te:TE}{t:TA}{pos:bT}
def zbl:PA X [] zjQ:=λ_ _ _ _ H Q I h=>Calls.spliced_nil ⟨[],H,I, .nil,h⟩
def z5G(ha:PE X e te)(hr:PA X es t)(hs:bj (e::es) X.env=(false,bF e X.env)::bj es X.env:=by rfl):PA X (e::es) (zhP te t):=by
 intro pos qx s σ H Q I h
 rw[hs]
 show bg _ _ (spliced ((false,bF e X.env)::bN pos (bj es X.env))) _ _ s
 refine Calls.spliced_cons (thn (ha qx s σ H _ I h) ?_)
 rintro u s1 ⟨x,H1,I1,r1,q1⟩
 exact thn (hr pos qx s1 σ H1 _ I1 q1) λus s2 ⟨xs,H2,I2,r2,q2⟩=>⟨x::xs,H2,I2, .cons r1 r2,q2⟩
noncomputable def zjR(t:TA):TE:=λ σ H Q=>t σ H λxs H1=>xs.length<=qh/\∀p,H1 p=none->Q (.ref p) (upd H1 p (.tup xs))
noncomputable def zjS(t:TA):TE:=λ σ H Q=>t σ H λxs H1=>xs.length<=qh/\∀p,H1 p=none->Q (.ref p) (upd H1 p (.lst xs))
def zeL{x1}(h:PA X es t):PE X (.Tuple es x1 pos) (zjR t):=by
 intro qx s σ H Q I hq
 refine wpAny_Tuple_spliced (thn (h pos qx s σ H _ I hq) λus s1 ⟨xs,H1,I1,r,z,q⟩=>⟨by rw[<-r.length];exact z, ?_⟩)
 have hf:H1 s1.heap.objs.size=none:=I1.hok.fresh (i8 _)
 refine⟨.ref s1.heap.objs.size,upd H1 s1.heap.objs.size (.tup xs),I1.laid (t':=s1.toks) (λb u e=>Heap.get?_push_of_some _ e) (i8 _) ?_,rfl,q _ hf⟩
 exact⟨z,us,r,⟨_,Heap.get?_push_size _ rfl,rfl,_,rfl⟩⟩
def zeM(h:PA X es t):PE X (.List es pos) (zjS t):=by
 intro qx s σ H Q I hq
 refine wpAny_List_spliced (thn (h pos qx s σ H _ I hq) λus s1 ⟨xs,H1,I1,r,z,q⟩=>⟨by rw[<-r.length];exact z, ?_⟩)
 have hf:H1 s1.heap.objs.size=none:=I1.hok.fresh (i8 _)
 refine⟨.ref s1.heap.objs.size,upd H1 s1.heap.objs.size (.lst xs),I1.laid (t':=s1.toks) (λb u e=>Heap.get?_push_of_some _ e) (i8 _) ?_,rfl,q _ hf⟩
 exact⟨z,us,0,r,Heap.get?_push_size _ rfl⟩
end
noncomputable abbrev Sp:=List V->Hp->VK->XK->Prop
noncomputable abbrev CXT:=List dn->Hp->bf->XK->bb->bf->Prop
structure zho(P:bm)(w:bo)(K:W.Frag)(mg:Str->Option bb)(base:Heap)(A:bq)(outer:List dn)(s:bf)(H:Hp):Prop where
 frames:A.frames=some outer
 mod:Mod K mg base
 bs: ∀b o,base.get? b=some o->s.heap.get? b=some o/\H b=none
 bsz:base.objs.size<=s.heap.objs.size
 funs:s.heap.FunFrames base outer
 frf: ∀b∈frs outer,H b=none
 hok:HOk P w H s.heap
 bare:cA s.gens
noncomputable def CE(outer:List dn)(P:bm)(w:bo)(H:Hp)(s:bf)(Q:VK)(u:bb)(s':bf):Prop:=
 ∃v H',s'.os=s.os/\cA s'.gens/\Un (frs outer) [] H H' s.heap s'.heap/\HOk P w H' s'.heap/\RelV v u/\Q v H'
noncomputable def CR(CX:CXT)(outer:List dn)(P:bm)(w:bo)(H:Hp)(s:bf)(Q:VK)(E:XK)(r:Result)(s':bf):Prop:=
 match r with
 | .ok (.ret u)=>CE outer P w H s Q u s'
 | .ok _=>False
 | .error e=>CX outer H s E e s'
structure z0W(P:bm)(w:bo)(K:W.Frag)(mg:Str->Option bb)(base:Heap)(CX:CXT)(k:Nat)(f:Addr)(fd:bB)(ps:List Str)(sp:Sp):Prop where
 len: ∀vs H Q E,sp vs H Q E->vs.length=ps.length
 run: ∀(A:bq) (outer:List dn) (s:bf) (H:Hp) (args:Args) (us:List bb) (vs:List V) (Q:VK) (E:XK),z3t k A->zho P w K mg base A outer s H->dA s fd args (ps.zip us)->U0 vs us->sp vs H Q E->
  cu (bi P w) A (.call (.ref f) args) (CR CX outer P w H s Q E) s
def z0W.mono{P:bm}{w:bo}{K:W.Frag}{mg:Str->Option bb}{base:Heap}{CX:CXT}{j k:Nat}{f:Addr}{fd:bB}{ps:List Str}{sp:Sp}(F:z0W P w K mg base CX j f fd ps sp)(h:j<=k):
 z0W P w K mg base CX k f fd ps sp:=⟨F.len,λA outer s H args us vs Q E hr=>F.run A outer s H args us vs Q E (hr.mono h)⟩
section
variable{X:Cx}{qx:List (Addr×bE)}{σ:St}{H:Hp}{s s':bf}
def Inv.env0(I:Inv X qx σ H s):zho X.prog X.w X.K X.mg X.base X.A X.stack s H:=
 ⟨I.ok.frames,I.ok.mod,I.bs,C1 I.ok.bsz I.sz,I.stack,I.stkFree,I.hok,I.bare⟩
def Inv.after{Q:VK}{u:bb}(I:Inv X qx σ H s)(h:CE X.stack X.prog X.w H s Q u s'):EP X qx σ Q u s':=by
 obtain⟨v,H',os,bare,un,hok,r,q⟩:=h
 obtain⟨hh,g,d,t,os'⟩:=s'
 obtain rfl:os'=s.os:=os
 exact⟨v,H',I.call (h':=hh) (g':=g) (d':=d) (t':=t) (ch:=[]) un hok bare (λb z=>absurd z (by simp)),r,q⟩
end
noncomputable def zhQ(sp:Sp)(dvs:List V)(E:XK)(t:TA):TE:=λ σ H Q=>t σ H λvs H1=>sp (vs++dvs) H1 Q E
noncomputable def z5H(K:W.Frag)(fd:bB)(ps:List Str)(ds:List bb):Prop:=
 ∀(s:bf) (us:List bb),K.In s.heap->(us++ds).length=ps.length->dA s fd ⟨us,[]⟩ (ps.zip (us++ds))
def z5H.all{K:W.Frag}{fd:bB}{ps:List Str}(h: ∀us:List bb,us.length=ps.length->bindArgs fd ⟨us,[]⟩=pure (ps.zip us)):z5H K fd ps []:=λs us _ hl=>by
 rw[l4] at hl⊢
 exact .of_eq (h us hl)
noncomputable def z4O(CX:CXT)(X:Cx)(E:XK):Prop:= ∀(qx:List (Addr×bE)) (σ:St) (H:Hp) (s:bf) (e:bb) (s':bf),Inv X qx σ H s->CX X.stack H s E e s'->X.xe e s'
section
variable{X:Cx}{CX:CXT}{k:Nat}{f C:Addr}{fd:bB}{ps:List Str}{sp:Sp}{dvs:List V}{ds:List bb}{E:XK}{x m:Str}{p pos apos:bT}{e o:bh}{es:List bh}{ta:TE}{t:TA}
def zeN{qx:List (Addr×bE)}{σ:St}{H:Hp}{s:bf}{Q:VK}{us:List bb}{vs:List V}(F:z0W X.prog X.w X.K X.mg X.base CX k f fd ps sp)(hr:z3t k X.A)(hb:z5H X.K fd ps ds)(hd:U0 dvs ds)(hx:z4O CX X E)
 (I:Inv X qx σ H s) (r:U0 vs us) (h:sp (vs++dvs) H Q E):bg (bi X.prog X.w) X.A (call (.ref f) us) (EP X qx σ Q) X.xe s:=by
 have r2:U0 (vs++dvs) (us++ds):=r.append hd
 have hl:(us++ds).length=ps.length:=by rw[<-r2.length];exact F.len _ _ _ _ h
 refine wpAny_call (dB (F.run X.A X.stack s H ⟨us,[]⟩ (us++ds) (vs++dvs) Q E hr I.env0 (hb s us I.kIn hl) r2 h) λr s' hq=> ?_)
 cases r with
 |error e=>exact hx qx σ H s e s' I hq
 |ok fl=>
  cases fl with
  |ret u=>exact I.after hq
  |next=>exact False.elim hq
  |brk=>exact False.elim hq
  |cont=>exact False.elim hq
def zcs(F:z0W X.prog X.w X.K X.mg X.base CX k f fd ps sp)(hr:z3t k X.A)(hg:Gl X x)(hm:X.mg x=some (.ref f))(hk:W.keepIn X.K (.ref f)=true)(hb:z5H X.K fd ps ds)(hd:U0 dvs ds)(hx:z4O CX X E)
 (ha:PA X (e::es) t) (hdb:(x==("__debug__" :Str))=false:=by decide) (he:bj (e::es) X.env=(false,bF e X.env)::bj es X.env:=by rfl) (hpl:(bN pos (bj es X.env)).any (·.1)=false:=by rfl):
 PE X (.Call (.Name x p) (e::es) [] pos) (zhQ sp dvs E t):=by
 intro qx s σ H Q I h
 refine cy (z7R I hg hm ?_ hdb)
 refine W.callWith_K (h₀:=X.base) I.ok.mod.kin hk (thn (ha pos qx s σ H _ I h) λus s1 ⟨vs,H1,I1,r,q⟩=>⟨I1.kIn, ?_⟩) he hpl
 exact zeN F hr hb hd hx I1 r q
end
structure Q6(N P:List Str)(sc:Scope):Prop where
 kind:sc.kind= .function
 co:sc.isCoroutine=false
 gen:sc.isGenerator=false
 nd:N.Nodup
 pre:N.take P.length=P
 par: ∀x∈P,sc.names.lookup x=some .local\/sc.names.lookup x=some .cell
 nofree: ∀y∈sc.names,y.2≠ .free
theorem z4P{kindOf:Str->Option bS}{x:Str}: ∀{binds:List (Str×bb)} {m:Str->Option bb},(∀v,(x,v)∉binds)->ff kindOf binds m x=m x
 |[],_,_=>rfl
 |(n,v)::r,m,h=>by
  unfold ff
  rw[z4P λw hw=>h w (i5 _ hw)]
  split
  .have:x≠n:=by rintro rfl;exact h v l5
   simp[this]
  .rfl
theorem z4Q{kindOf:Str->Option bS}{x:Str}: ∀{binds:List (Str×bb)} {m:Str->Option bb},(∀v,(x,v)∉binds)->fg kindOf binds m x=m x
 |[],_,_=>rfl
 |(n,v)::r,m,h=>by
  unfold fg
  rw[z4Q λw hw=>h w (i5 _ hw)]
  split
  .rfl
  .have:x≠n:=by rintro rfl;exact h v l5
   simp[this]
theorem z4R{kindOf:Str->Option bS}{x:Str}{v:bb}: ∀{P:List Str} {vs:List bb} {i:Nat} {m:Str->Option bb},P.Nodup->P[i]? =some x->vs[i]? =some v->kindOf x=some .local->
 ff kindOf (P.zip vs) m x=some v
 |[],_,_,_,_,h,_,_=>by simp at h
 |_::_,[],_,_,_,_,h,_=>by simp at h
 |p::P,w::vs,0,m,nd,h1,h2,hk=>by
  simp at h1 h2;subst h1;subst h2
  show ff kindOf ((p,w)::P.zip vs) m p=_
  unfold ff
  rw[z4P λv hv=>(E3.mp nd).1 (S2 hv).1,qw hk]
  simp
 |p::P,w::vs,i+1,m,nd,h1,h2,hk=>by
  show ff kindOf ((p,w)::P.zip vs) m x=_
  unfold ff
  exact z4R (i:=i) (E3.mp nd).2 (by simpa using h1) (by simpa using h2) hk
theorem z4S{kindOf:Str->Option bS}{x:Str}{v:bb}: ∀{P:List Str} {vs:List bb} {i:Nat} {m:Str->Option bb},P.Nodup->P[i]? =some x->vs[i]? =some v->kindOf x≠some .local->
 fg kindOf (P.zip vs) m x=some v
 |[],_,_,_,_,h,_,_=>by simp at h
 |_::_,[],_,_,_,_,h,_=>by simp at h
 |p::P,w::vs,0,m,nd,h1,h2,hk=>by
  simp at h1 h2;subst h1;subst h2
  show fg kindOf ((p,w)::P.zip vs) m p=_
  unfold fg
  rw[z4Q λv hv=>(E3.mp nd).1 (S2 hv).1,qy hk]
  simp
 |p::P,w::vs,i+1,m,nd,h1,h2,hk=>by
  show fg kindOf ((p,w)::P.zip vs) m x=_
  unfold fg
  exact z4S (i:=i) (E3.mp nd).2 (by simpa using h1) (by simpa using h2) hk
noncomputable def z4T(N:List Str)(vs:List V):St:=vs.map some++A8 (N.length -vs.length) none
noncomputable def zbm(CX:CXT)(P:bm)(w:bo)(K:W.Frag)(mg:Str->Option bb)(base:Heap)(N:List Str)(qual:Str)(scope:Scope)(f:Addr)(cd:bb)(A:bq)(outer:List dn)(s:bf)(H:Hp)(E:XK):Cx where
 prog:=P
 w:=w
 K:=K
 mg:=mg
 base:=base
 A:=A.deeper (envOfC qual scope s.heap.objs.size f cd)
 N:=N
 s₀:=s
 H₀:=H
 env:=envOfC qual scope s.heap.objs.size f cd
 outer:=outer
 stack:=envOfC qual scope s.heap.objs.size f cd::outer
 ex:=[]
 calm:=true
 fn:=λ_=>true
 pn:=[]
 xe:=λe s'=>bg (bi P w) (A.deeper (envOfC qual scope s.heap.objs.size f cd)) (leaving (envOfC qual scope s.heap.objs.size f cd) e) (λ_ s''=>CX outer H s E e s'') (λe' s''=>CX outer H s E e' s'') s'
def z6s{sc:Scope}{n:Nat}{x:Str}(h:sc.names.lookup x=some .cell): ∃c,(bt n sc.names []).lookup x=some c:=by
 have q:=W.cellsFrom_some sc.names n [] (.inl h)
 exact P8.mp q
def z7Y{CX:CXT}{P:bm}{w:bo}{K:W.Frag}{mg:Str->Option bb}{base:Heap}{N ps:List Str}{qual:Str}{scope:Scope}{f:Addr}{cd:bb}{A:bq}{outer:List dn}{s s1:bf}{H:Hp}{E:XK}{us:List bb}{vs:List V}
 (S:Q6 N ps scope) (hd:A.handled=none) (e0:zho P w K mg base A outer s H) (hl:vs.length=ps.length) (r:U0 vs us)
 (x:InCallC s s.heap.objs.size (ff (envOfC qual scope s.heap.objs.size f cd).kindOf (ps.zip us) λ_=>none) (bt (s.heap.objs.size+1) scope.names []) (fg (envOfC qual scope s.heap.objs.size f cd).kindOf (ps.zip us) λ_=>none) s1):
 Inv (zbm CX P w K mg base N qual scope f cd A outer s H E) [] (z4T N vs) H s1:=by
 have hpl:ps.length<=N.length:=by have:=congrArg O0 S.pre;rw[A7] at this;lia
 obtain⟨h1,tk,rfl,hk⟩:=x.done
 have noA: ∀b:Addr,b∉(zbm CX P w K mg base N qual scope f cd A outer s H E).ex:=λb z=>absurd (show b∈([]:List Addr) from z) (by simp)
 refine⟨⟨e0.mod,S.kind,rfl,rfl,i8 _,λy z c h1 h2=> ?_,λy hy=> ?_,λy c _ h=> ?_,λ_=>hd,Around.frames_deeper e0.frames, .inr ⟨rfl,rfl⟩,λb z=>absurd z (noA b),e0.bs,e0.bsz,λb _ _=>noA b,λb z=>absurd z (noA b),e0.funs,e0.frf⟩,
  rfl,e0.bare,Un.kept hk,⟨_,x.toInCall.ns,λi y v h1 h2 h3=> ?_⟩,λy c h=>⟨_,x.cell y c h⟩,e0.hok.fresh (i8 _),λy c h=> ?_,λp hp=>absurd (show p∈([]:List (Addr×bE)) from hp) (by simp),e0.hok.kept hk, ?_⟩
 .exact name_of_addr x.apart (PySem.mem_of_lookup h1) (PySem.mem_of_lookup h2)
 .have hy:scope.names.lookup y=some .cell\/scope.names.lookup y=some .free:=hy
  rcases hy with hy|hy
  .exact z6s hy
  .exact absurd rfl (S.nofree _ (PySem.mem_of_lookup hy))
 .exact u02 (x.above y c (PySem.mem_of_lookup h))
 .have hi:i<vs.length:=by
   unfold z4T at h2
   by_cases hi:i<vs.length
   .exact hi
   .rw[List.getElem?_append_right (by simpa using hi)] at h2
    rw[List.getElem?_replicate] at h2
    split at h2<;>cases h2
  have ha:vs[i]? =some v:=by
   unfold z4T at h2
   rw[List.getElem?_append_left (by simpa using hi),List.getElem?_map] at h2
   cases e:vs[i]? with
   |none=>rw[e] at h2;cases h2
   |some a=>rw[e] at h2;cases h2;rfl
  obtain⟨u,hu,rv⟩:=r.get ha
  have hp:ps[i]? =some y:=by
   rw[<-S.pre,List.getElem?_take_of_lt ⋯];exact h1
  have ndP:ps.Nodup:=by rw[<-S.pre];exact S.nd.sublist (L6 _ _)
  refine⟨u,rv, ?_⟩
  rcases S.par y (List.mem_of_getElem? hp) with k|k
  .exact .inl ⟨k,z4R ndP hp hu k⟩
  .obtain⟨c,e⟩:=z6s (n:=s.heap.objs.size+1) k
   refine .inr ⟨.inl k,c,e, ?_⟩
   have q:=x.cell y c e
   rw[z4S ndP hp hu (by show scope.names.lookup y≠_;rw[k];decide)] at q
   exact q
 .exact e0.hok.fresh (u02 (x.above y c (PySem.mem_of_lookup h)))
 .unfold z4T
  show _=N.length
  rw[l8,l0,S4]
  lia
def zhR{CX:CXT}{P:bm}{w:bo}{K:W.Frag}{mg:Str->Option bb}{base:Heap}{k:Nat}{f:Addr}{name qual:Str}{params:Arguments}{body:List Stmt}{scope:Scope}{dV kV doc pm cdv ct oc:bb}{an od:Option Addr}
 {osl:Array (Option bb)} {N ps:List Str} {sp:Sp} (lk:K.lookup f=some ⟨oc,od, .func (W.fnOf name qual params body scope dV kV doc pm an cdv ct),osl⟩) (hcd:W.codeIn K cdv qual=true) (S:Q6 N ps scope)
 (len: ∀vs H Q E,sp vs H Q E->vs.length=ps.length)
 (hbody: ∀(A:bq) (outer:List dn) (s:bf) (H:Hp) (vs:List V) (Q:VK) (E:XK),z3t k (A.deeper (envOfC qual scope s.heap.objs.size f cdv))->sp vs H Q E->
  ∃t,PSs (zbm CX P w K mg base N qual scope f cdv A outer s H E) body t/\t {nx:=λ_ H'=>Q .non H',rt:=Q} (z4T N vs) H):
 z0W P w K mg base CX (k+1) f (W.fnOf name qual params body scope dV kV doc pm an cdv ct) ps sp:=by
 refine⟨len,λA outer s H args us vs Q E hr e0 hb r hsp=> ?_⟩
 have hl:=len _ _ _ _ hsp
 have KX:K.In s.heap:=e0.mod.kin.keeps λb o e=>(e0.bs b o e).1
 have lim:s.heap.NoLimit:=e0.mod.nolimit.keeps λb o e=>(e0.bs b o e).1
 have hkind: ∀y∈ps.zip us,scope.names.lookup y.1=some .local\/(scope.names.lookup y.1=some .cell/\((bt (s.heap.objs.size+1) scope.names []).lookup y.1).isSome=true):=λ⟨n,v⟩ hy=>by
  rcases S.par n (S2 hy).1 with q|q
  .exact .inl q
  .exact .inr ⟨q,W.cellsFrom_some _ _ _ (.inl q)⟩
 refine codeAny_call_function hr.depth (KX _ _ lk) rfl S.co S.gen rfl (W.codeRec_of KX hcd) (hb _ _ _ _ ?_)
 refine wpAny_newFunctionEnv_cells S.kind hkind λenv he s1 x=> ?_
 subst he
 refine⟨lim.keeps x.toInCall.keep,codeAny_func ?_⟩
 obtain⟨t,ht,hq⟩:=hbody A outer s H vs Q E (hr.deeper _) hsp
 have I:Inv (zbm CX P w K mg base N qual scope f cdv A outer s H E) [] (z4T N vs) H s1:=z7Y S hr.hd e0 hl r x
 refine bA (ht [] s1 (z4T N vs) H _ I hq) (λfl s' hs=> ?_) λe s' hs=>hs
 have fin: ∀{σ':St} {H':Hp} {v:V} {u:bb},Inv (zbm CX P w K mg base N qual scope f cdv A outer s H E) [] σ' H' s'->RelV v u->Q v H'->CE outer P w H s Q u s':=
  λ{σ' H' v u} J rv q=>⟨v,H',J.os,J.bare,J.base,J.hok,rv,q⟩
 cases fl with
 |ret u=>
  obtain⟨v,σ',H',J,rv,q⟩:=hs
  exact fin J rv q
 |next=>
  obtain⟨σ',H',J,q⟩:=hs
  exact fin (v:=V.non) (u:=Value.none) J rfl q
 |brk=>
  obtain⟨_,_,_,q⟩:=hs
  exact False.elim q
 |cont=>
  obtain⟨_,_,_,q⟩:=hs
  exact False.elim q
section
variable{X:Cx}{x:Str}{p pos:bT}{e:bh}{es:List bh}{t:TA}{id T:String}{r:List V->Hp->VK->Prop}
noncomputable def tCB(r:List V->Hp->VK->Prop)(t:TA):TE:=λ σ H Q=>t σ H λvs H1=>r vs H1 Q
def z6t(hc:CallR X (.builtin id) r)(hg:Gl X x)(hm:X.mg x=none)(hv:bG x=some (.builtin id))(ha:PA X (e::es) t)(hn:x≠ "__name__" :=by decide)(hdb:(x==("__debug__" :Str))=false:=by decide)
 (he:bj (e::es) X.env=(false,bF e X.env)::bj es X.env:=by rfl) (hpl:(bN pos (bj es X.env)).any (·.1)=false:=by rfl):PE X (.Call (.Name x p) (e::es) [] pos) (tCB r t):=by
 intro qx s σ H Q I h
 refine cy (z6q I hg hm hv ?_ hn hdb)
 exact PyProof.Rows.callWith_builtin1 (thn (ha pos qx s σ H _ I h) λus s1 ⟨vs,H1,I1,r1,q1⟩=>hc qx s1 σ H1 vs us Q I1 r1 q1) he hpl
def z7Z(hc:CallR X (.type T) r)(hg:Gl X x)(hm:X.mg x=none)(hv:bG x=some (.type T))(ha:PA X (e::es) t)(hn:x≠ "__name__" :=by decide)(hdb:(x==("__debug__" :Str))=false:=by decide)
 (he:bj (e::es) X.env=(false,bF e X.env)::bj es X.env:=by rfl) (hpl:(bN pos (bj es X.env)).any (·.1)=false:=by rfl):PE X (.Call (.Name x p) (e::es) [] pos) (tCB r t):=by
 intro qx s σ H Q I h
 refine cy (z6q I hg hm hv ?_ hn hdb)
 exact PyProof.Rows.callWith_type1 (thn (ha pos qx s σ H _ I h) λus s1 ⟨vs,H1,I1,r1,q1⟩=>hc qx s1 σ H1 vs us Q I1 r1 q1) he hpl
end
end L2
namespace HT
open PySem PyProof.Rows
section
open PySem.SeqAt
open PySem.AutoSeq1 (wpAny_loadPart')
open PySem.MeetsSeq PySem.MeetsSeq2 PySem.MeetsSeq3
end
section
variable{prog:bm}{w:bo}{A:bq}{E:bb->bf->Prop}{s:bf}
def cat_tup{t b:Addr}{vs ws:List bb}{Q:bb->bf->Prop}(ht:fy s.heap t vs.toArray)(hb:fy s.heap b ws.toArray)(hv:vs≠[])
 (h1:ws=[]->Q (.ref t) s) (h2:ws≠[]->Q (.ref s.heap.objs.size) {s with heap:=s.heap.push {cls:= .type "tuple",data:= .seq (vs++ws).toArray}})
 (hsz:vs.length+ws.length<=qh):bg (bi prog w) A (bY .Add (.ref t) (.ref b)) Q E s:=by
 obtain⟨⟨cls,dd,data,sl⟩,ho,hc,n,hd⟩:=id ht
 obtain⟨⟨cls2,dd2,data2,sl2⟩,ho2,hc2,n2,hd2⟩:=id hb
 simp only at hc hd hc2 hd2
 subst hc hd hc2 hd2
 have e:vs.toArray++ws.toArray=(vs++ws).toArray:=by simp
 by_cases hw:ws=[]
 .exact dD ⟨_,ho,rfl⟩ ⟨_,ho2,rfl⟩ cH di PySem.F.slot_tuple_add PySem.F.entry_tuple_add (PySem.F.args_tuple_add_2 _ _)
   (tuple_addW1 t b vs.toArray ws.toArray n n2 dd dd2 sl sl2 (by simpa using hv) (by simp[hw])) ⟨ho,ho2,h1 hw⟩
 .refine dD ⟨_,ho,rfl⟩ ⟨_,ho2,rfl⟩ cH di PySem.F.slot_tuple_add PySem.F.entry_tuple_add (PySem.F.args_tuple_add_2 _ _)
   (tuple_addW2 t b vs.toArray ws.toArray n n2 dd dd2 sl sl2 (by simpa using hv) (by simpa using hw) (by rw[l9,l9];exact hsz)) ⟨ho,ho2, ?_⟩
  rw[e]
  exact h2 hw
noncomputable def sIx(n d:Nat):Option Int->Nat
 |none=>d
 |some v=>if v<0 then(v+(n:Int)).toNat else min v.toNat n
def sIx_none(n d:Nat):sIx n d none=d:=rfl
def sIx_nat(n d k:Nat):sIx n d (some (k:Int))=min k n:=by
 show(if(k:Int)<0 then((k:Int)+(n:Int)).toNat else min (k:Int).toNat n)=min k n
 rw[qy ⋯,L7]
def zeO(n d:Nat)(hd:d<=n)(o:Option Int):sIx n d o<=n:=by
 cases o with
 |none=>exact hd
 |some v=>
  show(if v<0 then(v+(n:Int)).toNat else min v.toNat n)<=n
  by_cases hv:v<0
  .rw[qw hv];lia
  .rw[qy hv];exact u08 _ _
def z80(v:Int)(n d:Nat):(if v<0 then max (v+(n:Int)) 0 else min v (n:Int))=((sIx n d (some v):Nat):Int):=by
 show(if v<0 then max (v+(n:Int)) 0 else min v (n:Int))=(((if v<0 then(v+(n:Int)).toNat else min v.toNat n):Nat):Int)
 by_cases hv:v<0
 .erw[qw hv];lia
 .erw[qy hv];lia
def z7b(lo hi:Option Int)(n:Nat):Builtin.Slice.sliceAdjust lo hi 1 (n:Int)=(((sIx n 0 lo:Nat):Int),((sIx n n hi:Nat):Int)):=by
 have h1: ¬((1:Int)<0):=by lia
 delta Builtin.Slice.sliceAdjust
 erw[h1,if_false]
 refine Prod.ext ?_ ?_
 .cases lo with
  |none=>rfl
  |some v=>exact z80 v n 0
 .cases hi with
  |none=>rfl
  |some v=>exact z80 v n n
def z7c(i j:Nat):Builtin.Slice.slicePlaces (i:Int) (j:Int) 1=j -i:=by
 delta Builtin.Slice.slicePlaces
 have h1:(1:Int)>0:=by lia
 erw[h1,if_true,Int.ediv_one]
 split<;>lia
def z3A{v:bb}{o:Option Int}{Q:Option Int->bf->Prop}(p:cJ v o)(h:Q o s):bg (bi prog w) A (Builtin.Slice.slicePartIndex v) Q E s:=by
 cases p with
 |none=>exact slicePart_none h
 |int i t=>exact slicePart_int h
def z0Q{sl:Addr}{vl vu:bb}{lo hi:Option Int}{n:Nat}{Q:Int×Int×Nat->bf->Prop}(hs:s.heap.IsSliceOf sl vl vu .none)(pl:cJ vl lo)(pu:cJ vu hi)
 (h:Q (((sIx n 0 lo:Nat):Int),1,sIx n n hi -sIx n 0 lo) s):bg (bi prog w) A (Builtin.Slice.sliceApplied (.ref sl) (pure (n:Int))) Q E s:=by
 obtain⟨os,hos,hcs,hds⟩:=id hs
 delta Builtin.Slice.sliceApplied Builtin.Slice.sliceFields
 refine ba (ba (cf hos hds (x:=vl) rfl (ba (cf hos hds (x:=vu) rfl (ba (cf hos hds (x:= .none) rfl (be ?_)))))))
 refine ba (slicePart_none ?_)
 show bg _ _ (if((1:Int)==0)=true then _ else _) _ _ s
 rw[qy (by decide)]
 refine ba (z3A pl (ba (z3A pu (ba (be ?_)))))
 show bg _ _ (match Builtin.Slice.sliceAdjust lo hi 1 (n:Int) with|(lo,hi)=>pure (lo,(1:Int),Builtin.Slice.slicePlaces lo hi 1)) _ _ s
 rw[z7b lo hi n]
 show bg _ _ (pure (((sIx n 0 lo:Nat):Int),(1:Int),Builtin.Slice.slicePlaces ((sIx n 0 lo:Nat):Int) ((sIx n n hi:Nat):Int) 1)) _ _ s
 rw[z7c]
 exact be h
def za1(xs:Array bb)(i k:Nat):((B5 k).filterMap λ(m:Nat)=>xs[((i:Int)+(m:Int)*1).toNat]?).toArray=((xs.toList.drop i).take k).toArray:=by
 have e:(λ(m:Nat)=>xs[((i:Int)+(m:Int)*1).toNat]?)=λm=>xs[i+m]? :=by
  funext m
  have:((i:Int)+(m:Int)*1).toNat=i+m:=by lia
  rw[this]
 rw[e]
 have:=pick_run xs i k
 rw[List.filterMap_map] at this
 have e2:((λx=>xs[x]?)∘λx=>i+x)=λm=>xs[i+m]? :=rfl
 rw[e2] at this
 rw[this]
def getItem_tuple_cut{t sl:Addr}{items:Array bb}{vl vu:bb}{lo hi:Option Int}{Q:bb->bf->Prop}(ht:fy s.heap t items)(hs:s.heap.IsSliceOf sl vl vu .none)(pl:cJ vl lo)(pu:cJ vu hi)
 (hw: ¬(sIx items.size 0 lo=0/\sIx items.size items.size hi=items.size))
 (h:Q (.ref s.heap.objs.size) {s with heap:=s.heap.push {cls:= .type "tuple",data:= .seq ((items.toList.drop (sIx items.size 0 lo)).take (sIx items.size items.size hi -sIx items.size 0 lo)).toArray}})
 (hsz:items.size<=qh):bg (bi prog w) A (cw (.ref t) (.ref sl)) Q E s:=by
 have htake:sizeOk (.seq ((items.toList.drop (sIx items.size 0 lo)).take (sIx items.size items.size hi -sIx items.size 0 lo)).toArray):=by
  show((items.toList.drop (sIx items.size 0 lo)).take (sIx items.size items.size hi -sIx items.size 0 lo)).toArray.size<=qh
  rw[l9,A7,B8,Array.length_toList]
  lia
 have hj:sIx items.size items.size hi<=items.size:=zeO _ _ (i8 _) hi
 obtain⟨os,hos,hcs,hds⟩:=id hs
 have hTs:s.TypeIs (.ref sl) "slice" :=⟨os,hos,hcs⟩
 delta cw
 try with_reducible refine br ?_
 first|refine ba (be ?_)|skip
 refine ba (dE ht.typeIs (by decide) ?_)
 refine ba (wpAny_callSpecial?_slot (name:=Str.ofString "__getitem__") ht.typeIs PyProof.Rows.slot_tuple_getitem
  (bu PyProof.Rows.slot_tuple_getitem ht.typeIs df ?_ (dt _ _)))
 show bg _ _ (Builtin.Tuple.tupleItemsOf (.ref t)>>=_) _ _ s
 refine ba (tupleItemsOf_ ht ?_)
 refine ba (dF hTs ?_)
 rw[qw (by decide)]
 refine ba (z0Q hs pl pu ?_)
 have hno: ¬((((sIx items.size 0 lo:Nat):Int)==0&&(1:Int)==1&&(sIx items.size items.size hi -sIx items.size 0 lo)==items.size)=true):=by
  intro q
  rw[A3,A3] at q
  have q1:((sIx items.size 0 lo:Nat):Int)=0:=eq_of_beq q.1.1
  have q2:sIx items.size items.size hi -sIx items.size 0 lo=items.size:=eq_of_beq q.2
  exact hw ⟨⋯,⋯⟩
 show bg _ _ (if(((sIx items.size 0 lo:Nat):Int)==0&&(1:Int)==1&&(sIx items.size items.size hi -sIx items.size 0 lo)==items.size)=true then _ else _) _ _ s
 rw[qy hno,za1]
 first
  |exact ba (m:=Builtin.Tuple.tupleExact _) (bp (be ⟨_,rfl,be h⟩) htake)
  |exact ba (m:=Builtin.Tuple.tupleExact _) (bp (ba (be (be ⟨_,rfl,be h⟩))) htake)
  |exact ba (ba (m:=Builtin.Tuple.tupleExact _) (bp (be (be ⟨_,rfl,be h⟩)) htake))
  |exact ba (ba (m:=Builtin.Tuple.tupleExact _) (bp (be ⟨_,rfl,be h⟩) htake))
end
end HT
namespace L2
open PySem PySem.Spec PyProof.Rows
noncomputable abbrev TO:=St->Hp->(Option Int->Hp->Prop)->Prop
noncomputable def PO(X:Cx)(e:Option bh)(t:TO):Prop:=
 ∀(qx:List (Addr×bE)) (s:bf) (σ:St) (H:Hp) (Q:Option Int->Hp->Prop),Inv X qx σ H s->t σ H Q->
  bg (bi X.prog X.w) X.A (evalPart e X.env) (λu s'=> ∃o H',Inv X qx σ H' s'/\cJ u o/\Q o H') X.xe s
noncomputable def zct:TO:=λ_ H Q=>Q none H
noncomputable def zhS(t:TE):TO:=λ σ H Q=>t σ H λx H1=> ∃i,x= .int i/\Q (some i) H1
section
variable{X:Cx}{e:bh}{te:TE}{lo hi:Option bh}{tl th:TO}{pos p2:bT}
def zcu:PO X none zct:=by
 intro qx s σ H Q I h
 rw[evalPart_none]
 exact be ⟨none,H,I, .none,h⟩
def zcv(h:PE X e te):PO X (some e) (zhS te):=by
 intro qx s σ H Q I hw
 rw[evalPart_some]
 refine thn (h qx s σ H _ I hw) ?_
 rintro u s1 ⟨x,H1,I1,r1,q1⟩
 obtain⟨i,rfl,q⟩:=q1
 obtain⟨t,rfl⟩:=r1
 exact⟨some i,H1,I1, .int i t,q⟩
noncomputable def SlR(X:Cx)(r:V->Option Int->Option Int->Hp->VK->Prop):Prop:=
 ∀(qx:List (Addr×bE)) (s:bf) (σ:St) (H:Hp) (x:V) (v vl vu:bb) (lo hi:Option Int) (sl:Addr) (Q:VK),Inv X qx σ H s->RelV x v->s.heap.IsSliceOf sl vl vu .none->cJ vl lo->cJ vu hi->r x lo hi H Q->
  ∃T id,typeLookup (.type T) "__getitem__" =pure (some (.builtin id))/\s.TypeIs v T/\bg (bi X.prog X.w) X.A (cw v (.ref sl)) (EP X qx σ Q) X.xe s
def SlR.or{r r':V->Option Int->Option Int->Hp->VK->Prop}(h:SlR X r)(h':SlR X r'):SlR X (λx lo hi H Q=>r x lo hi H Q\/r' x lo hi H Q):=by
 intro qx s σ H x v vl vu lo hi sl Q I rx hs pl pu q
 rcases q with q|q
 .exact h qx s σ H x v vl vu lo hi sl Q I rx hs pl pu q
 .exact h' qx s σ H x v vl vu lo hi sl Q I rx hs pl pu q
noncomputable def tSl(r:V->Option Int->Option Int->Hp->VK->Prop)(te:TE)(tl th:TO):TE:=λ σ H Q=>te σ H λx H1=>tl σ H1 λl H2=>th σ H2 λu H3=>r x l u H3 Q
def za2{r:V->Option Int->Option Int->Hp->VK->Prop}(hr:SlR X r)(he:PE X e te)(hl:PO X lo tl)(hu:PO X hi th):PE X (.Subscript e (.Slice lo hi none p2) pos) (tSl r te tl th):=by
 intro qx s σ H Q I h
 refine fh (thn (he qx s σ H _ I h) ?_)
 rintro v s1 ⟨x,H1,I1,r1,q1⟩
 refine wpAny_Slice (thn (hl qx s1 σ H1 _ I1 q1) λvl s2 ⟨l,H2,I2,pl,q2⟩=>thn (hu qx s2 σ H2 _ I2 q2) ?_)
 rintro vu s3 ⟨u,H3,I3,pu,q3⟩
 rw[evalPart_none]
 refine be ?_
 have I4:Inv X qx σ H3 {s3 with heap:=s3.heap.push {cls:= .type "slice",data:= .fields #[vl,vu, .none]}}:=I3.kept (t':=s3.toks) λb ob q=>Heap.get?_push_of_some _ q
 obtain⟨T,id,hT,ht,hg⟩:=hr qx {s3 with heap:=s3.heap.push {cls:= .type "slice",data:= .fields #[vl,vu, .none]}} σ H3 x v vl vu l u s3.heap.objs.size Q I4 r1 (Heap.IsSliceOf.new ..) pl pu q3
 show bg (bi X.prog X.w) X.A (dj e (.Slice lo hi none p2) v (.ref s3.heap.objs.size)) (EP X qx σ Q) X.xe {s3 with heap:=s3.heap.push {cls:= .type "slice",data:= .fields #[vl,vu, .none]}}
 exact tail_any (ops:=[.ref s3.heap.objs.size,v]) ht hT hg (by with_unfolding_all rfl)
noncomputable def z81(xs:List V)(lo hi:Option Int):List V:=(xs.drop (HT.sIx xs.length 0 lo)).take (HT.sIx xs.length xs.length hi -HT.sIx xs.length 0 lo)
def z2J(xs:List V)(lo hi:Option Int):(z81 xs lo hi).length<=xs.length:=by
 delta z81
 rw[A7,B8]
 lia
noncomputable def zjT(K:W.Frag):V->Option Int->Option Int->Hp->VK->Prop:=λx lo hi H Q=> ∃a xs,x= .ref a/\SqT K H a xs/\
 ¬(HT.sIx xs.length 0 lo=0/\HT.sIx xs.length xs.length hi=xs.length)/\∀p,H p=none->Q (.ref p) (upd H p (.tup (z81 xs lo hi)))
def zeP:SlR X (zjT X.K):=by
 intro qx s σ H x v vl vu lo hi sl Q I rx hs pl pu h
 obtain⟨a,xs,rfl,hx,hw,q⟩:=h
 cases rx
 obtain⟨its,r,ht,hz⟩:=I.tuple hx
 have hlen:its.toArray.size=xs.length:=by rw[l9];exact r.length.symm
 refine⟨"tuple",_,PyProof.Rows.slot_tuple_getitem.lookup,ht.typeIs, ?_⟩
 refine HT.getItem_tuple_cut ht hs pl pu (by rw[hlen];exact hw) ?_ (by rw[hlen];exact hz)
 rw[hlen]
 refine⟨.ref s.heap.objs.size,_,I.laid (t':=s.toks) (o:= .tup (z81 xs lo hi)) (λb ob q=>Heap.get?_push_of_some _ q) (i8 _) ?_,rfl,q _ (I.hok.fresh (i8 _))⟩
 exact⟨C1 (z2J xs lo hi) hz,_,(r.drop (HT.sIx xs.length 0 lo)).take (HT.sIx xs.length xs.length hi -HT.sIx xs.length 0 lo),IsTup.new _ _⟩
noncomputable def zhT(K:W.Frag):R2:=λx y H Q=> ∃a b xs ys,x= .ref a/\y= .ref b/\SqT K H a xs/\SqT K H b ys/\xs≠[]/\xs.length+ys.length<=qh/\
 (ys=[]->Q (.ref a) H)/\(ys≠[]->∀p,H p=none->Q (.ref p) (upd H p (.tup (xs++ys))))
def U0.nil_iff{xs:List V}{us:List bb}(r:U0 xs us):us=[]↔xs=[]:=by
 cases r with
 |nil=>simp
 |cons _ _=>simp
def zcw:OpR X (bY .Add) (zhT X.K):=by
 intro qx s σ H x y v u Q I rx ry h
 obtain⟨a,b,xs,ys,rfl,rfl,ha,hb,hx,hz,q1,q2⟩:=h
 cases rx
 cases ry
 obtain⟨its,r1,p1,_⟩:=I.tuple ha
 obtain⟨its2,r2,p2,_⟩:=I.tuple hb
 refine HT.cat_tup p1 p2 (λz=>hx (r1.nil_iff.mp z)) (λz=>⟨.ref a,H,I,rfl,q1 (r2.nil_iff.mp z)⟩) (λz=> ?_) (by rw[<-r1.length,<-r2.length];exact hz)
 refine⟨.ref s.heap.objs.size,_,I.laid (t':=s.toks) (o:= .tup (xs++ys)) (λb ob q=>Heap.get?_push_of_some _ q) (i8 _) ?_,rfl,q2 (λw=>z (r2.nil_iff.mpr w)) _ (I.hok.fresh (i8 _))⟩
 exact⟨by rw[l8];exact hz,_,r1.append r2,IsTup.new _ _⟩
end
noncomputable def ixN(n:Nat)(i:Int):Option Nat:=if 0<=i then(if i<n then some i.toNat else none) else if -(n:Int)<=i then some (i+n).toNat else none
noncomputable def atI{α:Type}(xs:List α)(i:Int):Option α:=(ixN xs.length i).bind λj=>xs[j]?
def z82{n:Nat}{i:Int}{j:Nat}(h:ixN n i=some j):seqIndex? i n=some j/\j<n/\-(n:Int)<=i/\i<n:=by
 delta ixN at h
 by_cases h0:0<=i
 .rw[qw h0] at h
  by_cases h1:i<n
  .rw[qw h1] at h
   have e:i.toNat=j:=Option.some.inj h
   exact⟨by rw[dQ h0 h1,e],⋯,⋯,h1⟩
  .rw[qy h1] at h;cases h
 .rw[qy h0] at h
  by_cases h1: -(n:Int)<=i
  .rw[qw h1] at h
   have e:(i+n).toNat=j:=Option.some.inj h
   exact⟨by rw[dG ⋯ h1,e],⋯,h1,⋯⟩
  .rw[qy h1] at h;cases h
def z83{α:Type}{xs:List α}{i:Int}{v:α}(h:atI xs i=some v): ∃j,seqIndex? i xs.length=some j/\xs[j]? =some v/\j<xs.length/\-(xs.length:Int)<=i/\i<xs.length:=by
 delta atI at h
 cases e:ixN xs.length i with
 |none=>rw[e] at h;cases h
 |some j=>
  rw[e] at h
  obtain⟨h1,h2,h3,h4⟩:=z82 e
  exact⟨j,h1,h,h2,h3,h4⟩
def zcx{α:Type}{xs:List α}{j:Nat}{v:α}(h:xs[j]? =some v):atI xs (j:Int)=some v:=by
 have hj:j<xs.length:=(List.getElem?_eq_some_iff.mp h).1
 have e:ixN xs.length (j:Int)=some j:=by
  delta ixN
  rw[qw ⋯,qw ⋯];simp
 delta atI;rw[e];exact h
noncomputable def z1T(b:bh):Prop:= ∀o i,cT b false o i=operate [o,i] (cw o i)
noncomputable def IxR(X:Cx)(r:R2):Prop:=
 ∀(value slice:bh) (qx:List (Addr×bE)) (s:bf) (σ:St) (H:Hp) (x y:V) (v u:bb) (Q:VK),Inv X qx σ H s->RelV x v->RelV y u->r x y H Q->
  cT slice false v u=operate [v,u] (cw v u)->bg (bi X.prog X.w) X.A (dj value slice v u) (EP X qx σ Q) X.xe s
noncomputable def MtR(X:Cx)(id:String)(r:V->List V->Hp->VK->Prop):Prop:=
 ∀(qx:List (Addr×bE)) (s:bf) (σ:St) (H:Hp) (x:V) (xs:List V) (v:bb) (us:List bb) (Q:VK),Inv X qx σ H s->RelV x v->U0 xs us->r x xs H Q->
  bg (bi X.prog X.w) X.A (call (.builtin id) (v::us)) (EP X qx σ Q) X.xe s
section
variable{X:Cx}{a b:bh}{ta tb:TE}{pos:bT}
def IxR.or{r r':R2}(h:IxR X r)(h':IxR X r'):IxR X (λx y H Q=>r x y H Q\/r' x y H Q):=by
 intro value slice qx s σ H x y v u Q I rx ry q hs
 rcases q with q|q
 .exact h value slice qx s σ H x y v u Q I rx ry q hs
 .exact h' value slice qx s σ H x y v u Q I rx ry q hs
def zhU{r:R2}(hr:IxR X r)(ha:PE X a ta)(hb:PE X b tb)(hs:z1T b):PE X (.Subscript a b pos) (tOp r ta tb):=by
 intro qx s σ H Q I h
 exact fh (zhJ ha hb I h λv u s2 x y H2 I2 rx ry q=>hr a b qx s2 σ H2 x y v u Q I2 rx ry q (hs _ _))
noncomputable def zjo(K:W.Frag):R2:=λx y H Q=> ∃p xs i v,x= .ref p/\y= .int i/\SqL K H p xs/\atI xs i=some v/\Q v H
noncomputable def zjp(K:W.Frag):R2:=λx y H Q=> ∃p xs i v,x= .ref p/\y= .int i/\SqT K H p xs/\atI xs i=some v/\Q v H
def zcy:IxR X (zjo X.K):=by
 intro value slice qx s σ H x y v u Q I rx ry h hs
 obtain⟨p,xs,i,z,rfl,rfl,hq,he,q⟩:=h
 cases rx
 obtain⟨t,rfl⟩:=ry
 obtain⟨its,r,pl,hz⟩:=I.list hq
 obtain⟨j,h1,h2,h3,h4,h5⟩:=z83 he
 obtain⟨w,ew,rw'⟩:=r.get h2
 have hl:=r.length
 have hn:=z4N
 have fin:EP X qx σ Q w s:=⟨z,H,I,rw',q⟩
 by_cases h0:0<=i
 .have hj:i.toNat=j:=by
   rw[dQ h0 h5] at h1
   exact Option.some.inj h1
  exact item_listR pl.isList h0 ⋯ (by rw[hj];simpa using ew) fin hs
 .have hj:(i+(its.toArray.size:Int)).toNat=j:=by
   rw[dG ⋯ h4] at h1
   rw[l9,<-hl]
   exact Option.some.inj h1
  exact cK (x:=w) pl.isList.typeIs slot_list_getitem.lookup
   (wpAny_getItem_list_neg (Q:=λr s'=>r=w/\EP X qx σ Q r s') pl.isList ⋯ (by rw[l9]<;>lia) ⋯ (by rw[hj];simpa using ew) ⟨rfl,fin⟩) hs
def zeQ:IxR X (zjp X.K):=by
 intro value slice qx s σ H x y v u Q I rx ry h hs
 obtain⟨p,xs,i,z,rfl,rfl,hq,he,q⟩:=h
 cases rx
 obtain⟨t,rfl⟩:=ry
 obtain⟨its,r,pl,hz⟩:=I.tuple hq
 obtain⟨j,h1,h2,h3,h4,h5⟩:=z83 he
 obtain⟨w,ew,rw'⟩:=r.get h2
 have hl:=r.length
 have hn:=z4N
 have fin:EP X qx σ Q w s:=⟨z,H,I,rw',q⟩
 exact cK (x:=w) pl.typeIs slot_tuple_getitem.lookup
  (getItem_tuple (j:=j) (Q:=λr s'=>r=w/\EP X qx σ Q r s') pl ⋯ ⋯ (by rw[l9,<-hl];exact h1) (by simpa using ew) ⟨rfl,fin⟩) hs
def z7d(its:List bb)(n j:Nat)(u:bb):Obj.mapSeq (·.setIfInBounds j u) {cls:= .type "list",data:= .seq its.toArray n}={cls:= .type "list",data:= .seq (its.set j u).toArray n}:=by
 simp[Obj.mapSeq]
def Inv.lst{qx:List (Addr×bE)}{σ:St}{H:Hp}{s:bf}{p:Addr}{xs:List V}(I:Inv X qx σ H s)(h:H p=some (.lst xs)):
 ∃(its:List bb) (n:Nat),U0 xs its/\s.heap.get? p=some {cls:= .type "list",data:= .seq its.toArray n}/\xs.length<=qh:=by
 obtain⟨z,its,n,r,e⟩:=I.hok p _ h
 exact⟨its,n,r,e,z⟩
def Inv.lstUpd{qx:List (Addr×bE)}{σ:St}{H:Hp}{s:bf}{p:Addr}{xs ys:List V}{its its':List bb}{n n':Nat}{f:bE->bE}(I:Inv X qx σ H s)(h:H p=some (.lst xs))
 (ho:s.heap.get? p=some {cls:= .type "list",data:= .seq its.toArray n}) (hf:f {cls:= .type "list",data:= .seq its.toArray n}={cls:= .type "list",data:= .seq its'.toArray n'}) (r:U0 ys its') (hz:ys.length<=qh) (t:Nat):
 Inv X qx σ (upd H p (.lst ys)) {s with heap:=s.heap.update p f,toks:=t}:=by
 have e:(s.heap.update p f).get? p=some {cls:= .type "list",data:= .seq its'.toArray n'}:=by
  rw[Heap.get?_update_self f ho (by rw[hf]<;>rfl),hf]
 refine I.write (x:=p) (e:=p) (by rw[h];trivial) (.inl rfl) (λb u hb q=>(Heap.get?_update_other _ _ (Ne.symm hb)).trans q) ⟨_,e⟩ ?_
 exact⟨hz,its',n',r,e⟩
noncomputable def zcz:V->V->V->Hp->(Hp->Prop)->Prop:=λo i v H Q=> ∃p xs k j,o= .ref p/\i= .int k/\H p=some (.lst xs)/\ixN xs.length k=some j/\Q (upd H p (.lst (xs.set j v)))
def z6u:zjl X zcz:=by
 intro qx s σ H o i v ov iv u Q I ro ri rv h
 obtain⟨p,xs,k,j,rfl,rfl,hp,hj,q⟩:=h
 cases ro
 obtain⟨t,rfl⟩:=ri
 obtain⟨its,n,r,ho,hz⟩:=I.lst hp
 obtain⟨h1,h2,h3,h4⟩:=z82 hj
 have hl:=r.length
 have hn:=z4N
 have I':Inv X qx σ (upd H p (.lst (xs.set j v))) {s with heap:=s.heap.update p (Obj.mapSeq (·.setIfInBounds j u))}:=
  I.lstUpd hp ho (z7d its n j u) (r.set rv j) (by rw[u0g];exact hz) s.toks
 by_cases h0:0<=k
 .have hk:k.toNat=j:=by
   rw[dQ h0 h4] at h1
   exact Option.some.inj h1
  exact W.ki_setAt ho h0 ⋯ (by rw[l9,<-hl];exact h4) (by rw[hk];exact⟨_,I',q⟩)
 .have hk:(k+(its.toArray.size:Int)).toNat=j:=by
   rw[dG ⋯ h3] at h1
   rw[l9,<-hl]
   exact Option.some.inj h1
  exact W.ki_setBack ho ⋯ (by rw[l9,<-hl];exact h3) ⋯ (by rw[hk];exact⟨_,I',q⟩)
def z4U(lo hi:Option Int)(n:Nat):(cg lo hi none n).1=((HT.sIx n 0 lo:Nat):Int)/\(cg lo hi none n).2.1=((HT.sIx n n hi:Nat):Int)/\(cg lo hi none n).2.2=1:=by
 refine⟨?_, ?_,rfl⟩
 .cases lo with
  |none=>simp[cg,HT.sIx]
  |some i=>
   erw[cg,HT.sIx,N6,show(1:Int)>0 by decide,if_true]
   by_cases h:i<0
   .erw[h,if_true]<;>lia
   .erw[h,if_false]<;>lia
 .cases hi with
  |none=>simp[cg,HT.sIx]
  |some i=>
   erw[cg,HT.sIx,N6,show(1:Int)>0 by decide,if_true]
   by_cases h:i<0
   .erw[h,if_true]<;>lia
   .erw[h,if_false]<;>lia
def z40(its:List bb)(lo hi:Option Int):slicePick its.toArray lo hi none=((its.drop (HT.sIx its.length 0 lo)).take (HT.sIx its.length its.length hi -HT.sIx its.length 0 lo)).toArray:=by
 obtain⟨h1,h2,h3⟩:=z4U lo hi its.toArray.size
 delta slicePick
 rw[h1,h2,h3]
 erw[sliceRange_one,pick_run,l9]<;>rfl
noncomputable def zhV(K:W.Frag):V->Option Int->Option Int->Hp->VK->Prop:=λx lo hi H Q=> ∃a xs,x= .ref a/\SqL K H a xs/\∀p,H p=none->Q (.ref p) (upd H p (.lst (z81 xs lo hi)))
def zcA:SlR X (zhV X.K):=by
 intro qx s σ H x v vl vu lo hi sl Q I rx hs pl pu h
 obtain⟨a,xs,rfl,hx,q⟩:=h
 cases rx
 obtain⟨its,r,ht,hz⟩:=I.list hx
 have hlen:=r.length
 refine⟨"list",_,slot_list_getitem.lookup,ht.isList.typeIs, ?_⟩
 refine wpAny_getItem_list_slice ht.isList hs pl pu .none (by simp) ?_ (by rw[l9]<;>lia)
 rw[z40,<-hlen]
 refine⟨.ref s.heap.objs.size,_,I.laid (t':=s.toks) (o:= .lst (z81 xs lo hi)) (λb ob q=>Heap.get?_push_of_some _ q) (i8 _) ?_,rfl,q _ (I.hok.fresh (i8 _))⟩
 exact⟨C1 (z2J xs lo hi) hz,_,0,(r.drop (HT.sIx xs.length 0 lo)).take (HT.sIx xs.length xs.length hi -HT.sIx xs.length 0 lo),Heap.get?_push_size _ rfl⟩
def z4V:CallR X (.builtin "len") (λxs H Q=> ∃p ys,xs=[.ref p]/\(SqL X.K H p ys\/SqT X.K H p ys)/\Q (.int ys.length) H):=by
 intro qx s σ H xs us Q I r h
 obtain⟨p,ys,rfl,hq,q⟩:=h
 obtain⟨u,rfl,rx⟩:=z3Z r
 cases rx
 have hn:=z4N
 rcases hq with hq|hq
 .obtain⟨its,r',pl,hz⟩:=I.list hq
  have hlen:=r'.length
  exact Calls.call_len_list pl.isList (by erw[l9]<;>lia) ⟨.int ys.length,H,I.tok _,⟨s.toks+1,by rw[l9,hlen]⟩,q⟩
 .obtain⟨its,r',pl,hz⟩:=I.tuple hq
  have hlen:=r'.length
  exact len_tuple pl (by erw[l9]<;>lia) ⟨.int ys.length,H,I.tok _,⟨s.toks+1,by rw[l9,hlen]⟩,q⟩
def z4W:CallR X (.type "list") (λxs H Q=> ∃p ys,xs=[.ref p]/\(SqL X.K H p ys\/SqT X.K H p ys)/\∀l,H l=none->Q (.ref l) (upd H l (.lst ys))):=by
 intro qx s σ H xs us Q I r h
 obtain⟨p,ys,rfl,hq,q⟩:=h
 obtain⟨u,rfl,rx⟩:=z3Z r
 cases rx
 have fin: ∀(its:List bb),U0 ys its->ys.length<=qh->∀(h':Heap) (c':Nat),(∀b o',s.heap.get? b=some o'->h'.get? b=some o')->
  h'.get? s.heap.objs.size=some {cls:= .type "list",dict:=none,data:= .seq its.toArray c',slots:= #[]}->EP X qx σ Q (.ref s.heap.objs.size) {s with heap:=h'}:=λits r' hz h' c' kp e=>
  ⟨.ref s.heap.objs.size,_,I.laid (t':=s.toks) kp (i8 _) (show K7 X.prog X.w _ h' _ (.lst ys) from⟨hz,its,c',r',e⟩),rfl,q _ (I.hok.fresh (i8 _))⟩
 rcases hq with hq|hq
 .obtain⟨its,r',pl,hz⟩:=I.list hq
  have hlen:=r'.length
  obtain⟨o,ho,hc,n,hd⟩:=pl.isList
  exact call_list_seq p (.inl rfl) ho hc hd (λh' c' kp e=>fin its r' hz h' c' kp e) (by erw[l9]<;>lia)
 .obtain⟨its,r',pl,hz⟩:=I.tuple hq
  have hlen:=r'.length
  obtain⟨o,ho,hc,n,hd⟩:=pl
  exact call_list_seq p (.inr rfl) ho hc hd (λh' c' kp e=>fin its r' hz h' c' kp e) (by erw[l9]<;>lia)
def z41:CallR X (.type "tuple") (λxs H Q=> ∃p ys,xs=[.ref p]/\((SqL X.K H p ys/\∀l,H l=none->Q (.ref l) (upd H l (.tup ys)))\/(SqT X.K H p ys/\Q (.ref p) H))):=by
 intro qx s σ H xs us Q I r h
 obtain⟨p,ys,rfl,h⟩:=h
 obtain⟨u,rfl,rx⟩:=z3Z r
 cases rx
 rcases h with⟨hq,q⟩|⟨hq,q⟩
 .obtain⟨its,r',pl,hz⟩:=I.list hq
  have hlen:=r'.length
  refine call_tuple_list pl.isList (λh' kp=> ?_) (by erw[l9]<;>lia)
  have I1:Inv X qx σ H {s with heap:=h'}:=I.kept (t':=s.toks) kp
  have I2:Inv X qx σ (upd H h'.objs.size (.tup ys)) {s with heap:=h'.push {cls:= .type "tuple",data:= .seq its.toArray}}:=
   I1.laid (t':=s.toks) (λb o e=>Heap.get?_push_of_some _ e) (i8 _) (show K7 X.prog X.w _ _ _ (.tup ys) from⟨hz,its,r',IsTup.new _ _⟩)
  exact⟨.ref h'.objs.size,_,I2,rfl,q _ (I1.hok.fresh (i8 _))⟩
 .obtain⟨its,r',pl,hz⟩:=I.tuple hq
  exact call_tuple_same pl ⟨.ref p,H,I,rfl,q⟩
noncomputable def tyV(K:W.Frag)(T:String)(x:V)(H:Hp):Prop:=match x with
 | .str _=>T= "str"
 | .int _=>T= "int"
 | .ref p=>(T= "list" /\∃xs,SqL K H p xs)\/(T= "tuple" /\∃o,K.lookup p=some o/\o.cls= .type "tuple" /\o.dict=none)\/
  (T= "dict" /\((∃kvs,H p=some (.dK kvs))\/∃kvs,H p=some (.dT kvs)))\/(T= "set" /\∃S n,H p=some (.set S n))
 |_=>False
def zbn{qx:List (Addr×bE)}{σ:St}{H:Hp}{s:bf}{T:String}{x:V}{v:bb}(I:Inv X qx σ H s)(r:RelV x v)(ty:tyV X.K T x H):
 s.TypeIs v T/\∀a,v= .ref a->∃ob,s.heap.get? a=some ob/\ob.dict=none:=by
 cases x with
 |str z=>
  obtain⟨t,rfl⟩:=r
  cases(show T= "str" from ty)
  exact⟨typeIs_str s z t,λ_ e=>nomatch e⟩
 |int i=>
  obtain⟨t,rfl⟩:=r
  cases(show T= "int" from ty)
  exact⟨typeIs_int s i t,λ_ e=>nomatch e⟩
 |ref p=>
  cases r
  rcases ty with⟨rfl,xs,hq⟩|⟨rfl,o,hk,hc,hd⟩|⟨rfl,hk⟩|⟨rfl,S,n,hk⟩
  .obtain⟨its,_,pl,_⟩:=I.list hq
   refine⟨pl.isList.typeIs,λa e=> ?_⟩
   cases e
   obtain⟨o,n,e,c,hd,_⟩:=pl
   exact⟨o,e,hd⟩
  .refine⟨⟨o,I.kIn p o hk,hc⟩,λa e=> ?_⟩
   cases e
   exact⟨o,I.kIn _ o hk,hd⟩
  .have z: ∃o,s.heap.get? p=some o/\o.ExactDict:=by
    rcases hk with⟨kvs,hk⟩|⟨kvs,hk⟩
    .obtain⟨_,_,_,_,o,_,_,e,ex,_⟩:=I.hok p _ hk
     exact⟨o,e,ex⟩
    .obtain⟨_,_,_,_,o,_,_,e,ex,_⟩:=I.hok p _ hk
     exact⟨o,e,ex⟩
   obtain⟨o,e,ex⟩:=z
   refine⟨⟨o,e,ex.1⟩,λa e2=> ?_⟩
   cases e2
   exact⟨o,e,ex.2.1⟩
  .obtain⟨o,_,_,_,e,ex,_⟩:=I.hok p _ hk
   refine⟨⟨o,e,ex.1⟩,λa e2=> ?_⟩
   cases e2
   exact⟨o,e,ex.2.1⟩
 |_=>exact False.elim ty
noncomputable def zjU(K:W.Frag)(T:String)(r:V->List V->Hp->VK->Prop)(to:TE):TE:=λ σ H Q=>to σ H λx H1=>tyV K T x H1/\r x [] H1 Q
noncomputable def tBM(K:W.Frag)(T:String)(r:V->List V->Hp->VK->Prop)(to:TE)(t:TA):TE:=λ σ H Q=>to σ H λx H1=>tyV K T x H1/\t σ H1 λxs H2=>r x xs H2 Q
variable{o e:bh}{es:List bh}{to:TE}{t:TA}{name:Str}{apos cpos:bT}{T id:String}{r:V->List V->Hp->VK->Prop}
def zeR(pa:PlainAttrs T)(slot:Slot T name id)(hty:dN (.builtin id)=pure (.type "method_descriptor"))(hm:MtR X id r)(ho:PE X o to)
 (hbase:bP o name X.env (bF o X.env)=bF o X.env:=by rfl) (hline:(apos.endLine==cpos.line)=true:=by rfl):PE X (.Call (.Attribute o name apos) [] [] cpos) (zjU X.K T r to):=by
 intro qx s σ H Q I h
 refine wpAny_Call_method0_late hbase hline (thn (ho qx s σ H _ I h) ?_)
 rintro v s1 ⟨x,H1,I1,r1,ty,q1⟩
 obtain⟨h1,h2⟩:=zbn I1 r1 ty
 exact⟨T,id,pa,slot,hty,h1,h2,Calls.callWith_builtin rfl (PySem.evalArgs_none (hm qx s1 σ H1 x [] v [] Q I1 r1 .nil q1))⟩
def zhW(pa:PlainAttrs T)(slot:Slot T name id)(hty:dN (.builtin id)=pure (.type "method_descriptor"))(hm:MtR X id r)(ho:PE X o to)(ha:PA X (e::es) t)
 (hbase:bP o name X.env (bF o X.env)=bF o X.env:=by rfl)
 (hfew:((bN cpos (bj (e::es) X.env)).all (λx=> !x.1)&&(dH cpos (cC [] X.env)).all (λx=>x.1.isSome)
  &&decide ((e::es).length+([]:List cx).length+(if([]:List cx).isEmpty then 0 else 1)<30))=true:=by rfl)
 (hline:(apos.endLine==cpos.line)=true:=by rfl) (hs:bj (e::es) X.env=(false,bF e X.env)::bj es X.env:=by rfl) (hplain:(bN cpos (bj es X.env)).any (·.1)=false:=by rfl):
 PE X (.Call (.Attribute o name apos) (e::es) [] cpos) (tBM X.K T r to t):=by
 intro qx s σ H Q I h
 refine wpAny_Call_method_late hbase hfew hline rfl (thn (ho qx s σ H _ I h) ?_)
 rintro v s1 ⟨x,H1,I1,r1,ty,q1⟩
 obtain⟨h1,h2⟩:=zbn I1 r1 ty
 refine⟨T,id,pa,slot,hty,h1,h2, ?_⟩
 have hA:=ha cpos qx s1 σ H1 _ I1 q1
 rw[hs] at hA⊢
 refine Calls.callWith_builtin (by show(false||(bN cpos (bj es X.env)).any (·.1))=false;rw[hplain]<;>rfl) (Calls.evalArgs_plain ?_)
 exact thn hA λus s2 ⟨vs,H2,I2,r2,q2⟩=>hm qx s2 σ H2 x vs v us Q I2 r1 r2 q2
end
noncomputable def MtM(X:Cx)(id:String)(r:V->List V->Hp->VK->Prop):Prop:=
 ∀(qx:List (Addr×bE)) (s:bf) (σ:St) (H:Hp) (x:V) (xs:List V) (v:bb) (us:List bb) (Q:VK),Inv X qx σ H s->RelV x v->U0 xs us->r x xs H Q->
  bg (bi X.prog X.w) X.A (call (.builtin id) (v::us)) (EP X qx σ Q) X.xe s
def U0.one: ∀{x:V} {us:List bb},U0 [x] us->∃u,us=[u]/\RelV x u
 |_,_, .cons r .nil=>⟨_,rfl,r⟩
def U0.zero: ∀{us:List bb},U0 [] us->us=[]
 |_, .nil=>rfl
def U0.reverse{xs:List V}{us:List bb}(h:U0 xs us):U0 xs.reverse us.reverse:=by
 induction h with
 |nil=>exact .nil
 |cons r t ih=>rw[A6,A6];exact U0.append ih (.cons r .nil)
section
variable{X:Cx}{qx:List (Addr×bE)}{σ:St}{H:Hp}{s:bf}{l b:Addr}{xs ys zs:List V}
def Inv.lset{its its':List bb}{n:Nat}{f:Array bb->Array bb}{t':Nat}(I:Inv X qx σ H s)(hH:H l=some (.lst xs))
 (e:s.heap.get? l=some {cls:= .type "list",data:= .seq its.toArray n}) (hf:f its.toArray=its'.toArray) (hv:U0 ys its') (hz:ys.length<=qh):
 Inv X qx σ (upd H l (.lst ys)) {s with heap:=s.heap.update l (Obj.mapSeq f),toks:=t'}:=by
 have q:=PySem.IsL.update e f
 rw[hf] at q
 refine I.write (x:=l) (e:=l) (by rw[hH];exact trivial) (.inl rfl) (λb' u hb hu=>(Heap.get?_update_other s.heap (Obj.mapSeq f) (Ne.symm hb)).trans hu) ⟨_,q⟩ ?_
 exact⟨hz,its',_,hv,q⟩
def Inv.lnew{its:List bb}{t':Nat}(I:Inv X qx σ H s)(hv:U0 ys its)(hz:ys.length<=qh):
 Inv X qx σ (upd H s.heap.objs.size (.lst ys)) {s with heap:=s.heap.push {cls:= .type "list",data:= .seq its.toArray},toks:=t'}:=
 I.laid (λ_ _ q=>Heap.get?_push_of_some _ q) (i8 _) ⟨hz,its,0,hv,Heap.get?_push_size _ rfl⟩
def Inv.fresh(I:Inv X qx σ H s):H s.heap.objs.size=none:=I.hok.fresh (i8 _)
def Inv.lstM(I:Inv X qx σ H s)(hH:H l=some (.lst xs)):xs.length<=qh/\∃(its:List bb) (n:Nat),U0 xs its/\xs.length=its.length/\s.heap.get? l=some {cls:= .type "list",data:= .seq its.toArray n}:=by
 obtain⟨z,its,n,r,e⟩:=I.hok l _ hH
 exact⟨z,its,n,r,r.length,e⟩
def za3{n:Nat}(h:n<=qh):Builtin.List.listTooLong n=false:=by
 delta Builtin.List.listTooLong
 exact decide_eq_false ⋯
noncomputable def z84:V->List V->Hp->VK->Prop:=λx vs H Q=> ∃l xs y,x= .ref l/\vs=[y]/\H l=some (.lst xs)/\xs.length<qh/\Q .non (upd H l (.lst (xs++[y])))
def z4X:MtM X "list.append" z84:=by
 intro qx s σ H x vs v us Q I rx rv h
 obtain⟨l,xs,y,rfl,rfl,hH,hz,q⟩:=h
 cases rx
 obtain⟨u,rfl,ru⟩:=rv.one
 obtain⟨z,its,n,r,hl,e⟩:=I.lstM hH
 refine du F.slot_list_append ⟨_,e,rfl⟩ F.entry_list_append (F.args_list_append_2 _ _) (PySem.list_append l its.toArray n u (by rw[l9];lia)) ⟨e, ?_⟩
 refine⟨.non,_,I.lset (its':=its++[u]) hH e (by simp) (r.append (.cons ru .nil)) ?_,rfl,q⟩
 rw[l8,E6]
 lia
noncomputable def z6v:V->List V->Hp->VK->Prop:=λx vs H Q=> ∃l xs,x= .ref l/\vs=[]/\H l=some (.lst xs)/\Q .non (upd H l (.lst xs.reverse))
def z7e:MtM X "list.reverse" z6v:=by
 intro qx s σ H x vs v us Q I rx rv h
 obtain⟨l,xs,rfl,rfl,hH,q⟩:=h
 cases rx
 have hus:=rv.zero
 subst hus
 obtain⟨z,its,n,r,hl,e⟩:=I.lstM hH
 refine du F.slot_list_reverse ⟨_,e,rfl⟩ F.entry_list_reverse (F.args_list_reverse_1 _) (AutoSeq1.list_reverse_list_0 l its.toArray n (by rw[l9];lia)) ⟨e, ?_⟩
 refine⟨.non,_,I.lset (its':=its.reverse) hH e (by simp) r.reverse ?_,rfl,q⟩
 rw[F5]
 lia
noncomputable def zhX:R2:=λx y H Q=> ∃l b xs zs,x= .ref l/\y= .ref b/\H l=some (.lst xs)/\H b=some (.lst zs)/\xs.length+zs.length<=qh/\∀p,H p=none->Q (.ref p) (upd H p (.lst (xs++zs)))
def zeS:OpR X (bY .Add) zhX:=by
 intro qx s σ H x y v u Q I rx ry h
 obtain⟨l,b,xs,zs,rfl,rfl,hH,hB,hz,q⟩:=h
 cases rx
 cases ry
 obtain⟨z,its,n,r,hl,e⟩:=I.lstM hH
 obtain⟨z2,its2,n2,r2,hl2,e2⟩:=I.lstM hB
 refine PySem.P.add_list e e2 ?_ (by rw[l9,l9];lia)
 have ea:its.toArray++its2.toArray=(its++its2).toArray:=by simp
 rw[ea]
 exact⟨.ref _,_,I.lnew (t':=s.toks) (r.append r2) (by rw[l8];lia),rfl,q _ I.fresh⟩
variable{prog:bm}{w:bo}{A:bq}{E:bb->bf->Prop}
set_option maxRecDepth 100000 in
end
section
variable{κ:Type}[DecidableEq κ]
noncomputable def valV(kvs:List (κ×V))(k:κ):Option V:=(kvs.find? λkv=>decide (kv.1=k)).map (·.2)
noncomputable def z2z(kvs:List (κ×V))(k:κ)(v:V):List (κ×V):=
 if(kvs.any λkv=>decide (kv.1=k))=true then kvs.map (λkv=>if kv.1=k then(kv.1,v) else kv) else kvs++[(k,v)]
def z1C{p:κ×V}{r:List (κ×V)}{k:κ}(e:p.1=k):valV (p::r) k=some p.2:=by simp[valV,List.find?_cons,e]
def z0z{p:κ×V}{r:List (κ×V)}{k:κ}(e: ¬p.1=k):valV (p::r) k=valV r k:=by simp[valV,List.find?_cons,e]
theorem z6w(k:κ): ∀kvs:List (κ×V),(kvs.any λkv=>decide (kv.1=k))=(valV kvs k).isSome
 |[]=>rfl
 |p::r=>by
  rw[N9]
  by_cases e:p.1=k
  .erw[z1C e,decide_eq_true e,u03,T7]
  .rw[z0z e,decide_eq_false e,P9];exact z6w k r
def z2K(kvs:List (κ×V))(k:κ)(v:V):(z2z kvs k v).length<=kvs.length+1:=by
 delta z2z
 split
 .rw[l0];lia
 .rw[l8,o0,C0];lia
def RelO.isSome_eq{o:Option V}{u:Option bb}(r:RelO o u):o.isSome=u.isSome:=by
 cases o with
 |none=>cases u with
  |none=>rfl
  |some _=>exact(show False from r).elim
 |some _=>cases u with
  |none=>exact(show False from r).elim
  |some _=>rfl
def KV.val{kvs:List (κ×V)}{vs:List (κ×bb)}(r:KV kvs vs)(k:κ):RelO (valV kvs k) (cY vs k):=by
 delta KV at r
 induction r with
 |nil=>exact True.intro
 | @cons p q ps qs h t ih=>
  obtain⟨h1,h2⟩:=h
  by_cases e:p.1=k
  .have e':q.1=k:=h1.symm.trans e
   have b:cY (q::qs) k=some q.2:=by simp[cY,List.find?_cons,e']
   rw[z1C e,b];exact h2
  .have e': ¬q.1=k:=λz=>e (h1.trans z)
   have b:cY (q::qs) k=cY qs k:=by simp[cY,List.find?_cons,e']
   rw[z0z e,b];exact ih
def KV.any{kvs:List (κ×V)}{vs:List (κ×bb)}(r:KV kvs vs)(k:κ):(kvs.any λkv=>decide (kv.1=k))=vs.any λkv=>decide (kv.1=k):=by
 delta KV at r
 induction r with
 |nil=>rfl
 |cons h t ih=>rw[N9,N9,ih,h.1]
def KV.repl{kvs:List (κ×V)}{vs:List (κ×bb)}(r:KV kvs vs)(k:κ){y:V}{u:bb}(ry:RelV y u):
 KV (kvs.map λkv=>if kv.1=k then(kv.1,y) else kv) (vs.map λkv=>if kv.1=k then(kv.1,u) else kv):=by
 delta KV at r⊢
 induction r with
 |nil=>exact .nil
 | @cons p q ps qs h t ih=>
  rw[i6,i6]
  refine .cons ?_ ih
  obtain⟨h1,h2⟩:=h
  by_cases e:p.1=k
  .rw[qw e,qw (h1.symm.trans e)];exact⟨h1,ry⟩
  .rw[qy e,qy (λz=>e (h1.trans z))];exact⟨h1,h2⟩
def KV.put{kvs:List (κ×V)}{vs:List (κ×bb)}(r:KV kvs vs)(k:κ){y:V}{u:bb}(ry:RelV y u):KV (z2z kvs k y) (stored vs k u):=by
 delta z2z stored
 rw[r.any k]
 by_cases e:(vs.any λkv=>decide (kv.1=k))=true
 .rw[qw e,qw e];exact r.repl k ry
 .rw[qy e,qy e];exact Paired.snoc r ⟨rfl,ry⟩
def KV.length{kvs:List (κ×V)}{vs:List (κ×bb)}(r:KV kvs vs):kvs.length=vs.length:=Paired.length r
end
def z85{P:bm}{w:bo}{k:Key}{u:bb}(r:RelV (kV k) u):(Q4 P w).is k u=true:=by
 cases k with
 |inl i=>obtain⟨t,e⟩:=(show ∃t,u=Value.int i t from r);subst e;exact z5E P w i t
 |inr x=>obtain⟨t,e⟩:=(show ∃t,u=Value.str x t from r);subst e;exact z5F P w x t
theorem z4Y{P:bm}{w:bo}: ∀{ks:List Key} {us:List bb},U0 (ks.map kV) us->ItemsAre (Q4 P w) ks us
 |[],_,r=>by rw[m8] at r;cases r;exact .nil
 |k::ks,_,r=>by
  rw[i6] at r
  cases r with
  |cons h t=>exact .cons (z85 h) (z4Y t)
noncomputable abbrev KT(H:Hp):List (NK×V)->List (NK×Addr×bb)->Prop:=bJ λp q=>p.1=q.1/\TK H p.1 q.2.1/\RelV p.2 q.2.2
def KT.val{H:Hp}{kvs:List (NK×V)}{xs:List (NK×Addr×bb)}(r:KT H kvs xs)(k:NK):RelO (valV kvs k) ((dR xs k).map (·.2)):=by
 induction r with
 |nil=>exact True.intro
 | @cons p q ps qs h t ih=>
  obtain⟨h1,_,h2⟩:=h
  by_cases e:p.1=k
  .have e':q.1=k:=h1.symm.trans e
   have b:dR (q::qs) k=some q.2:=by simp[dR,List.find?_cons,e']
   rw[z1C e,b];exact h2
  .have e': ¬q.1=k:=λz=>e (h1.trans z)
   have b:dR (q::qs) k=dR qs k:=by simp[dR,List.find?_cons,e']
   rw[z0z e,b];exact ih
def KT.repl{H:Hp}{kvs:List (NK×V)}{xs:List (NK×Addr×bb)}(r:KT H kvs xs)(k:NK){y:V}{u:bb}(ry:RelV y u):
 KT H (kvs.map λkv=>if kv.1=k then(kv.1,y) else kv) (xs.map (putAt k u)):=by
 induction r with
 |nil=>exact .nil
 | @cons p q ps qs h t ih=>
  rw[i6,i6]
  refine .cons ?_ ih
  obtain⟨h1,h2,h3⟩:=h
  delta putAt
  by_cases e:p.1=k
  .rw[qw e,qw (h1.symm.trans e)];exact⟨h1,h2,ry⟩
  .rw[qy e,qy (λz=>e (h1.trans z))];exact⟨h1,h2,h3⟩
def KT.put{H:Hp}{kvs:List (NK×V)}{xs:List (NK×Addr×bb)}(r:KT H kvs xs)(k:NK){b:Addr}{y:V}{u:bb}(hb:TK H k b)(ry:RelV y u):
 KT H (z2z kvs k y) (storedH xs k b u):=by
 have e:(kvs.any λkv=>decide (kv.1=k))=(dR xs k).isSome:=by
  rw[z6w,(r.val k).isSome_eq,u04]
 delta z2z storedH
 rw[e]
 by_cases q:(dR xs k).isSome=true
 .rw[qw q,qw q];exact r.repl k ry
 .rw[qy q,qy q];exact Paired.snoc r ⟨rfl,hb,ry⟩
def KT.keeps{H H':Hp}{kvs:List (NK×V)}{xs:List (NK×Addr×bb)}(r:KT H kvs xs)(ht: ∀b ys,H b=some (.tup ys)->H' b=some (.tup ys)):KT H' kvs xs:=
 Paired.mapP r λ_ _ z=>⟨z.1,z.2.1.stay ht,z.2.2⟩
section
variable{P:bm}{w:bo}{H:Hp}{h:Heap}{a:Addr}
def zeT{u:HO}(ok:HOk P w H h)(e:Rd H a u):K7 P w H h a u:=e.ok ok
def z7f{kvs:List (Key×V)}(ok:HOk P w H h)(e:Rd H a (.dK kvs)):kvs.length<=qh/\(a==bz)=false/\∃vs,KV kvs vs/\h.DictOf (Q4 P w) a vs:=
 show K7 P w H h a (.dK kvs) from zeT ok e
def zhY{kvs:List (Key×V)}(ok:HOk P w H h)(e:H a=some (.dK kvs)):kvs.length<=qh/\(a==bz)=false/\∃vs,KV kvs vs/\h.DictOf (Q4 P w) a vs:=z7f ok (.inl e)
def zcB{ks:List Key}(ok:HOk P w H h)(e:H a=some (.tup (ks.map kV))):dl (Q4 P w) h ks a:=by
 obtain⟨_,its,r,o,h1,h2,n,h3⟩:=(show K7 P w H h a (.tup (ks.map kV)) from ok a _ e)
 exact⟨o,its.toArray,n,h1,h2,h3,by simpa using z4Y r⟩
theorem z5I(ok:HOk P w H h): ∀{k:NK} {xs:List V} {us:List bb},bJ (TKi H) k xs->U0 xs us->bJ (ItN P w h) k us
 |_,_,_, .nil, .nil=> .nil
 | .inl k::_,_,_, .cons a b, .cons c d=>by
  have e:=(show _=kV k from a)
  subst e
  exact .cons (z85 c) (z5I ok b d)
 | .inr ks::_,_,_, .cons a b, .cons c d=>by
  obtain⟨x,rfl,hx⟩:=a
  cases c
  exact .cons ⟨x,rfl,zcB ok hx⟩ (z5I ok b d)
def z4Z{k:NK}(ok:HOk P w H h)(e:TK H k a):(z1i P w).is h k a:=by
 obtain⟨xs,e,p⟩:=e
 obtain⟨_,its,r,o,h1,h2,n,h3⟩:=(show K7 P w H h a (.tup xs) from ok a _ e)
 exact⟨o,its.toArray,n,h1,h2,h3,by simpa using z5I ok p r⟩
def z86{kvs:List (NK×V)}(ok:HOk P w H h)(e:Rd H a (.dT kvs)):kvs.length<=qh/\(a==bz)=false/\
 ∃xs,KT H kvs xs/\h.DictOfH (z1i P w) a xs:=by
 obtain⟨z,y,xs,r,o,es,ep,h1,h2,h3,h4,h5⟩:=(show K7 P w H h a (.dT kvs) from zeT ok e)
 refine⟨z,y,xs,r,o,es,ep,h1,h2,h3,h4,λx hx=> ?_,h5⟩
 have all: ∀{l:List (NK×V)} {m:List (NK×Addr×bb)},KT H l m->∀x∈m,(z1i P w).is h x.1 x.2.1:=by
  intro l m q
  induction q with
  |nil=>intro x hx;exact nomatch hx
  | @cons p q ps qs hq t ih=>
   intro x hx
   rcases l6.mp hx with e|hx
   .subst e
    exact z4Z ok (by rw[<-hq.1];exact hq.2.1)
   .exact ih x hx
 exact all r x hx
def zeU{kvs:List (NK×V)}(ok:HOk P w H h)(e:H a=some (.dT kvs)):kvs.length<=qh/\(a==bz)=false/\
 ∃xs,KT H kvs xs/\h.DictOfH (z1i P w) a xs:=z86 ok (.inl e)
end
noncomputable def zbo(H:Hp)(a:Addr)(y:V)(r:Option V):Prop:=
 (∃kvs k,Rd H a (.dK kvs)/\y=kV k/\r=valV kvs k)\/∃kvs k b,Rd H a (.dT kvs)/\y= .ref b/\TK H k b/\r=valV kvs k
noncomputable def z7F(H:Hp)(a:Addr)(y v:V)(H':Hp):Prop:=
 (∃kvs k,H a=some (.dK kvs)/\y=kV k/\kvs.length<qh/\H'=upd H a (.dK (z2z kvs k v)))\/
 ∃kvs k b,H a=some (.dT kvs)/\y= .ref b/\TK H k b/\kvs.length<qh/\H'=upd H a (.dT (z2z kvs k v))
def z7F.k{H:Hp}{a:Addr}{kvs:List (Key×V)}{k:Key}{v:V}(e:H a=some (.dK kvs))(hl:kvs.length<qh):z7F H a (kV k) v (upd H a (.dK (z2z kvs k v))):= .inl ⟨kvs,k,e,rfl,hl,rfl⟩
def z7F.t{H:Hp}{a b:Addr}{kvs:List (NK×V)}{k:NK}{v:V}(e:H a=some (.dT kvs))(eb:TK H k b)(hl:kvs.length<qh):
 z7F H a (.ref b) v (upd H a (.dT (z2z kvs k v))):= .inr ⟨kvs,k,b,e,rfl,eb,hl,rfl⟩
section
variable{X:Cx}{qx:List (Addr×bE)}{σ:St}{H:Hp}{s:bf}{a:Addr}{y v:V}{u r:bb}{o:Option V}{A:bq}{E:bb->bf->Prop}
def Inv.big(I:Inv X qx σ H s):bz<s.heap.objs.size:=by
 have h:bn<s.heap.objs.size:=(I.mod.glob.keeps I.bk).lt
 exact u0n (by decide) h
def z87{Q:bb->bf->Prop}(hu:A.units+2<cLine)(I:Inv X qx σ H s)(g:zbo H a y (some v))(ry:RelV y u)(h: ∀w' s',Inv X qx σ H s'->RelV v w'->Q w' s'):
 bg (bi X.prog X.w) A (cw (.ref a) u) Q E s:=by
 rcases g with⟨kvs,k,e,ey,l⟩|⟨kvs,k,b,e,ey,eb,l⟩
 .subst ey
  obtain⟨z,hd,vs,rel,dd⟩:=z7f I.hok e
  obtain⟨w',hw,rw'⟩:=RelO.some_of (v:=v) (o:=cY vs k) (by rw[l];exact rel.val k)
  exact wpAny_getItem_of (z85 ry) dd.mapOf hw (h w' _ (I.tok _) rw')
 .subst ey
  cases(show u=Value.ref b from ry)
  obtain⟨z,hd,xs,rel,dd⟩:=z86 I.hok e
  obtain⟨w',hw,rw'⟩:=RelO.some_of (v:=v) (o:=(dR xs k).map (·.2)) (by rw[l];exact rel.val k)
  obtain⟨p,hp,hp2⟩:=Option.map_eq_some_iff.mp hw
  refine wpAny_getItem_heap (z2H hu) (z4Z I.hok eb) dd hp ?_
  rw[hp2]
  exact h w' _ (I.tok _) rw'
def zcC{Q:bb->bf->Prop}(hu:A.units+2<cLine)(I:Inv X qx σ H s)(g:zbo H a y o)(ry:RelV y u)(h: ∀s',Inv X qx σ H s'->Q (.bool (!o.isSome)) s'):
 bg (bi X.prog X.w) A (bH .NotIn u (.ref a)) Q E s:=by
 rcases g with⟨kvs,k,e,ey,l⟩|⟨kvs,k,b,e,ey,eb,l⟩
 .subst ey
  obtain⟨z,hd,vs,rel,dd⟩:=z7f I.hok e
  refine wpAny_notIn_of (z85 ry) hd dd.mapOf ?_
  rw[<-(rel.val k).isSome_eq,<-l]
  exact h _ (I.tok _)
 .subst ey
  cases(show u=Value.ref b from ry)
  obtain⟨z,hd,xs,rel,dd⟩:=z86 I.hok e
  refine wpAny_notIn_heap (z2H hu) (z4Z I.hok eb) hd dd ?_
  have q:=(rel.val k).isSome_eq
  rw[u04] at q
  rw[<-q,<-l]
  exact h _ (I.tok _)
def z5J{h':Heap}{t':Nat}{ob:HO}(I:Inv X qx σ H s)(mu:Mut (H a))(hs:Heap.SameBut a s.heap h')(he: ∃q,h'.get? a=some q)(new:K7 X.prog X.w (upd H a ob) h' a ob):
 Inv X qx σ (upd H a ob) {s with heap:=h',toks:=t'}:=
 I.write (x:=a) (e:=a) mu (.inl rfl) (λb q hb z=>(hs.2 b hb).trans z) he new
def zeV{P:bm}{w:bo}{H':Hp}{h':Heap}{kvs:List (Key×V)}{vs:List (Key×bb)}(z:kvs.length<=qh)(hd:(a==bz)=false)(rel:KV kvs vs)(dd:h'.DictOf (Q4 P w) a vs):
 K7 P w H' h' a (.dK kvs):=⟨z,hd,vs,rel,dd⟩
def z88{H':Hp}{Q:Unit->bf->Prop}(hu:A.units+2<cLine)(I:Inv X qx σ H s)(g:z7F H a y v H')(ry:RelV y u)(rv:RelV v r)(h: ∀s',Inv X qx σ H' s'->Q () s'):
 bg (bi X.prog X.w) A (setItem (.ref a) u r) Q E s:=by
 rcases g with⟨kvs,k,e,ey,l,eH⟩|⟨kvs,k,b,e,ey,eb,l,eH⟩
 .subst ey eH
  obtain⟨z,hd,vs,rel,dd⟩:=zhY I.hok e
  have hz:vs.length<=qh:=by rw[<-rel.length];exact z
  have hl:(z2z kvs k v).length<=qh:=by have:=z2K kvs k v;lia
  refine wpAny_setItem_pairs (hsz:=hz) (z85 ry) dd λh' dd' hs=>h _ ?_
  have he: ∃q,h'.get? a=some q:=let⟨q,_,_,hq,_⟩:=dd';⟨q,hq⟩
  exact z5J I (by rw[e];exact True.intro) hs he (zeV hl hd (rel.put k rv) dd')
 .subst ey eH
  cases(show u=Value.ref b from ry)
  obtain⟨z,hd,xs,rel,dd⟩:=zeU I.hok e
  have hz:xs.length<=qh:=by rw[<-Paired.length rel];exact z
  have hl:(z2z kvs k v).length<=qh:=by have:=z2K kvs k v;lia
  refine wpAny_setItem_heap (hsz:=hz) (z2H hu) (z4Z I.hok eb) dd λh' dd' hs=>h _ ?_
  obtain⟨q,es,ep,hq,h2,h3,h4,_,h5⟩:=dd'
  refine z5J I (by rw[e];exact True.intro) hs ⟨q,hq⟩ ⟨hl,hd,_,(rel.put k eb rv).keeps λc ys ec=> ?_,q,es,ep,hq,h2,h3,h4,h5⟩
  rw[Z7 (z0j ec e (λz=>nomatch z))]
  exact ec
variable{kvs:List (Key×V)}{k:Key}
def zhZ{Q:bb->bf->Prop}(I:Inv X qx σ H s)(e:Rd H a (.dK kvs))(h: ∀t s',Inv X qx σ H s'->Q (.int kvs.length t) s'):bg (bi X.prog X.w) A (call (.builtin "len") [.ref a]) Q E s:=by
 obtain⟨z,hd,vs,rel,dd⟩:=z7f I.hok e
 refine call_len_dict hd dd (by rw[<-rel.length];rw[cB] at z;lia) ?_
 rw[<-rel.length]
 exact h _ _ (I.tok _)
end
noncomputable def zjq(i:bh):Prop:= ∀ov iv,cT i false ov iv=operate [ov,iv] (cw ov iv)
def zcD{prog:bm}{w:bo}{A:bq}{E:bb->bf->Prop}{s:bf}{env:dn}{value slice:bh}{pos:bT}{T id:String}{Q:bb->bf->Prop}
 (hl:typeLookup (.type T) "__getitem__" =pure (some (.builtin id))) (hs:zjq slice)
 (h:bg (bi prog w) A (bF value env) (λo s₁=>bg (bi prog w) A (bF slice env) (λi s₂=>s₂.TypeIs o T/\bg (bi prog w) A (cw o i) Q E s₂) E s₁) E s):
 bg (bi prog w) A (bF (.Subscript value slice pos) env) Q E s:=by
 refine fh (bA h (λo s₁ h₁=>bA h₁ (λi s₂ h₂=> ?_) λ_ _ x=>x) λ_ _ x=>x)
 obtain⟨hT,h₂⟩:=h₂
 delta dj
 refine ba ?_
 rw[getitemInPython_of_ne hT.not_modules]
 refine ba (cb hT hl ?_)
 have fin:bg (bi prog w) A (cT slice false o i) (λr s₃=>bg (bi prog w) A (letTemporaryGo value o r>>=λ_=>pure r) Q E s₃) E s₂:=by
  rw[hs o i]
  exact wpAny_operating (bA h₂ (λr s₃ h₃=>ba (wpAny_letTemporaryGo (be h₃))) λ_ _ x=>x)
 first
  |exact be (ba fin)
  |exact ba (be (ba fin))
  |exact ba fin
def z5K{X:Cx}{qx:List (Addr×bE)}{σ:St}{H:Hp}{s:bf}{a:Addr}{y:V}{o:Option V}(I:Inv X qx σ H s)(g:zbo H a y o):s.TypeIs (.ref a) "dict" :=by
 rcases g with⟨kvs,k,e,_,_⟩|⟨kvs,k,b,e,_,_,_⟩
 .obtain⟨_,_,vs,_,dd⟩:=z7f I.hok e
  exact dd.typeIs
 .obtain⟨_,_,xs,_,dd⟩:=z86 I.hok e
  exact dd.typeIs
noncomputable def zi0(td ty:TE):TE:=λ σ H Q=>td σ H λx H1=>ty σ H1 λy H2=> ∃a v,x= .ref a/\zbo H2 a y (some v)/\Q v H2
noncomputable def zi1(td ty tv:TE):TS:=λD σ H=>tv σ H λv H1=>td σ H1 λx H2=>ty σ H2 λy H3=> ∃a H4,x= .ref a/\z7F H3 a y v H4/\D.nx σ H4
section
variable{X:Cx}{o i e value:bh}{pos pos' tpos:bT}{td ty tv:TE}
def zcE(hu:X.A.units+2<cLine)(ho:PE X o td)(hi:PE X i ty)(hs:zjq i):PE X (.Subscript o i pos) (zi0 td ty):=by
 intro qx s σ H Q I h
 refine zcD PySem.F.slot_dict_getitem.lookup hs (thn (ho qx s σ H _ I h) λu s1 ⟨x,H1,I1,rx,q1⟩=>thn (hi qx s1 σ H1 _ I1 q1) ?_)
 rintro iv s2 ⟨y,H2,I2,ry,a,v,ex,g,q2⟩
 subst ex
 obtain rfl:u=Value.ref a:=rx
 exact⟨z5K I2 g,z87 hu I2 g ry λw' s3 I3 rw'=>⟨v,H2,I3,rw',q2⟩⟩
def z5L(hu:X.A.units+2<cLine)(ho:PE X o td)(hi:PE X i ty)(hv:PE X value tv)(hs:ca value (some (.Subscript o i pos')) pos.line X.env=pure false):
 PS X (.Assign [.Subscript o i pos'] value pos) (zi1 td ty tv):=by
 intro qx s σ H D I h
 refine wpAny_Assign_Subscript (thn (hv qx s σ H _ I h) λr s1 ⟨v,H1,I1,rv,q1⟩=>thn (ho qx s1 σ H1 _ I1 q1) λu s2 ⟨x,H2,I2,rx,q2⟩=>thn (hi qx s2 σ H2 _ I2 q2) λiv s3 ⟨y,H3,I3,ry,a,H4,ex,g,q3⟩=> ?_) hs
 subst ex
 obtain rfl:u=Value.ref a:=rx
 exact z88 hu I3 g ry rv λs4 I4=>⟨σ,H4,I4,q3⟩
end
def za4{P:bm}{w:bo}{H:Hp}(h:Heap)(hb:bz<h.objs.size):K7 P w H (h.push {cls:= .type "dict",data:= .dict #[]}) h.objs.size (.dK []):=
 ⟨B7 _,beq_eq_false_iff_ne.mpr (Ne.symm (B1 hb)),[], .nil,Heap.DictOf.new h⟩
def z6x{P:bm}{w:bo}{H:Hp}(h:Heap)(hb:bz<h.objs.size):K7 P w H (h.push {cls:= .type "dict",data:= .dict #[]}) h.objs.size (.dT []):=
 ⟨B7 _,beq_eq_false_iff_ne.mpr (Ne.symm (B1 hb)),[], .nil,_, #[],0,Heap.get?_push_size _ rfl,⟨rfl,rfl,rfl⟩,rfl,rfl,List.nodup_nil⟩
noncomputable def zeW:TE:=λ_ H Q=> ∀p,H p=none->Q (.ref p) (upd H p (.dK []))
noncomputable def zeX:TE:=λ_ H Q=> ∀p,H p=none->Q (.ref p) (upd H p (.dT []))
section
variable{X:Cx}{pos:bT}
def za5:PE X (.Dict [] [] pos) zeW:=λqx s σ H Q I h=>
 dO ⟨.ref s.heap.objs.size,_,I.laid (a:=s.heap.objs.size) (o:= .dK []) (t':=s.toks) (λ_ _ q=>Heap.get?_push_of_some _ q) (i8 _) (za4 s.heap I.big),rfl,h _ (I.hok.fresh (i8 _))⟩
def za6:PE X (.Dict [] [] pos) zeX:=λqx s σ H Q I h=>
 dO ⟨.ref s.heap.objs.size,_,I.laid (a:=s.heap.objs.size) (o:= .dT []) (t':=s.toks) (λ_ _ q=>Heap.get?_push_of_some _ q) (i8 _) (z6x s.heap I.big),rfl,h _ (I.hok.fresh (i8 _))⟩
end
noncomputable def z89:List (TE×TE)->St->Hp->(List (V×V)->Hp->Prop)->Prop
 |[],_,H,Q=>Q [] H
 |(tk,tv)::r,σ,H,Q=>tk σ H λx H1=>tv σ H1 λy H2=>z89 r σ H2 λps H3=>Q ((x,y)::ps) H3
noncomputable abbrev VV:List (V×V)->List (bb×bb)->Prop:=bJ λp q=>RelV p.1 q.1/\RelV p.2 q.2
noncomputable def PPs(X:Cx)(pos:bT)(keys:List (Option bh))(values:List bh)(trs:List (TE×TE)):Prop:=
 ∀(qx:List (Addr×bE)) (s:bf) (σ:St) (H:Hp) (Q:List (V×V)->Hp->Prop),Inv X qx σ H s->z89 trs σ H Q->
  bg (bi X.prog X.w) X.A (evalPairs (pairTrees keys values X.env pos)) (λvs s'=> ∃ps H',Inv X qx σ H' s'/\VV ps vs/\Q ps H') X.xe s
def zcF{X:Cx}{pos:bT}:PPs X pos [] [] []:=λqx s σ H Q I h=>pairTrees_nil_walk ⟨[],H,I, .nil,h⟩
def za7{X:Cx}{pos:bT}{k v:bh}{ks:List (Option bh)}{vs:List bh}{tk tv:TE}{trs:List (TE×TE)}(hk:PE X k tk)(hv:PE X v tv)(hr:PPs X pos ks vs trs):
 PPs X pos (some k::ks) (v::vs) ((tk,tv)::trs):=λqx s σ H Q I h=>
 pairTrees_cons_walk (thn (hk qx s σ H _ I h) λu s1 ⟨x,H1,I1,rx,q1⟩=>thn (hv qx s1 σ H1 _ I1 q1) λw2 s2 ⟨y,H2,I2,ry,q2⟩=>
  thn (hr qx s2 σ H2 _ I2 q2) λws s3 ⟨ps,H3,I3,rel,q3⟩=>⟨(x,y)::ps,H3,I3, .cons ⟨rx,ry⟩ rel,q3⟩)
noncomputable def IsD(H:Hp)(a:Addr):Prop:=(∃kvs,Rd H a (.dK kvs))\/∃kvs,Rd H a (.dT kvs)
def zeY{X:Cx}{qx:List (Addr×bE)}{σ:St}{H:Hp}{s:bf}{a:Addr}(I:Inv X qx σ H s)(d:IsD H a):
 s.TypeIs (.ref a) "dict" /\(∀b,Value.ref a= .ref b->∃ob,s.heap.get? b=some ob/\ob.dict=none)/\(a==bz)=false:=by
 rcases d with⟨kvs,e⟩|⟨kvs,e⟩
 .obtain⟨_,hd,vs,_,dd⟩:=z7f I.hok e
  refine⟨dd.typeIs,λb q=> ?_,hd⟩
  cases q
  obtain⟨ob,_,_,h1,h2,_⟩:=dd
  exact⟨ob,h1,h2.2.1⟩
 .obtain⟨_,hd,xs,_,dd⟩:=z86 I.hok e
  refine⟨dd.typeIs,λb q=> ?_,hd⟩
  cases q
  obtain⟨ob,_,_,h1,h2,_⟩:=dd
  exact⟨ob,h1,h2.2.1⟩
end L2
namespace Att
open PySem PySem.W PySem.Calls PyProof.Rows
def z2L{P:Params}{h:Heap}: ∀(ns:List Int) (vs:List bb),WellAll P h vs (ns.map WData.int)->dW vs ns:=by
 intro ns
 induction ns with
 |nil=>
  intro vs w
  rw[m8] at w
  cases w
  exact .nil
 |cons n ns ih=>
  intro vs w
  rw[i6] at w
  cases w with
  |cons a b=>
   cases a
   exact .cons _ _ (ih _ b)
def z8a{l:OpenLaw}{n:Nat}(hn:l.most=some n){P:Params}{h:Heap}{args:List WData}{vals:List bb}
 (hpre:l.row.toRowW.claim.pre args=true) (hwl:WellAll P h vals args):
 ∃a vs ns,vals=[Value.ref a]/\args=[WData.list (ns.map WData.int)]/\h.get? a=some {cls:= .type "list",data:= .seq vs.toArray}/\dW vs ns/\ns.length<=n:=by
 have hsh:WShape.hasAll [] args [.list .int]=true:=(pre_splitW hpre).1
 have hc:l.pre.holds [] {args:=args}=true:=(pre_splitW hpre).2
 obtain⟨d,r,rfl,h1,h2⟩:=hasAllW_cons hsh
 obtain rfl:=hasAllW_nil h2
 obtain⟨xs,rfl,h3⟩:=hasW_list h1
 obtain⟨ns,rfl⟩:=items_int h3
 have hlen:ns.length<=n:=by
  delta OpenLaw.pre at hc
  have h4:(WTm.not (.lt (.lit (.int (n:Int))) (.len (.arg 0)))).holds [] {args:=[.list (ns.map .int)]}=true:=by
   have h4:=(holds_andW hc).1
   rw[hn] at h4
   exact h4
  have h5:=condW_of h4 (w_not (w_lt w_lit (w_len_list (w_arg rfl))))
  rw[l0] at h5
  refine R1 λq=> ?_
  have q':(n:Int)<((ns.length:Nat):Int):=by lia
  first
   |(rw[decide_eq_true q'] at h5;exact absurd h5 (by decide))
   |(simp at h5;lia)
 cases hwl with
 |cons w1 w2=>
  cases w2
  cases w1 with
  |list ho hall=>exact⟨_,_,ns,rfl,rfl,ho,z2L ns _ hall,hlen⟩
def z8b(l:OpenLaw)(args:List WData):l.row.toRowW.claim.post args (.bool true) args=true:=
 postW_of (r:=l.row.toRowW) (X:=(true==true))
  (show WShape.has [] (.bool true) .bool=true by first|rfl|decide|simp[WShape.has,WShape.arms,WShape.armsAll])
  (show(WTm.eq .res (.lit (.bool true))).value [] {args:=args,res:=some (.bool true),after:=args}=some (.bool (true==true)) from w_eq_bool (w_res rfl) w_lit) rfl
def attach_call{l:OpenLaw}{n:Nat}{q:bm}{loose:List Str}{XP:(Str->Option bb)->Heap->Prop}{YP:bo->Heap->Prop}{d:DefRec}
 (hn:l.most=some n) (hdf:d.params.defaults=[])
 (call: ∀(w:bo) (s₀ s₁:bf) (mg mb:Str->Option bb) (fa:Addr) (o:bE) (pm cd doc:bb) (a:Addr) (vs:List bb) (ns:List Int),
  Ground q loose [] XP w s₀ mg mb s₁.heap->YP w s₁.heap->
  s₁.heap.get? fa=some o->o.data= .func (docDef d.name d.params d.body d.scope pm cd doc)->s₁.heap.CodeRec cd d.name->mg d.name=some (.ref fa)->
  s₁.heap.get? a=some {cls:= .type "list",data:= .seq vs.toArray}->dW vs ns->ns.length<=n->s₁.gens= #[]->
  cu (bi l.prog w) cZ (.call (.ref fa) ⟨[.ref a],[]⟩) (λr s'=>r= .ok (.ret (.bool true))/\OldK s₁.heap s'.heap/\s'.os=s₁.os/\cA s'.gens) s₁):
 WalkO q loose XP YP l.row.toRowW d [] (λf vs=>PySem.call f vs):=by
 intro w s₀ s₁ mg mb G Y fa o pm cd doc dV kV ho hd hcd hD hmg hg args vals as hpre hlay hrd hwl hlo
 obtain rfl:dV= .none:=Dflts.none hD hdf
 obtain rfl:kV= .none:=Dflts.noKw hD
 obtain⟨a,vs,ns,rfl,rfl,hobj,hints,hlen⟩:=z8a hn hpre hwl
 refine enter_call (dB (call w s₀ s₁ mg mb fa o pm cd doc a vs ns G Y ho (fd_plain hd) hcd hmg hobj hints hlen hg) λr s' hq=> ?_)
 obtain⟨rfl,h2,h3,h4⟩:=hq
 exact⟨.inl ⟨.bool true, .bool true,[],rfl,λ_=>rfl, .bool true,z8b l _,λ_=>⟨List.Pairwise.nil,λ_ hm=>(nomatch hm)⟩⟩,h2,h3,h4⟩
end Att
namespace L2
open PySem PySem.Spec PyProof.Rows
theorem z50: ∀{vs:List bb} {ns:List Int},dW vs ns->U0 (ns.map V.int) vs
 |_,_, .nil=> .nil
 |_,_, .cons n t h=> .cons ⟨t,rfl⟩ (z50 h)
noncomputable def zhp(H:Hp):Prop:= ∀b,H b=none\/∃o xs,H b=some (.frz o (.lst xs))
def za8{P:bm}{w:bo}{K:W.Frag}{mg mb:Str->Option bb}{CX:CXT}{k:Nat}{fa a:Addr}{fd:bB}{x:Str}{sp:Sp}{s₁:bf}{vs:List bb}{ns:List Int}
 (KX:K.In s₁.heap) (hns:s₁.heap.Ns bn mg) (hb:s₁.heap.Ns dY mb) (hbb: ∀x:Str,x≠ "__name__" ->mb x=bG x) (hlim:s₁.heap.NoLimit) (hg:s₁.gens= #[])
 (ha:s₁.heap.get? a=some {cls:= .type "list",data:= .seq vs.toArray}) (hi:dW vs ns) (hl:ns.length<=qh) (hr:z3t k cZ)
 (F: ∀base:Heap,K.In base->base.Ns bn mg->z0W P w K mg base CX k fa fd [x] sp) (hbind: ∀(s:bf) (u:bb),dA s fd ⟨[u],[]⟩ [(x,u)])
 (hsp: ∀H:Hp,zhp H->SqL K H a (ns.map V.int)->sp [.ref a] H (λv _=>v= .bl true) λ_ _ _=>False)
 (hCX: ∀H e s',CX [] H s₁ (λ_ _ _=>False) e s'->False):
 cu (bi P w) cZ (.call (.ref fa) ⟨[.ref a],[]⟩) (λr s'=>r= .ok (.ret (.bool true))/\OldK s₁.heap s'.heap/\s'.os=s₁.os/\cA s'.gens) s₁:=by
 have rv:=z50 hi
 have lenV:=hi.length
 have core: ∀H:Hp,zhp H->SqL K H a (ns.map V.int)->HOk P w H s₁.heap->(∀b,H b≠none->b=a)->(H a≠none->K.lookup a=none)->
  cu (bi P w) cZ (.call (.ref fa) ⟨[.ref a],[]⟩) (λr s'=>r= .ok (.ret (.bool true))/\OldK s₁.heap s'.heap/\s'.os=s₁.os/\cA s'.gens) s₁:=by
  intro H hO hS hok hA hK
  have base_of: ∀{b:Addr} {o:bE},s₁.heap.get? b=some o->H b=none->(z9R s₁.heap H).get? b=some o:=λe n=>z9S e n
  have noA: ∀{b:Addr} {o:bE} {es:Array bR} {ep:Nat},s₁.heap.get? b=some o->o.data= .dict es ep->H b=none:=λ{b o es ep} e d=>by
   cases q:H b with
   |none=>rfl
   |some u=>
    have e':b=a:=hA b (by rw[q];simp)
    subst e'
    rw[ha] at e;cases e
    have d':Data.seq vs.toArray _=Data.dict es ep:=d
    cases d'
  have nsK: ∀{b:Addr} {m:Str->Option bb},s₁.heap.Ns b m->(z9R s₁.heap H).Ns b m:=λ{b m} ⟨o,es,ep,e,d,r⟩=>⟨o,es,ep,base_of e (noA e d),d,r⟩
  have hKb:K.In (z9R s₁.heap H):=λb o e=>base_of (KX b o e) (by
   cases q:H b with
   |none=>rfl
   |some u=>
    have e':b=a:=hA b (by rw[q];simp)
    subst e'
    rw[hK (by rw[q];simp)] at e;cases e)
  have hM:Mod K mg (z9R s₁.heap H):=⟨hKb,nsK hns,⟨mb,nsK hb,hbb⟩,let⟨mc,h1,h2⟩:=hlim;⟨mc,nsK h1,h2⟩⟩
  have e0:zho P w K mg (z9R s₁.heap H) cZ [] s₁ H:=⟨rfl,hM,λb o e=>zce e,O9 (z7O _ _),trivial,λb hb=>absurd (show b∈([]:List Addr) from hb) (by simp),hok, .of_eq hg⟩
  refine dB ((F _ hKb (nsK hns)).run cZ [] s₁ H ⟨[.ref a],[]⟩ [.ref a] [.ref a] _ _ hr e0 (hbind s₁ (.ref a)) (.cons rfl .nil) (hsp H hO hS)) λr s' h=> ?_
  cases r with
  |error e=>exact(hCX H e s' h).elim
  |ok fl=>
   cases fl with
   |next=>exact False.elim h
   |brk=>exact False.elim h
   |cont=>exact False.elim h
   |ret u=>
    obtain⟨v,H',os,bare,un,hok',r',q⟩:=h
    have q':v= .bl true:=q
    subst q'
    obtain rfl:u=Value.bool true:=r'
    refine⟨rfl,OldK.of_keep λb o e=> ?_,os,bare⟩
    cases q:H b with
    |none=>exact un.keep b o e q (by intro z;exact absurd (show b∈([]:List Addr) from z) (by simp)) (by simp)
    |some u=>
     rcases hO b with z|⟨ob,xs,z⟩
     .rw[q] at z;cases z
     .have z2:=un.frzs b ob _ z
      obtain⟨e1,_⟩:=hok b _ z
      obtain⟨e2,_⟩:=hok' b _ z2
      rw[e] at e1;cases e1
      exact e2
 cases hk:K.lookup a with
 |some o=>
  have e:=KX a o hk
  rw[ha] at e
  cases e
  refine core (λ_=>none) (λ_=> .inl rfl) (.inr ⟨_,vs.toArray,_,hk,rfl,rfl,rfl,by rw[l9,lenV];exact hl,by simpa using rv⟩) (λb u z=>by have z':(none:Option HO)=some u:=z;cases z') (λb z=>absurd rfl z) λz=>absurd rfl z
 |none=>
  refine core (λb=>if b=a then some (.frz {cls:= .type "list",data:= .seq vs.toArray} (.lst (ns.map V.int))) else none) (λb=> ?_) (.inl (.inr ⟨{cls:= .type "list",data:= .seq vs.toArray},qw rfl⟩)) (λb u z=> ?_) (λb z=> ?_) λ_=>hk
  .by_cases hb:b=a
   .exact .inr ⟨_,_,qw hb⟩
   .exact .inl (qy hb)
  .by_cases hb:b=a
   .have z':=(qw hb).symm.trans z
    cases z'
    subst hb
    exact⟨ha,by rw[l0];exact hl,vs,_,rv,ha⟩
   .have z':=(qy hb).symm.trans z
    cases z'
  .by_cases hb:b=a
   .exact hb
   .exact absurd (qy hb) z
def zcG{l:W.OpenLaw}{n k:Nat}{q:bm}{loose:List Str}{XP:(Str->Option bb)->Heap->Prop}{YP:bo->Heap->Prop}{d:DefRec}{K:Params->W.Frag}{CX:bo->CXT}{sp:bo->Sp}{x:Str}
 (hn:l.most=some n) (hn2:n<=qh) (hdf:d.params.defaults=[]) (hr:z3t k cZ)
 (hY: ∀(w:bo) (h:Heap),YP w h->(K w.params).In h)
 (F: ∀(w:bo) (mg:Str->Option bb) (fa:Addr) (h:Heap),(K w.params).In h->h.Ns bn mg->mg d.name=some (.ref fa)->
  ∃fd:bB,(∀(s:bf) (u:bb),dA s fd ⟨[u],[]⟩ [(x,u)])/\
   ∀base:Heap,(K w.params).In base->base.Ns bn mg->z0W l.prog w (K w.params) mg base (CX w) k fa fd [x] (sp w))
 (hsp: ∀(w:bo) (H:Hp) (a:Addr) (ns:List Int),ns.length<=n->zhp H->SqL (K w.params) H a (ns.map V.int)->sp w [.ref a] H (λv _=>v= .bl true) λ_ _ _=>False)
 (hCX: ∀(w:bo) (H:Hp) (s:bf) (e:bb) (s':bf),CX w [] H s (λ_ _ _=>False) e s'->False):
 W.WalkO q loose XP YP l.row.toRowW d [] (λf vs=>PySem.call f vs):=by
 refine Att.attach_call hn hdf λw s₀ s₁ mg mb fa o pm cd doc a vs ns G Y ho hd hcd hmg hobj hints hlen hg=> ?_
 have KX:=hY w _ Y
 obtain⟨fd,hb,hF⟩:=F w mg fa _ KX G.T.g hmg
 exact za8 KX G.T.g G.T.b G.T.builtins G.T.nolimit hg hobj hints (C1 hlen hn2) hr hF hb (λH hO hS=>hsp w H a ns hlen hO hS) λH e s'=>hCX w H s₁ e s'
noncomputable def z1t(s:Stmt):Arguments:=match s with
 | .FunctionDef _ a _ _ _ _ _ _ _ _=>a
 |_=>{posonlyargs:=[],args:=[],vararg:=none,kwonlyargs:=[],kw_defaults:=[],kwarg:=none,defaults:=[]}
noncomputable def z0k(s:Stmt):List Stmt:=match s with
 | .FunctionDef _ _ b _ _ _ _ _ _ _=>b
 |_=>[]
noncomputable def Z9(s:Stmt):Scope:=match s with
 | .FunctionDef _ _ _ _ _ _ sc _ _ _=>sc
 |_=>{kind:= .function,names:=[],isGenerator:=false,isCoroutine:=false}
noncomputable abbrev CX0:CXT:=λ_ _ _ _ _ _=>False
noncomputable abbrev E0:XK:=λ_ _ _=>False
def zi2{X:Cx}:z4O CX0 X E0:=λ_ _ _ _ _ _ _ h=>h.elim
structure Fun(K:W.Frag)(x qual:Str)(st:Stmt)(f:Addr)(fd:bB):Prop where
 ex: ∃(oc:bb) (od:Option Addr) (kV doc pm:bb) (an:Option Addr) (cdv ct:bb) (osl:Array (Option bb)),
  fd=W.fnOf x qual (z1t st) (z0k st) (Z9 st) .none kV doc pm an cdv ct/\K.lookup f=some ⟨oc,od, .func fd,osl⟩/\W.codeIn K cdv qual=true
 kp:W.keepIn K (.ref f)=true
section
variable{P:bm}{w:bo}{K:W.Frag}{mg:Str->Option bb}{base:Heap}
def Fun.ok{x qual:Str}{st:Stmt}{f:Addr}{fd:bB}{N ps:List Str}{k:Nat}{sp:Sp}(F:Fun K x qual st f fd)(S:Q6 N ps (Z9 st))(len: ∀vs H Q E,sp vs H Q E->vs.length=ps.length)
 (hbody: ∀(cdv:bb) (A:bq) (outer:List dn) (s:bf) (H:Hp) (vs:List V) (Q:VK) (E:XK),z3t k (A.deeper (envOfC qual (Z9 st) s.heap.objs.size f cdv))->sp vs H Q E->
  ∃t,PSs (zbm CX0 P w K mg base N qual (Z9 st) f cdv A outer s H E).nox (z0k st) t/\t {nx:=λ_ H'=>Q .non H',rt:=Q} (z4T N vs) H):z0W P w K mg base CX0 (k+1) f fd ps sp:=by
 obtain⟨oc,od,kV,doc,pm,an,cdv,ct,osl,rfl,lk,hcd⟩:=F.ex
 refine zhR lk hcd S len λA outer s H vs Q E hr hsp=> ?_
 obtain⟨t,h,q⟩:=hbody cdv A outer s H vs Q E hr hsp
 exact⟨t,h.nox,q⟩
def Fun.binds{x qual:Str}{st:Stmt}{f:Addr}{fd:bB}{ps:List Str}(F:Fun K x qual st f fd)
 (h: ∀(kV doc pm:bb) (an:Option Addr) (cdv ct:bb) (us:List bb),us.length=ps.length->bindArgs (W.fnOf x qual (z1t st) (z0k st) (Z9 st) .none kV doc pm an cdv ct) ⟨us,[]⟩=pure (ps.zip us)):z5H K fd ps []:=by
 obtain⟨oc,od,kV,doc,pm,an,cdv,ct,osl,rfl,lk,hcd⟩:=F.ex
 exact .all (h kV doc pm an cdv ct)
def zeZ{x qual:Str}{st:Stmt}{f:Addr}{oc:bb}{od an:Option Addr}{osl:Array (Option bb)}{kV doc pm cdv ct:bb}(l:K.lookup f=some ⟨oc,od, .func (W.fnOf x qual (z1t st) (z0k st) (Z9 st) .none kV doc pm an cdv ct),osl⟩)
 (c:W.codeIn K cdv qual=true) (k:W.keepIn K (.ref f)=true):Fun K x qual st f (W.fnOf x qual (z1t st) (z0k st) (Z9 st) .none kV doc pm an cdv ct):=⟨⟨oc,od,kV,doc,pm,an,cdv,ct,osl,rfl,l,c⟩,k⟩
variable{X:Cx}
def pv(i:Nat){x:Str}{pos:bT}(hN:X.N[i]? =some x:=by rfl)(hv:Vis X.env.scope x:=by first|exact Or.inl rfl|exact Or.inr (Or.inl rfl)|exact Or.inr (Or.inr rfl))(hd:(x==("__debug__" :Str))=false:=by decide)
 (hcd:(x==("__classdict__" :Str))=false:=by decide):PE X (.Name x pos) (zhz i):=zeu hN hv hd hcd
end
noncomputable def z3s(H H':Hp):Prop:= ∀b o,H b=some o->H' b=some o
def z3s.refl(H:Hp):z3s H H:=λ_ _ h=>h
section
variable{X:Cx}
def z8c:CallR X (.builtin "len") (λxs H Q=> ∃a kvs,xs=[V.ref a]/\H a=some (.dK kvs)/\Q (.int kvs.length) H):=by
 intro qx s σ H xs us Q I r h
 obtain⟨a,kvs,rfl,ha,q⟩:=h
 obtain⟨u,rfl,ru⟩:=z3Z r
 cases ru
 exact zhZ I (.inl ha) λt s' I'=>⟨.int kvs.length,H,I',⟨t,rfl⟩,q⟩
end
end L2
namespace So
open PySem PySem.W PyProof.Rows
noncomputable abbrev En:=SortKind×Array Keyed
noncomputable def im(i:Nat)(e:En):Keyed:=kas_item e.2 (i %e.2.size)
noncomputable def ar(q:Array Nat)(e:En):Array Keyed:=q.map λi=>im i e
noncomputable def sst(q:Array Nat)(p:Array (Nat×Nat×Nat))(g:Nat)(e:En):SortSt:=SortSt.mk' e.1 (ar q e) p g none
noncomputable def Cmp(prog:bm)(w:bo)(A:bq)(cmp:Nat->Nat->Bool)(G:bf->Prop)(e:En):Prop:=
 ∀i j C s,G s->(∀s',G s'->C (cmp i j) s')->kas_cmp prog w A e.1 e.2 (i %e.2.size) (j %e.2.size) C s
noncomputable def Det(cmp:Nat->Nat->Bool){α:Type}(m:En->StateT SortSt cN α)(st:En->SortSt)(P:(En->α)->(En->SortSt)->Prop):Prop:=
 ∃v st',P v st'/\∀(prog:bm) (w:bo) (A:bq) (E:bb->bf->Prop) (e:En) (G:bf->Prop) (Q:α->SortSt->bf->Prop) (s:bf),Cmp prog w A cmp G e->G s->(∀s',G s'->Q (v e) (st' e) s')->kasC (bi prog w) A E (m e) Q (st e) s
variable{cmp:Nat->Nat->Bool}{α β:Type}{st:En->SortSt}
def V0{a:En->α}{P:(En->α)->(En->SortSt)->Prop}(h:P a st):Det cmp (λe=>pure (a e)) st P:=
 ⟨a,st,h,λ_ _ _ _ _ _ _ s _ hg hq=>fo (hq s hg)⟩
def Y0{m:En->StateT SortSt cN α}{f:En->α->StateT SortSt cN β}{P:(En->β)->(En->SortSt)->Prop}(h:Det cmp m st λv st'=>Det cmp (λe=>f e (v e)) st' P):Det cmp (λe=>m e>>=f e) st P:=by
 obtain⟨v,st1,⟨u,st2,hp,h2⟩,h1⟩:=h
 exact⟨u,st2,hp,λprog w A E e G Q s hc hg hq=>fq (h1 prog w A E e G _ s hc hg λs' hg'=>h2 prog w A E e G Q s' hc hg' hq)⟩
def z0R{m:En->StateT SortSt cN α}{P P':(En->α)->(En->SortSt)->Prop}(h:Det cmp m st P)(hp: ∀v s,P v s->P' v s):Det cmp m st P':=by
 obtain⟨v,st',p,h⟩:=h
 exact⟨v,st',hp _ _ p,h⟩
def za9{P:(En->SortSt)->(En->SortSt)->Prop}(h:P st st):Det cmp (λ_=>get) st P:=
 ⟨st,st,h,λ_ _ _ _ _ _ _ s _ hg hq=>kasC_get (hq s hg)⟩
def zi3{a:En->SortSt}{P:(En->PUnit)->(En->SortSt)->Prop}(h:P (λ_=>⟨⟩) a):Det cmp (λe=>set (a e)) st P:=
 ⟨_,a,h,λ_ _ _ _ _ _ _ s _ hg hq=>by
  delta kasC;rw[StateT.run_set];exact be (hq s hg)⟩
def z1j{f:En->SortSt->SortSt}{P:(En->PUnit)->(En->SortSt)->Prop}(h:P (λ_=>⟨⟩) (λe=>f e (st e))):Det cmp (λe=>modify (f e)) st P:=
 ⟨_,_,h,λ_ _ _ _ _ _ _ s _ hg hq=>kasC_modify (hq s hg)⟩
def zbp{x:String}{P:(En->Unit)->(En->SortSt)->Prop}(h:P (λ_=>()) st):Det cmp (λ_=>liftM (rule x)) st P:=
 ⟨_,st,h,λ_ _ _ _ _ _ _ s _ hg hq=>kasC_lift (dm (hq s hg))⟩
def W8{c:Prop}{i:En->Decidable c}{m m':En->StateT SortSt cN α}{P:(En->α)->(En->SortSt)->Prop}(h1:c->Det cmp m st P)(h2: ¬c->Det cmp m' st P):Det cmp (λe=> @ite _ c (i e) (m e) (m' e)) st P:=by
 by_cases h:c
 .erw[qw h];exact h1 h
 .erw[qy h];exact h2 h
def z3B{q:Array Nat}{i:Nat}{P:(En->Keyed)->(En->SortSt)->Prop}(hi:i<q.size)(h:P (im q[i]) st):Det cmp (λe=>elem' (ar q e) i) st P:=
 ⟨_,st,h,λ_ _ _ _ e _ _ s _ hg hq=>by
  have e1:(ar q e)[i]? =some (im q[i] e):=by simp[ar,hi]
  erw[elem'_eq,e1]
  exact fo (hq s hg)⟩
def zhq{q:Array Nat}{p:Array (Nat×Nat×Nat)}{g i j:Nat}{P:(En->Option Bool)->(En->SortSt)->Prop}(h:P (λ_=>some (cmp i j)) (sst q p g)):Det cmp (λe=>lt' (im i e) (im j e)) (sst q p g) P:=
 ⟨_,_,h,λprog w A E e G Q s hc hg hq=>by
  erw[lt'_eq]
  refine fq (kasC_get ?_)
  refine fq (kasC_lift (cp (bA (hc i j (λb s'=>b=cmp i j/\G s') s hg λs' h=>⟨rfl,h⟩) (λc s' hc'=> ?_) λ_ _ hF=>hF.elim)))
  obtain⟨rfl,hg'⟩:=hc'
  exact fo (hq s' hg')⟩
def z51{q:Array Nat}{p:Array (Nat×Nat×Nat)}{g i j:Nat}{P:(En->Option Bool)->(En->SortSt)->Prop}(hi:i<q.size)(hj:j<q.size)(h:P (λ_=>some (cmp q[i] q[j])) (sst q p g)):Det cmp (λ_=>ltAt' i j) (sst q p g) P:=by
 erw[ltAt'_eq]
 exact Y0 (za9 (Y0 (z3B hi (Y0 (z3B hj (zhq h))))))
def z6y(u v:Nat->Nat)(l:List Nat)(q:Array Nat)(e:En):l.foldl (λa k=>a.swapIfInBounds (u k) (v k)) (ar q e)=ar (l.foldl (λa k=>a.swapIfInBounds (u k) (v k)) q) e:=kas_swaps_map _ u v l q
def zi4{q:Array Nat}{p:Array (Nat×Nat×Nat)}{g i j:Nat}{P:(En->Unit)->(En->SortSt)->Prop}(h:P (λ_=>()) (sst (dv q i j ((j -i)/2)) p g)):Det cmp (λ_=>reverseSlice' i j) (sst q p g) P:=by
 erw[reverseSlice'_eq]
 refine z1j ?_
 have e:(λe=>setArr (sst q p g e) (dv (dS (sst q p g e)) i j ((j -i)/2)))=sst (dv q i j ((j -i)/2)) p g:=by
  funext e
  show SortSt.mk' e.1 (dv (ar q e) i j ((j -i)/2)) p g none=SortSt.mk' e.1 (ar (dv q i j ((j -i)/2)) e) p g none
  rw[show dv (ar q e) i j ((j -i)/2)=ar (dv q i j ((j -i)/2)) e from z6y (λk=>i+k) (λk=>j - 1 -k) _ q e]
 rw[e];exact h
def zf0{q:Array Nat}{p:Array (Nat×Nat×Nat)}{g k l:Nat}{P:(En->Unit)->(En->SortSt)->Prop}(h:P (λ_=>()) (sst (cE q k (k -l)) p g)):Det cmp (λ_=>moveDown' k l) (sst q p g) P:=by
 erw[moveDown'_eq]
 refine z1j ?_
 have e:(λe=>setArr (sst q p g e) (cE (dS (sst q p g e)) k (k -l)))=sst (cE q k (k -l)) p g:=by
  funext e
  show SortSt.mk' e.1 (cE (ar q e) k (k -l)) p g none=SortSt.mk' e.1 (ar (cE q k (k -l)) e) p g none
  rw[show cE (ar q e) k (k -l)=ar (cE q k (k -l)) e from z6y (λi=>k -i) (λi=>k -i - 1) _ q e]
 rw[e];exact h
theorem zbq{f:En->Nat->β->StateT SortSt cN (ForInStep β)}{I:Nat->(En->β)->(En->SortSt)->Prop}{Q:(En->β)->(En->SortSt)->Prop}(hb: ∀(x:Nat) (k:Nat) (b:En->β) (st:En->SortSt),I (k+1) b st->Det cmp (λe=>f e x (b e)) st λv st'=>(∃c,v=(λe=> .done (c e))/\Q c st')\/∃c,v=(λe=> .yield (c e))/\I k c st')(hf: ∀b st,I 0 b st->Q b st):
 ∀(l:List Nat) (b:En->β) (st:En->SortSt),I l.length b st->Det cmp (λe=>forIn l (b e) (f e)) st Q
 |[],b,st,h=>⟨b,st,hf b st h,λ_ _ _ _ _ _ _ s _ hg hq=>kasC_nil (hq s hg)⟩
 |x::l,b,st,h=>by
  obtain⟨v,st1,hp,h1⟩:=hb x l.length b st h
  rcases hp with⟨c,rfl,hp⟩|⟨c,rfl,hp⟩
  .exact⟨c,st1,hp,λprog w A E e G Q s hc hg hq=>dP (h1 prog w A E e G _ s hc hg λs' hg'=>hq s' hg')⟩
  .obtain⟨c2,st2,hp2,h2⟩:=zbq hb hf l c st1 hp
   exact⟨c2,st2,hp2,λprog w A E e G Q s hc hg hq=>dP (h1 prog w A E e G _ s hc hg λs' hg'=>h2 prog w A E e G Q s' hc hg' hq)⟩
def z2M{lo hi:Nat}{f:En->Nat->β->StateT SortSt cN (ForInStep β)}{b:En->β}(I:Nat->(En->β)->(En->SortSt)->Prop){Q:(En->β)->(En->SortSt)->Prop}(h0:I (hi -lo) b st)(hb: ∀(x:Nat) (k:Nat) (b:En->β) (st:En->SortSt),I (k+1) b st->Det cmp (λe=>f e x (b e)) st λv st'=>(∃c,v=(λe=> .done (c e))/\Q c st')\/∃c,v=(λe=> .yield (c e))/\I k c st')(hf: ∀b st,I 0 b st->Q b st):
 Det cmp (λe=>forIn [lo:hi] (b e) (f e)) st Q:=by
 obtain⟨v,st',hp,h⟩:=zbq (cmp:=cmp) (f:=f) (I:=I) (Q:=Q) hb hf (u0o lo (hi -lo)) b st (by rw[List.length_range'];exact h0)
 exact⟨v,st',hp,λprog w A E e G Q s hc hg hq=>fj (h prog w A E e G Q s hc hg hq)⟩
def W6{c:En->β}{I:(En->β)->(En->SortSt)->Prop}{Q:(En->β)->(En->SortSt)->Prop}(h:Q c st):Det cmp (λe=>pure (ForInStep.done (c e))) st λv st'=>(∃c,v=(λe=> .done (c e))/\Q c st')\/∃c,v=(λe=> .yield (c e))/\I c st':=
 V0 (.inl ⟨c,rfl,h⟩)
def Q8{c:En->β}{I:(En->β)->(En->SortSt)->Prop}{Q:(En->β)->(En->SortSt)->Prop}(h:I c st):Det cmp (λe=>pure (ForInStep.yield (c e))) st λv st'=>(∃c,v=(λe=> .done (c e))/\Q c st')\/∃c,v=(λe=> .yield (c e))/\I c st':=
 V0 (.inr ⟨c,rfl,h⟩)
def z6z{c:Prop}{i:En->Decidable c}{v:En->β}{I Q:(En->β)->(En->SortSt)->Prop}(h:I v st):Det cmp (λe=> @ite _ c (i e) (pure (ForInStep.done (v e))) (pure (ForInStep.yield (v e)))) st λu st'=>(∃c,u=(λe=> .done (c e))/\(Q c st'\/I c st'))\/∃c,u=(λe=> .yield (c e))/\I c st':=
 W8 (λ_=>W6 (.inr h)) λ_=>Q8 h
def zbr{Q:Nat->Array Nat->Prop}(R:Nat->Array Nat->Prop){G:Prop}(h:(∀a o,R a o->Q a o)->G)(k: ∀a o,R a o->Q a o):G:=h k
def zf1{Q:Nat->Prop}{G:Prop}(h:(∀mm,Q mm)->G)(k: ∀mm,Q mm):G:=h k
noncomputable def gal:Bool->Keyed->Array Keyed->Nat->Nat->Nat->StateT SortSt cN (Option Nat):=sortPriv%PySem.Builtin.gallop
variable{cmp:Nat->Nat->Bool}{α β:Type}{q:Array Nat}{p:Array (Nat×Nat×Nat)}{g:Nat}
noncomputable def tst(cmp:Nat->Nat->Bool)(left:Bool)(x:Nat)(r:Array Nat)(i:Nat):Bool:=if left=true then cmp (r.getD i 0) x else !cmp x (r.getD i 0)
def z2p{r:Array Nat}{i:Nat}(h:i<r.size):r.getD i 0=r[i]:=by simp[Array.getD,h]
def z52{left:Bool}{r:Array Nat}{i x:Nat}{P:(En->Option Bool)->(En->SortSt)->Prop}(hi:i<r.size)(h:P (λ_=>some (tst cmp left x r i)) (sst q p g)):
 Det cmp (λe=>elem' (ar r e) i>>=λy=>if left=true then lt' y (im x e) else lt' (im x e) y>>=λo=>pure (o.map λb=> !b)) (sst q p g) P:=by
 refine Y0 (z3B hi ?_)
 delta tst at h
 rw[z2p hi] at h
 cases left with
 |true=>exact zhq h
 |false=>exact Y0 (zhq (V0 h))
noncomputable def Gk(t:Nat->Bool)(n k:Nat):Prop:=(∀i j,i<=j->j<n->t j=true->t i=true)->(∀i,i<k->t i=true)/\∀i,k<=i->i<n->t i=false
def z42{left:Bool}{r:Array Nat}{x base n hint:Nat}{P:(En->Option Nat)->(En->SortSt)->Prop}(hn:base+n<=r.size)(hh:hint<n)(h: ∀k,k<=n->Gk (λi=>tst cmp left x r (base+i)) n k->P (λ_=>some k) (sst q p g)):
 Det cmp (λe=>gal left (im x e) (ar r e) base n hint) (sst q p g) P:=by
 obtain⟨t,ht⟩: ∃t:Nat->Bool,t=λi=>tst cmp left x r (base+i):=⟨_,rfl⟩
 rw[<-ht] at h
 have tt: ∀i,tst cmp left x r (base+i)=t i:=λi=>by rw[ht]
 have up: ∀{i:Nat},(∀i j,i<=j->j<n->t j=true->t i=true)->t i=false->∀j,i<=j->j<n->t j=false:=λm e j hj hn=>by
  cases e2:t j with
  |false=>rfl
  |true=>rw[m _ j hj hn e2] at e;cases e
 have fin: ∀(lo hi:Nat),lo<=hi->hi<=n->((∀i j,i<=j->j<n->t j=true->t i=true)->(∀i,i<lo->t i=true)/\∀i,hi<=i->i<n->t i=false)->∀f:En->Nat->(Option (Option Nat)×Nat×Nat)->StateT SortSt cN (ForInStep (Option (Option Nat)×Nat×Nat)),
  (∀(k lo hi:Nat),lo<=hi->hi<=n->hi -lo<=k+1->((∀i j,i<=j->j<n->t j=true->t i=true)->(∀i,i<lo->t i=true)/\∀i,hi<=i->i<n->t i=false)->True)->True:=λ_ _ _ _ _ _ _=>trivial
 clear fin
 have last: ∀(lo hi:Nat),lo<=hi->hi<=n->((∀i j,i<=j->j<n->t j=true->t i=true)->(∀i,i<lo->t i=true)/\∀i,hi<=i->i<n->t i=false)->lo<hi->
  ((∀i j,i<=j->j<n->t j=true->t i=true)->(t (lo+(hi -lo)/2)=true->(∀i,i<lo+(hi -lo)/2+1->t i=true)/\∀i,hi<=i->i<n->t i=false)/\(t (lo+(hi -lo)/2)=false->(∀i,i<lo->t i=true)/\∀i,lo+(hi -lo)/2<=i->i<n->t i=false)):=λlo hi h1 h2 h3 h4 m=>
  ⟨λe=>⟨λi hi=>m i _ ⋯ ⋯ e,(h3 m).2⟩,λe=>⟨(h3 m).1,up m e⟩⟩
 refine Y0 (z52 (left:=left) (r:=r) (i:=base+hint) (x:=x) ⋯ ?_)
 rw[tt]
 cases e0:t hint with
 |true=>
  refine Y0 (z0R (P:=λv st'=>st'=sst q p g/\∃lo hi:Nat,v=(λ_=>(none,lo,hi))/\lo<hi/\hint+lo<n/\t (hint+lo)=true/\(n -hint<=hi\/t (hint+hi)=false)) (z2M (I:=λk v st'=>st'=sst q p g/\∃lo hi:Nat,v=(λ_=>(none,lo,hi))/\lo<hi/\hint+lo<n/\t (hint+lo)=true/\n+1<=hi+k) ⟨rfl,0,1,rfl,⋯,⋯,e0,⋯⟩ ?_ ?_) ?_)
  .rintro _ k b st ⟨rfl,lo,hi,rfl,h1,h2,h3,h4⟩
   dsimp only
   refine W8 (λc=>W6 ⟨rfl,lo,hi,rfl,h1,h2,h3, .inl c⟩) λhlt=> ?_
   refine Y0 (z52 (left:=left) (r:=r) (i:=base+(hint+hi)) (x:=x) ⋯ ?_)
   rw[tt]
   cases e1:t (hint+hi) with
   |true=>exact Q8 ⟨rfl,_,_,rfl,⋯,⋯,e1,⋯⟩
   |false=>exact W6 ⟨rfl,lo,hi,rfl,h1,h2,h3, .inr e1⟩
  .rintro b st ⟨rfl,lo,hi,rfl,h1,h2,h3,h4⟩
   exact⟨rfl,lo,hi,rfl,h1,h2,h3, .inl ⋯⟩
  .rintro v st ⟨rfl,lo,hi,rfl,h1,h2,h3,h4⟩
   dsimp only
   refine Y0 (z0R (P:=λv st'=>st'=sst q p g/\∃hi:Nat,v=(λ_=>(none,hi,hi))/\hi<=n/\Gk t n hi) (z2M (I:=λk v st'=>st'=sst q p g/\∃lo hi:Nat,v=(λ_=>(none,lo,hi))/\lo<=hi/\hi<=n/\hi<=lo+k/\((∀i j,i<=j->j<n->t j=true->t i=true)->(∀i,i<lo->t i=true)/\∀i,hi<=i->i<n->t i=false)) ⟨rfl,_,_,rfl,⋯,⋯,⋯,λm=>⟨λi hi=>m i _ ⋯ h2 h3,λi hi hn=> ?_⟩⟩ ?_ ?_) ?_)
   .rcases h4 with h4|h4
    .lia
    .exact up m h4 i ⋯ hn
   .rintro _ k b st ⟨rfl,lo,hi,rfl,h1,h2,h3,h4⟩
    dsimp only
    refine W8 (λc=>W6 ⟨rfl,hi,by rw[show lo=hi by lia],h2,λm=>by rw[show lo=hi by lia] at h4;exact h4 m⟩) λhlt=> ?_
    refine Y0 (z52 (left:=left) (r:=r) (x:=x) ⋯ ?_)
    rw[tt]
    cases e1:t (lo+(hi -lo)/2) with
    |true=>exact Q8 ⟨rfl,_,hi,rfl,⋯,h2,⋯,λm=>(last lo hi h1 h2 h4 ⋯ m).1 e1⟩
    |false=>exact Q8 ⟨rfl,lo,_,rfl,⋯,⋯,⋯,λm=>(last lo hi h1 h2 h4 ⋯ m).2 e1⟩
   .rintro b st ⟨rfl,lo,hi,rfl,h1,h2,h3,h4⟩
    obtain rfl:lo=hi:=by lia
    exact⟨rfl,lo,rfl,h2,h4⟩
   .rintro v st ⟨rfl,hi,rfl,h2,h4⟩
    exact V0 (h hi h2 h4)
 |false=>
  refine Y0 (z0R (P:=λv st'=>st'=sst q p g/\∃lo hi:Nat,v=(λ_=>(none,lo,hi))/\lo<hi/\lo<=hint/\t (hint -lo)=false/\(hint+1<=hi\/t (hint -hi)=true)) (z2M (I:=λk v st'=>st'=sst q p g/\∃lo hi:Nat,v=(λ_=>(none,lo,hi))/\lo<hi/\lo<=hint/\t (hint -lo)=false/\n+1<=hi+k) ⟨rfl,0,1,rfl,⋯,⋯,e0,⋯⟩ ?_ ?_) ?_)
  .rintro _ k b st ⟨rfl,lo,hi,rfl,h1,h2,h3,h4⟩
   dsimp only
   refine W8 (λc=>W6 ⟨rfl,lo,hi,rfl,h1,h2,h3, .inl c⟩) λhlt=> ?_
   refine Y0 (z52 (left:=left) (r:=r) (i:=base+(hint -hi)) (x:=x) ⋯ ?_)
   rw[tt]
   cases e1:t (hint -hi) with
   |true=>exact W6 ⟨rfl,lo,hi,rfl,h1,h2,h3, .inr e1⟩
   |false=>exact Q8 ⟨rfl,_,_,rfl,⋯,⋯,e1,⋯⟩
  .rintro b st ⟨rfl,lo,hi,rfl,h1,h2,h3,h4⟩
   exact⟨rfl,lo,hi,rfl,h1,h2,h3, .inl ⋯⟩
  .rintro v st ⟨rfl,lo,hi,rfl,h1,h2,h3,h4⟩
   dsimp only
   refine Y0 (z0R (P:=λv st'=>st'=sst q p g/\∃hi:Nat,v=(λ_=>(none,hi,hi))/\hi<=n/\Gk t n hi) (z2M (I:=λk v st'=>st'=sst q p g/\∃lo hi:Nat,v=(λ_=>(none,lo,hi))/\lo<=hi/\hi<=n/\hi<=lo+k/\((∀i j,i<=j->j<n->t j=true->t i=true)->(∀i,i<lo->t i=true)/\∀i,hi<=i->i<n->t i=false)) ⟨rfl,_,_,rfl,⋯,⋯,⋯,λm=>⟨λi hi=> ?_,up m h3⟩⟩ ?_ ?_) ?_)
   .rcases h4 with h4|h4
    .lia
    .exact m i _ ⋯ ⋯ h4
   .rintro _ k b st ⟨rfl,lo,hi,rfl,h1,h2,h3,h4⟩
    dsimp only
    refine W8 (λc=>W6 ⟨rfl,hi,by rw[show lo=hi by lia],h2,λm=>by rw[show lo=hi by lia] at h4;exact h4 m⟩) λhlt=> ?_
    refine Y0 (z52 (left:=left) (r:=r) (x:=x) ⋯ ?_)
    rw[tt]
    cases e1:t (lo+(hi -lo)/2) with
    |true=>exact Q8 ⟨rfl,_,hi,rfl,⋯,h2,⋯,λm=>(last lo hi h1 h2 h4 ⋯ m).1 e1⟩
    |false=>exact Q8 ⟨rfl,lo,_,rfl,⋯,⋯,⋯,λm=>(last lo hi h1 h2 h4 ⋯ m).2 e1⟩
   .rintro b st ⟨rfl,lo,hi,rfl,h1,h2,h3,h4⟩
    obtain rfl:lo=hi:=by lia
    exact⟨rfl,lo,rfl,h2,h4⟩
   .rintro v st ⟨rfl,hi,rfl,h2,h4⟩
    exact V0 (h hi h2 h4)
end So
set_option linter.unusedSimpArgs false
namespace So
open PySem PySem.W PyProof.Rows
noncomputable def mlo:Array Keyed->Array Keyed->StateT SortSt cN (Array Keyed):=sortPriv%PySem.Builtin.mergeLo
def z2N{q:Array Nat}{e:En}:(ar q e).size=q.size:=by simp[ar]
def z2O{q:Array Nat}{i:Nat}{e:En}:(ar q e).push (im i e)=ar (q.push i) e:=by simp[ar]
def z2d{q r:Array Nat}{e:En}:ar q e++ar r e=ar (q++r) e:=by simp[ar]
def V1{q:Array Nat}{i j:Nat}{e:En}:(ar q e).extract i j=ar (q.extract i j) e:=by simp[ar]
def z3C{q:Array Nat}{e:En}:(ar q e).reverse=ar q.reverse e:=by simp[ar]
def zbs{i:Nat}{e:En}: #[im i e]=ar #[i] e:=by simp[ar]
variable{cmp:Nat->Nat->Bool}{α β:Type}{q:Array Nat}{p:Array (Nat×Nat×Nat)}{g:Nat}
theorem zf2{g':Nat}{P:(En->Unit)->(En->SortSt)->Prop}(h:P (λ_=>()) (sst q p g')):Det cmp (λ_=>(sortPriv%PySem.Builtin.setMinGallop) g') (sst q p g) P:=z1j h
def z2P{st:En->SortSt}{x:String}{f:En->Unit->StateT SortSt cN β}{P:(En->β)->(En->SortSt)->Prop}(h:Det cmp (λe=>f e ()) st P):Det cmp (λe=>liftM (rule x)>>=f e) st P:=Y0 (zbp h)
def z3D{st:En->SortSt}{f:En->SortSt->StateT SortSt cN β}{P:(En->β)->(En->SortSt)->Prop}(h:Det cmp (λe=>f e (st e)) st P):Det cmp (λe=>get>>=f e) st P:=Y0 (za9 h)
def J2{st:En->SortSt}{a:Array Nat}{i:Nat}{f:En->Keyed->StateT SortSt cN β}{P:(En->β)->(En->SortSt)->Prop}(hi:i<a.size)(h:Det cmp (λe=>f e (im a[i] e)) st P):Det cmp (λe=>elem' (ar a e) i>>=f e) st P:=Y0 (z3B hi h)
def zf3{i j:Nat}{f:En->Option Bool->StateT SortSt cN β}{P:(En->β)->(En->SortSt)->Prop}(h:Det cmp (λe=>f e (some (cmp i j))) (sst q p g) P):Det cmp (λe=>lt' (im i e) (im j e)>>=f e) (sst q p g) P:=Y0 (zhq h)
theorem z43{g':Nat}{f:En->Unit->StateT SortSt cN β}{P:(En->β)->(En->SortSt)->Prop}(h:Det cmp (λe=>f e ()) (sst q p g') P):Det cmp (λe=>(sortPriv%PySem.Builtin.setMinGallop) g'>>=f e) (sst q p g) P:=Y0 (zf2 h)
def z1D{left:Bool}{r:Array Nat}{x base n hint:Nat}{f:En->Option Nat->StateT SortSt cN β}{P:(En->β)->(En->SortSt)->Prop}(hn:base+n<=r.size)(hh:hint<n)(h: ∀k,k<=n->Gk (λi=>tst cmp left x r (base+i)) n k->Det cmp (λe=>f e (some k)) (sst q p g) P):Det cmp (λe=>gal left (im x e) (ar r e) base n hint>>=f e) (sst q p g) P:=Y0 (z42 hn hh h)
def zbt{Q:Nat->(En->Array Keyed)->Prop}(R:Nat->(En->Array Keyed)->Prop){G:Prop}(h:(∀a o,R a o->Q a o)->G)(k: ∀a o,R a o->Q a o):G:=h k
def z3E{γ:Type}{lo hi:Nat}{st:En->SortSt}{f:En->Nat->β->StateT SortSt cN (ForInStep β)}{b:En->β}{g:En->β->StateT SortSt cN γ}(I:Nat->(En->β)->(En->SortSt)->Prop)(Q:(En->β)->(En->SortSt)->Prop){P:(En->γ)->(En->SortSt)->Prop}(h0:I (hi -lo) b st)
 (hb: ∀(x:Nat) (k:Nat) (b:En->β) (st:En->SortSt),I (k+1) b st->Det cmp (λe=>f e x (b e)) st λv st'=>(∃c,v=(λe=> .done (c e))/\Q c st')\/∃c,v=(λe=> .yield (c e))/\I k c st')
 (hf: ∀b st,I 0 b st->Q b st) (hk: ∀v st',Q v st'->Det cmp (λe=>g e (v e)) st' P):Det cmp (λe=>forIn [lo:hi] (b e) (f e)>>=g e) st P:=Y0 (z0R (z2M I h0 hb hf) hk)
structure OdA(cmp:Nat->Nat->Bool):Prop where
 a: ∀i j,cmp i j=true->cmp j i=false
 t: ∀i j k,cmp i j=false->cmp j k=false->cmp i k=false
noncomputable def Sr(cmp:Nat->Nat->Bool)(l:List Nat):Prop:=l.Pairwise λx y=>cmp y x=false
noncomputable def Mg(le:Nat->Nat->Prop)(Pr:Prop)(L R:List Nat)(f:En->Array Keyed):Prop:= ∃q:Array Nat,f=ar q/\(q.toList++R).Perm L/\(Pr->q.toList.Pairwise le/\∀x∈q.toList,∀y∈R,le x y)
section
variable{le:Nat->Nat->Prop}{Pr:Prop}{L R R':List Nat}{f:En->Array Keyed}
def Mg.push{x:Nat}(h:Mg le Pr L R f)(e:R.Perm (x::R'))(c:Pr->∀y∈R',le x y):Mg le Pr L R' λe=>(f e).push (im x e):=by
 obtain⟨q,rfl,h1,h2⟩:=h
 refine⟨q.push x,funext λe=>z2O, ?_,λpr=> ?_⟩
 .rw[Array.toList_push,m9]
  exact(e.symm.append_left _).trans h1
 .obtain⟨s,t⟩:=h2 pr
  rw[Array.toList_push]
  refine⟨C4.mpr ⟨s,N0 _ _,λa ha b hb=> ?_⟩,λa ha y hy=> ?_⟩
  .rw[m4.mp hb];exact t a ha x (e.mem_iff.mpr l5)
  .rcases i9.mp ha with ha|ha
   .exact t a ha y (e.mem_iff.mpr (i5 _ hy))
   .rw[m4.mp ha];exact c pr y hy
def Mg.fin{r:Array Nat}{g:En->Array Keyed}(h:Mg le Pr L R f)(e:r.toList.Perm R)(s:Pr->r.toList.Pairwise le)(hg: ∀q,f=ar q->g=ar (q++r)):Mg le Pr L [] g:=by
 obtain⟨q,rfl,h1,h2⟩:=h
 refine⟨q++r,hg q rfl, ?_,λpr=>⟨?_,λ_ _ y hy=>by cases hy⟩⟩
 .rw[Array.toList_append,l4]
  exact(e.append_left _).trans h1
 .rw[Array.toList_append]
  exact C4.mpr ⟨(h2 pr).1,s pr,λa ha b hb=>(h2 pr).2 a ha b (e.mem_iff.mp hb)⟩
end
def dr{l:List Nat}{i:Nat}(h:i<l.length):l.drop i=l[i]::l.drop (i+1):=M8 h
def Sr.at{l:List Nat}(s:Sr cmp l){i j:Nat}(hij:i<j)(hj:j<l.length):cmp l[j] l[i]=false:=P6.mp s i j ⋯ hj hij
def Sr.drop{l:List Nat}(o:OdA cmp)(s:Sr cmp l){i:Nat}(hi:i<l.length){y:Nat}(hy:y∈l.drop i):cmp y l[i]=false:=by
 rw[dr hi] at hy
 rcases l6.mp hy with rfl|hy
 .cases e:cmp l[i] l[i] with
  |false=>rfl
  |true=>rw[<-e];exact o.a _ _ e
 .obtain⟨k,hk,rfl⟩:=E4 hy
  rw[List.getElem_drop]
  exact s.at ⋯ (by simpa using Nat.add_lt_of_lt_sub' (by simpa using hk))
noncomputable def SS(cmp:Nat->Nat->Bool)(q:Array Nat)(lo m:Nat):Prop:= ∀i j,i<=j->j<m->cmp (q.getD (lo+j) 0) (q.getD (lo+i) 0)=false
def OdA.r(o:OdA cmp)(i:Nat):cmp i i=false:=by
 cases e:cmp i i with
 |false=>rfl
 |true=>rw[<-e];exact o.a i i e
def Sr.ss(o:OdA cmp){r:Array Nat}(s:Sr cmp r.toList){a n:Nat}(h:a+n<=r.size):SS cmp r a n:=λi j hij hj=>by
 by_cases e:i=j
 .subst e;exact o.r _
 .rw[z2p ⋯,z2p ⋯]
  exact s.at (i:=a+i) (j:=a+j) ⋯ (by show a+j<r.size;lia)
section
variable{qa qb:Array Nat}
structure Pr(cmp:Nat->Nat->Bool)(qa qb:Array Nat):Prop where
 o:OdA cmp
 a:Sr cmp qa.toList
 b:Sr cmp qb.toList
 f: ∀x∈qa.toList,cmp x (qb.getD 0 0)=false
 l: ∀y∈qb.toList,cmp (qa.getD (qa.size - 1) 0) y=false
noncomputable abbrev ML(cmp:Nat->Nat->Bool)(qa qb:Array Nat)(i j:Nat):(En->Array Keyed)->Prop:=Mg (λx y=>cmp y x=false) (Pr cmp qa qb) (qa.toList++qb.toList) (qa.toList.drop i++qb.toList.drop j)
noncomputable abbrev MF(cmp:Nat->Nat->Bool)(qa qb:Array Nat):(En->Array Keyed)->Prop:=Mg (λx y=>cmp y x=false) (Pr cmp qa qb) (qa.toList++qb.toList) []
variable{i j k:Nat}{f:En->Array Keyed}
def zjV(hb:0<qb.size):ML cmp qa qb 0 1 λe=> #[im qb[0] e]:=by
 refine⟨#[qb[0]],funext λe=>zbs, ?_,λpr=>⟨N0 _ _,λx hx y hy=> ?_⟩⟩
 .show([qb[0]]++(qa.toList.drop 0++qb.toList.drop 1)).Perm _
  have e:qb.toList=qb[0]::qb.toList.drop 1:=dr (l:=qb.toList) (i:=0) hb
  conv=>rhs;rw[e]
  show(qb[0]::(qa.toList++qb.toList.drop 1)).Perm _
  exact N7.symm
 .have hx:x=qb[0]:=by simpa using hx
  subst hx
  rcases i9.mp hy with hy|hy
  .have:=pr.f y hy
   rwa [z2p hb] at this
  .exact pr.b.drop pr.o (i:=0) hb (E9 hy)
def zi5(h:ML cmp qa qb i j f)(hi:i<qa.size)(hj:j<qb.size)(c:Pr cmp qa qb->cmp qb[j] qa[i]=true):ML cmp qa qb i (j+1) λe=>(f e).push (im qb[j] e):=by
 refine Mg.push h ?_ λpr y hy=> ?_
 .rw[dr (l:=qb.toList) hj];exact N7
 .rcases i9.mp hy with hy|hy
  .exact pr.o.t _ _ _ (pr.a.drop pr.o hi hy) (pr.o.a _ _ (c pr))
  .exact pr.b.drop pr.o hj (E9 (i:=1) (by rwa [D9]))
def zhr(h:ML cmp qa qb i j f)(hi:i<qa.size)(hj:j<qb.size)(c:Pr cmp qa qb->cmp qb[j] qa[i]=false):ML cmp qa qb (i+1) j λe=>(f e).push (im qa[i] e):=by
 refine Mg.push h ?_ λpr y hy=> ?_
 .rw[dr (l:=qa.toList) hi];exact List.Perm.refl _
 .rcases i9.mp hy with hy|hy
  .exact pr.a.drop pr.o hi (E9 (i:=1) (by rwa [D9]))
  .exact pr.o.t _ _ _ (pr.b.drop pr.o hj hy) (c pr)
def zf4{q:Array Nat}{i k:Nat}(h:i+k<q.size):q.extract i (i+(k+1))=(q.extract i (i+k)).push q[i+k]:=by
 apply Array.toList_inj.mp
 rw[Array.toList_push,Array.toList_extract,Array.toList_extract]
 erw[D2,Nat.add_sub_cancel_left]
 rw[C9]
 simp[h]
theorem zf5(h:ML cmp qa qb i j f)(hj:j<qb.size): ∀k,i+k<=qa.size->(Pr cmp qa qb->∀t (h:i+t<qa.size),t<k->cmp qb[j] qa[i+t]=false)->ML cmp qa qb (i+k) j λe=>f e++(ar qa e).extract i (i+k)
 |0,_,_=>by
  have e:(λe=>f e++(ar qa e).extract i (i+0))=f:=funext λe=>by simp;lia
  rw[e];exact h
 |k+1,hk,c=>by
  have:=zhr (zf5 h hj k ⋯ λpr t h ht=>c pr t h ⋯) ⋯ hj λpr=>c pr k ⋯ ⋯
  have e:(λe=>f e++(ar qa e).extract i (i+(k+1)))=λe=>(f e++(ar qa e).extract i (i+k)).push (im qa[i+k] e):=funext λe=>by
   rw[V1,V1,zf4 ⋯,<-z2O,Array.append_push]
  rw[e];exact this
theorem zf6(h:ML cmp qa qb i j f)(hi:i<qa.size): ∀k,j+k<=qb.size->(Pr cmp qa qb->∀t (h:j+t<qb.size),t<k->cmp qb[j+t] qa[i]=true)->ML cmp qa qb i (j+k) λe=>f e++(ar qb e).extract j (j+k)
 |0,_,_=>by
  have e:(λe=>f e++(ar qb e).extract j (j+0))=f:=funext λe=>by simp;lia
  rw[e];exact h
 |k+1,hk,c=>by
  have:=zi5 (zf6 h hi k ⋯ λpr t h ht=>c pr t h ⋯) hi ⋯ λpr=>c pr k ⋯ ⋯
  have e:(λe=>f e++(ar qb e).extract j (j+(k+1)))=λe=>(f e++(ar qb e).extract j (j+k)).push (im qb[j+k] e):=funext λe=>by
   rw[V1,V1,zf4 ⋯,<-z2O,Array.append_push]
  rw[e];exact this
def z53{q:Array Nat}{i:Nat}:(q.extract i q.size).toList=q.toList.drop i:=by
 rw[Array.toList_extract,D2]
 exact B4 (by simp)
def zf7(h:ML cmp qa qb i j f)(c:qa.size<=i\/qb.size<=j):MF cmp qa qb λe=>f e++(ar qa e).extract i qa.size++(ar qb e).extract j qb.size:=by
 refine Mg.fin (r:=qa.extract i qa.size++qb.extract j qb.size) h (by rw[Array.toList_append,z53,z53]) (λpr=> ?_) λq e=>by subst e;funext e;rw[V1,V1,z2d,z2d,Array.append_assoc]
 rw[Array.toList_append,z53,z53]
 rcases c with c|c
 .rw[C2 (by simpa using c)];exact pr.b.sublist (N1 _ _)
 .rw[C2 (as:=qb.toList) (by simpa using c),l4];exact pr.a.sublist (N1 _ _)
def zf8(h:ML cmp qa qb i j f)(c:i+1=qa.size):MF cmp qa qb λe=>f e++(ar qb e).extract j qb.size++(ar qa e).extract i qa.size:=by
 refine Mg.fin (r:=qb.extract j qb.size++qa.extract i qa.size) h (by rw[Array.toList_append,z53,z53];exact L5) (λpr=> ?_) λq e=>by subst e;funext e;rw[V1,V1,z2d,z2d,Array.append_assoc]
 rw[Array.toList_append,z53,z53]
 refine C4.mpr ⟨pr.b.sublist (N1 _ _),pr.a.sublist (N1 _ _),λy hy x hx=> ?_⟩
 have h1:=pr.l y (E9 hy)
 rw[dr (l:=qa.toList) (by show i<qa.size;lia),C2 (by show qa.size<=_;lia)] at hx
 rw[m4.mp hx]
 rw[z2p ⋯] at h1
 have e:qa.size - 1=i:=by lia
 erw[e] at h1
 exact h1
def zf9(o:OdA cmp){r:Array Nat}{x base n:Nat}(s:SS cmp r base n): ∀i j,i<=j->j<n->tst cmp false x r (base+j)=true->tst cmp false x r (base+i)=true:=by
 intro i j hij hj h
 erw[tst,t9,if_false,u05] at h⊢
 exact o.t _ _ _ h (s i j hij hj)
def zfa(o:OdA cmp){r:Array Nat}{x base n:Nat}(s:SS cmp r base n): ∀i j,i<=j->j<n->tst cmp true x r (base+j)=true->tst cmp true x r (base+i)=true:=by
 intro i j hij hj h
 erw[tst,if_true] at h⊢
 cases e2:cmp (r.getD (base+i) 0) x with
 |true=>rfl
 |false=>rw[o.t _ _ _ (s i j hij hj) e2] at h;cases h
def zi6(o:OdA cmp){r:Array Nat}{x base n k:Nat}(s:SS cmp r base n)(h:Gk (λi=>tst cmp false x r (base+i)) n k):(∀t (ht:base+t<r.size),t<k->t<n->cmp x r[base+t]=false)/\∀t (ht:base+t<r.size),k<=t->t<n->cmp x r[base+t]=true:=by
 obtain⟨h1,h2⟩:=h (zf9 o s)
 refine⟨λt ht hk hn=> ?_,λt ht hk hn=> ?_⟩
 .have:=h1 t hk
  simpa only[tst,t9,if_false,z2p ht,u05] using this
 .have:=h2 t hk hn
  simpa only[tst,t9,if_false,z2p ht,T8] using this
def zi7(o:OdA cmp){r:Array Nat}{x base n k:Nat}(s:SS cmp r base n)(h:Gk (λi=>tst cmp true x r (base+i)) n k):(∀t (ht:base+t<r.size),t<k->t<n->cmp r[base+t] x=true)/\∀t (ht:base+t<r.size),k<=t->t<n->cmp r[base+t] x=false:=by
 obtain⟨h1,h2⟩:=h (zfa o s)
 refine⟨λt ht hk hn=> ?_,λt ht hk hn=> ?_⟩
 .have:=h1 t hk
  simpa only[tst,if_true,z2p ht] using this
 .have:=h2 t hk hn
  simpa only[tst,if_true,z2p ht] using this
end
noncomputable def Rt(F:(En->Array Keyed)->Prop)(q:Array Nat)(p:Array (Nat×Nat×Nat)){β:Type}(v:En->Option (Array Keyed)×β)(st:En->SortSt):Prop:= ∃(mq:En->Array Keyed) (b:En->β) (g:Nat),v=(λe=>(some (mq e),b e))/\F mq/\st=sst q p g
def zi8{qa qb:Array Nat}{P:(En->Array Keyed)->(En->SortSt)->Prop}(a1:1<=qa.size)(b1:1<=qb.size)(h0: ∀mq g',MF cmp qa qb mq->P mq (sst q p g')):
 Det cmp (λe=>mlo (ar qa e) (ar qb e)) (sst q p g) P:=by
 have m0:=zjV (cmp:=cmp) (qa:=qa) (qb:=qb) b1
 refine z2P ?_
 refine J2 ⋯ ?_
 erw[z2N]
 refine W8 (λc=>V0 (h0 _ _ ?_)) λc1=>W8 (λc=>V0 (h0 _ _ ?_)) λc2=> ?_
 .erw[beq_iff_eq] at c
  exact zf7 m0 (.inr ⋯)
 .erw[beq_iff_eq] at c
  exact zf8 m0 ⋯
 erw[beq_iff_eq] at c1 c2
 refine z3D ?_
 try dsimp only
 refine z3E (Q:=λv st'=>Rt (MF cmp qa qb) q p v st') (I:=λk v st'=> ∃(out:En->Array Keyed) (ia ib mg g':Nat),v=(λe=>(none,out e,ia,ib,mg))/\st'=sst q p g'/\ML cmp qa qb ia ib out/\ia+1<qa.size/\ib<qb.size/\qa.size+qb.size+1<=ia+ib+k) ⟨_,0,1,g,g,rfl,rfl,m0,⋯,⋯,⋯⟩ ?_ ?_ ?_
 .rintro _ k b st ⟨out,ia,ib,mg,g',rfl,rfl,ho,hia,hib,hk⟩
  try dsimp only
  refine z3E (Q:=λv st'=>Rt (MF cmp qa qb) q p v st'\/∃(out:En->Array Keyed) (ja jb ac bc:Nat),v=(λe=>(none,out e,ja,jb,ac,bc))/\st'=sst q p g'/\ML cmp qa qb ja jb out/\ja+1<qa.size/\jb<qb.size/\ia+ib+1<=ja+jb) (I:=λk v st'=> ∃(out:En->Array Keyed) (ja jb ac bc:Nat),v=(λe=>(none,out e,ja,jb,ac,bc))/\st'=sst q p g'/\ML cmp qa qb ja jb out/\ja+1<qa.size/\jb<qb.size/\ia+ib+(qa.size+qb.size)<=ja+jb+k/\k<=qa.size+qb.size) ⟨out,ia,ib,0,0,rfl,rfl,ho,hia,hib,⋯,⋯⟩ ?_ ?_ ?_
  .rintro _ k b st ⟨out,ja,jb,ac,bc,rfl,rfl,ho,hja,hjb,hp,hk2⟩
   try dsimp only
   refine J2 hjb (J2 ⋯ (zf3 ?_))
   try dsimp only
   cases ce:cmp qb[jb] qa[ja] with
   |true=>
    have ho2:=zi5 ho ⋯ hjb λ_=>ce
    refine J2 hjb ?_
    try dsimp only
    refine W8 (λc=>W6 (.inl ⟨_,_,_,rfl,zf7 ho2 (.inr (by erw[beq_iff_eq] at c;lia)),rfl⟩)) λc=> ?_
    erw[beq_iff_eq] at c
    refine W8 (λ_=>W6 (.inr ⟨_,_,_,_,_,rfl,rfl,ho2,hja,⋯,⋯⟩)) λ_=>Q8 ⟨_,_,_,_,_,rfl,rfl,ho2,hja,⋯,⋯,⋯⟩
   |false=>
    have ho2:=zhr ho ⋯ hjb λ_=>ce
    refine J2 ⋯ ?_
    try dsimp only
    refine W8 (λc=>W6 (.inl ⟨_,_,_,rfl,zf8 ho2 (by erw[beq_iff_eq] at c;lia),rfl⟩)) λc=> ?_
    erw[beq_iff_eq] at c
    refine W8 (λ_=>W6 (.inr ⟨_,_,_,_,_,rfl,rfl,ho2,⋯,hjb,⋯⟩)) λ_=>Q8 ⟨_,_,_,_,_,rfl,rfl,ho2,⋯,hjb,⋯,⋯⟩
  .rintro b st ⟨out,ja,jb,ac,bc,rfl,rfl,ho,hja,hjb,hp,hk2⟩
   exact .inr ⟨_,_,_,_,_,rfl,rfl,ho,hja,hjb,⋯⟩
  .rintro v st (⟨mq,b,g2,rfl,hm,rfl⟩|⟨out,ja,jb,ac,bc,rfl,rfl,ho,hja,hjb,hp⟩)
   .exact W6 ⟨_,_,_,rfl,hm,rfl⟩
   try dsimp only
   refine z2P ?_
   refine z3E (Q:=λv st'=>Rt (MF cmp qa qb) q p v st'\/∃(out:En->Array Keyed) (ka kb mg ac bc g':Nat),v=(λe=>(none,out e,ka,kb,mg,ac,bc))/\st'=sst q p g'/\ML cmp qa qb ka kb out/\ka+1<qa.size/\kb<qb.size/\ja+jb<=ka+kb) (I:=λk v st'=> ∃(out:En->Array Keyed) (ka kb mg ac bc g':Nat),v=(λe=>(none,out e,ka,kb,mg,ac,bc))/\st'=sst q p g'/\ML cmp qa qb ka kb out/\ka+1<qa.size/\kb<qb.size/\ja+jb<=ka+kb) ⟨out,ja,jb,_,ac,bc,_,rfl,rfl,ho,hja,hjb,⋯⟩ ?_ (λb st h=> .inr h) ?_
   .rintro _ k b st ⟨out,ka,kb,mg,ac,bc,g2,rfl,rfl,ho,hka,hkb,hp2⟩
    try dsimp only
    try erw[z2N]
    apply zf1
    .intro key
     refine W8 (c:=mg>1) (λ_=> ?_) (λ_=> ?_)
     rotate_left
     .generalize mg=z
      exact key z
     .exact key _
    .intro mm
     try dsimp only
     refine z43 (J2 hkb (z1D ⋯ ⋯ λk hk gk=> ?_))
     try dsimp only
     have gk:Pr cmp qa qb->_:=λpr=>zi6 pr.o (pr.a.ss pr.o ⋯) gk
     have hoe:=zf5 ho hkb k ⋯ λpr t h ht=>(gk pr).1 t h ht ⋯
     obtain⟨KA,hKA⟩: ∃KA,KA=ka:=⟨_,rfl⟩
     apply zbt (λa o=>ML cmp qa qb a kb o/\a+1<qa.size/\KA<=a/\(Pr cmp qa qb->∀h:a<qa.size,cmp qb[kb] qa[a]=true))
     .intro key
      refine W8 (λk0=>W8 (λc=>W6 (.inl ⟨_,_,_,rfl,zf8 hoe (by erw[beq_iff_eq] at c;lia),rfl⟩)) λc1=>W8 (λc=>W6 (.inl ⟨_,_,_,rfl,zf7 hoe (.inl (by erw[beq_iff_eq] at c;lia)),rfl⟩)) λc2=> ?_) (λk0=> ?_)
      rotate_left
      .have r:ML cmp qa qb ka kb out/\ka+1<qa.size/\KA<=ka/\(Pr cmp qa qb->∀h:ka<qa.size,cmp qb[kb] qa[ka]=true):=⟨ho,hka,⋯,λpr h=>(gk pr).2 0 h ⋯ ⋯⟩
       revert r
       generalize out=z2
       generalize ka=z1
       intro r
       exact key z1 z2 r
      .erw[beq_iff_eq] at c1 c2
       exact key _ _ ⟨hoe,⋯,⋯,λpr h=>(gk pr).2 k h ⋯ ⋯⟩
     .clear hoe gk
      intro ka0 out0 r0
      obtain⟨ho0,ka01,ka02,lt0⟩:=r0
      try dsimp only
      have ho1:=zi5 ho0 ⋯ hkb λpr=>lt0 pr ⋯
      refine J2 hkb ?_
      refine W8 (λc=>W6 (.inl ⟨_,_,_,rfl,zf7 ho1 (.inr (by erw[beq_iff_eq] at c;lia)),rfl⟩)) λc3=> ?_
      erw[beq_iff_eq] at c3
      refine J2 ⋯ (z1D ⋯ ⋯ λk' hk' gk=> ?_)
      try dsimp only
      have gk:Pr cmp qa qb->_:=λpr=>zi7 pr.o (pr.b.ss pr.o ⋯) gk
      have hoe:=zf6 ho1 ⋯ k' ⋯ λpr t h ht=>(gk pr).1 t h ht ⋯
      refine W8 (λk1=>W8 (λc=>W6 (.inl ⟨_,_,_,rfl,zf7 hoe (.inr (by erw[beq_iff_eq] at c;lia)),rfl⟩)) λc4=> ?_) (λk1=> ?_)
      .erw[beq_iff_eq] at c4
       have ho2:=zhr hoe ⋯ ⋯ λpr=>(gk pr).2 k' ⋯ ⋯ ⋯
       refine J2 ⋯ ?_
       refine W8 (λc=>W6 (.inl ⟨_,_,_,rfl,zf8 ho2 (by erw[beq_iff_eq] at c;lia),rfl⟩)) λc5=> ?_
       erw[beq_iff_eq] at c5
       exact z6z ⟨_,_,_,_,_,_,_,rfl,rfl,ho2,⋯,⋯,⋯⟩
      .have ho2:=zhr ho1 ⋯ ⋯ λpr=>(gk pr).2 0 ⋯ ⋯ ⋯
       refine J2 ⋯ ?_
       refine W8 (λc=>W6 (.inl ⟨_,_,_,rfl,zf8 ho2 (by erw[beq_iff_eq] at c;lia),rfl⟩)) λc5=> ?_
       erw[beq_iff_eq] at c5
       exact z6z ⟨_,_,_,_,_,_,_,rfl,rfl,ho2,⋯,⋯,⋯⟩
   .rintro v st (⟨mq,b,g2,rfl,hm,rfl⟩|⟨out,ka,kb,mg,ac,bc,g2,rfl,rfl,ho,hka,hkb,hp2⟩)
    .exact W6 ⟨_,_,_,rfl,hm,rfl⟩
    .try dsimp only
     exact z43 (Q8 ⟨_,_,_,_,_,rfl,rfl,ho,hka,hkb,⋯⟩)
 .rintro b st ⟨out,ia,ib,mg,g',rfl,rfl,ho,hia,hib,hk⟩
  lia
 .rintro v st ⟨mq,b,g',rfl,hm,rfl⟩
  exact V0 (h0 _ _ hm)
noncomputable def mhi:Array Keyed->Array Keyed->StateT SortSt cN (Array Keyed):=sortPriv%PySem.Builtin.mergeHi
variable{cmp:Nat->Nat->Bool}{α β:Type}{q:Array Nat}{p:Array (Nat×Nat×Nat)}{g:Nat}
section
variable{qa qb:Array Nat}{na nb k:Nat}{f:En->Array Keyed}
noncomputable abbrev MH(cmp:Nat->Nat->Bool)(qa qb:Array Nat)(na nb:Nat):(En->Array Keyed)->Prop:=Mg (λx y=>cmp x y=false) (Pr cmp qa qb) (qa.toList++qb.toList) (qa.toList.take na++qb.toList.take nb)
def tk{l:List Nat}{m:Nat}(h:m<l.length):l.take (m+1)=l.take m++[l[m]]:=F2 h
def Sr.take{l:List Nat}(o:OdA cmp)(s:Sr cmp l){m:Nat}(hm:m<l.length){y:Nat}(hy:y∈l.take (m+1)):cmp l[m] y=false:=by
 obtain⟨i,hi,rfl⟩:=E4 hy
 rw[List.getElem_take]
 have hi:i<m+1:=t7 hi (by rw[A7];lia)
 by_cases e:i=m
 .subst e
  cases e:cmp l[i] l[i] with
  |false=>rfl
  |true=>rw[<-e];exact o.a _ _ e
 .exact s.at ⋯ hm
def zhs(h:MH cmp qa qb na nb f)(h1:1<=na)(h2:na<=qa.size)(h3:1<=nb)(h4:nb<=qb.size)(c:Pr cmp qa qb->cmp qb[nb - 1] qa[na - 1]=true):MH cmp qa qb (na - 1) nb λe=>(f e).push (im qa[na - 1] e):=by
 obtain⟨m,rfl⟩: ∃m,na=m+1:=⟨na - 1,⋯⟩
 obtain⟨n,rfl⟩: ∃n,nb=n+1:=⟨nb - 1,⋯⟩
 erw[P2] at c⊢
 refine Mg.push h ?_ λpr y hy=> ?_
 .rw[tk (l:=qa.toList) h2,m9];exact N7
 .rcases i9.mp hy with hy|hy
  .exact pr.a.take pr.o h2 (by rw[tk (l:=qa.toList) h2];exact i7 _ hy)
  .exact pr.o.t _ _ _ (pr.o.a _ _ (c pr)) (pr.b.take pr.o h4 hy)
def zi9(h:MH cmp qa qb na nb f)(h1:1<=na)(h2:na<=qa.size)(h3:1<=nb)(h4:nb<=qb.size)(c:Pr cmp qa qb->cmp qb[nb - 1] qa[na - 1]=false):MH cmp qa qb na (nb - 1) λe=>(f e).push (im qb[nb - 1] e):=by
 obtain⟨m,rfl⟩: ∃m,na=m+1:=⟨na - 1,⋯⟩
 obtain⟨n,rfl⟩: ∃n,nb=n+1:=⟨nb - 1,⋯⟩
 erw[P2] at c⊢
 refine Mg.push h ?_ λpr y hy=> ?_
 .rw[tk (l:=qb.toList) h4,<-m9];exact L5
 .rcases i9.mp hy with hy|hy
  .exact pr.o.t _ _ _ (c pr) (pr.a.take pr.o h2 hy)
  .exact pr.b.take pr.o h4 (by rw[tk (l:=qb.toList) h4];exact i7 _ hy)
def zfb{q:Array Nat}{a n:Nat}(ha:a<n)(hn:n<=q.size):(q.extract a n).reverse=(q.extract (a+1) n).reverse.push q[a]:=by
 apply Array.toList_inj.mp
 rw[Array.toList_push,Array.toList_reverse,Array.toList_reverse,Array.toList_extract,Array.toList_extract]
 erw[D2]
 rw[dr (l:=q.toList) (by show a<q.size;lia),show n -a=n -(a+1)+1 by lia,F6,A6]
 rfl
theorem zfc(h:MH cmp qa qb na nb f)(h2:na<=qa.size)(h3:1<=nb)(h4:nb<=qb.size): ∀k a,a+k=na->(Pr cmp qa qb->∀t (h:t<qa.size),a<=t->t<na->cmp qb[nb - 1] qa[t]=true)->MH cmp qa qb a nb λe=>f e++((ar qa e).extract a na).reverse
 |0,a,hk,_=>by
  obtain rfl:a=na:=by lia
  have e:(λe=>f e++((ar qa e).extract a a).reverse)=f:=funext λe=>by
   rw[V1,show qa.extract a a= #[] by simp;lia];simp[ar]
  rw[e];exact h
 |k+1,a,hk,c=>by
  have:=zhs (zfc h h2 h3 h4 k (a+1) ⋯ λpr t h h1 h2=>c pr t h ⋯ h2) ⋯ ⋯ h3 h4 λpr=>c pr a ⋯ (i8 _) ⋯
  have e:(λe=>f e++((ar qa e).extract a na).reverse)=λe=>(f e++((ar qa e).extract (a+1) na).reverse).push (im qa[a] e):=funext λe=>by
   rw[V1,z3C,V1,z3C,zfb ⋯ h2,<-z2O,Array.append_push]
  rw[e];exact this
theorem zfd(h:MH cmp qa qb na nb f)(h1:1<=na)(h2:na<=qa.size)(h4:nb<=qb.size): ∀k b,b+k=nb->(Pr cmp qa qb->∀t (h:t<qb.size),b<=t->t<nb->cmp qb[t] qa[na - 1]=false)->MH cmp qa qb na b λe=>f e++((ar qb e).extract b nb).reverse
 |0,b,hk,_=>by
  obtain rfl:b=nb:=by lia
  have e:(λe=>f e++((ar qb e).extract b b).reverse)=f:=funext λe=>by
   rw[V1,show qb.extract b b= #[] by simp;lia];simp[ar]
  rw[e];exact h
 |k+1,b,hk,c=>by
  have:=zi9 (zfd h h1 h2 h4 k (b+1) ⋯ λpr t h h1 h2=>c pr t h ⋯ h2) h1 h2 ⋯ ⋯ λpr=>c pr b ⋯ (i8 _) ⋯
  have e:(λe=>f e++((ar qb e).extract b nb).reverse)=λe=>(f e++((ar qb e).extract (b+1) nb).reverse).push (im qb[b] e):=funext λe=>by
   rw[V1,z3C,V1,z3C,zfb ⋯ h4,<-z2O,Array.append_push]
  rw[e];exact this
def z54{q:Array Nat}{i:Nat}:(q.extract 0 i).toList=q.toList.take i:=by
 rw[Array.toList_extract,D2];rfl
def zjr{r:Array Nat}{g:En->Array Keyed}(h:MH cmp qa qb na nb f)(e:r.toList.Perm (qa.toList.take na++qb.toList.take nb))(s:Pr cmp qa qb->Sr cmp r.toList)(hg: ∀q,f=ar q->g=ar (r++q.reverse)):MF cmp qa qb g:=by
 obtain⟨q,rfl,h1,h2⟩:=h
 refine⟨r++q.reverse,hg q rfl, ?_,λpr=>⟨?_,λ_ _ y hy=>by cases hy⟩⟩
 .rw[Array.toList_append,l4,Array.toList_reverse]
  exact(L5.trans ((List.reverse_perm _).append e)).trans h1
 .rw[Array.toList_append,Array.toList_reverse]
  exact C4.mpr ⟨s pr,List.pairwise_reverse.mpr (h2 pr).1,λa ha b hb=>(h2 pr).2 b (u09.mp hb) a (e.mem_iff.mp ha)⟩
def zee(h:MH cmp qa qb na nb f)(c:na=0\/nb=0):MF cmp qa qb λe=>(ar qa e).extract 0 na++(ar qb e).extract 0 nb++(f e).reverse:=by
 refine zjr (r:=qa.extract 0 na++qb.extract 0 nb) h (by rw[Array.toList_append,z54,z54]) (λpr=> ?_) λq e=>by subst e;funext e;rw[V1,V1,z2d,z3C,z2d]
 rw[Array.toList_append,z54,z54]
 rcases c with rfl|rfl
 .exact pr.b.sublist (L6 _ _)
 .rw[u0k,l4];exact pr.a.sublist (L6 _ _)
def zht(h:MH cmp qa qb na nb f)(c:nb=1)(h4:nb<=qb.size):MF cmp qa qb λe=>(ar qb e).extract 0 nb++(ar qa e).extract 0 na++(f e).reverse:=by
 subst c
 refine zjr (r:=qb.extract 0 1++qa.extract 0 na) h (by rw[Array.toList_append,z54,z54];exact L5) (λpr=> ?_) λq e=>by subst e;funext e;rw[V1,V1,z2d,z3C,z2d]
 rw[Array.toList_append,z54,z54]
 refine C4.mpr ⟨pr.b.sublist (L6 _ _),pr.a.sublist (L6 _ _),λy hy x hx=> ?_⟩
 have h1:=pr.f x (L9 hx)
 rw[tk (l:=qb.toList) (m:=0) h4,u0k,A4] at hy
 rw[m4.mp hy]
 rwa [z2p h4] at h1
def zjW(ha:0<qa.size):MH cmp qa qb (qa.size - 1) qb.size λe=> #[im qa[qa.size - 1] e]:=by
 obtain⟨m,hm⟩: ∃m,qa.size=m+1:=⟨qa.size - 1,⋯⟩
 have e:qa.toList=qa.toList.take (qa.size - 1)++[qa[qa.size - 1]]:=by
  have:=tk (l:=qa.toList) (m:=qa.size - 1) (by show qa.size - 1<qa.size;lia)
  rw[show qa.size - 1+1=qa.toList.length by show _=qa.size;lia,E5] at this
  exact this
 refine⟨#[qa[qa.size - 1]],funext λe=>zbs, ?_,λpr=>⟨N0 _ _,λx hx y hy=> ?_⟩⟩
 .show(qa[qa.size - 1]::(qa.toList.take (qa.size - 1)++qb.toList.take qb.toList.length)).Perm _
  rw[E5]
  conv=>rhs;rw[e,m9]
  exact N7.symm
 .have hx:x=qa[qa.size - 1]:=by simpa using hx
  subst hx
  rcases i9.mp hy with hy|hy
  .exact pr.a.take pr.o (m:=qa.size - 1) (by show qa.size - 1<qa.size;lia) (by rw[tk (l:=qa.toList) (by show qa.size - 1<qa.size;lia)];exact i7 _ hy)
  .have:=pr.l y (L9 hy)
   rwa [z2p ⋯] at this
def zia(o:OdA cmp){r:Array Nat}(s:Sr cmp r.toList){x n k:Nat}(hn:n<=r.size)(h:Gk (λi=>tst cmp false x r (0+i)) n k):(∀t (ht:t<r.size),t<k->t<n->cmp x r[t]=false)/\∀t (ht:t<r.size),k<=t->t<n->cmp x r[t]=true:=by
 simpa only[I0] using zi6 (base:=0) o (s.ss o ⋯) h
def zib(o:OdA cmp){r:Array Nat}(s:Sr cmp r.toList){x n k:Nat}(hn:n<=r.size)(h:Gk (λi=>tst cmp true x r (0+i)) n k):(∀t (ht:t<r.size),t<k->t<n->cmp r[t] x=true)/\∀t (ht:t<r.size),k<=t->t<n->cmp r[t] x=false:=by
 simpa only[I0] using zi7 (base:=0) o (s.ss o ⋯) h
end
def zic{qa qb:Array Nat}{P:(En->Array Keyed)->(En->SortSt)->Prop}(a1:1<=qa.size)(b1:1<=qb.size)(h: ∀mq g',MF cmp qa qb mq->P mq (sst q p g')):
 Det cmp (λe=>mhi (ar qa e) (ar qb e)) (sst q p g) P:=by
 have m0:=zjW (cmp:=cmp) (qa:=qa) (qb:=qb) a1
 refine z2P ?_
 erw[z2N]
 refine J2 ⋯ ?_
 refine W8 (λc=>V0 (h _ _ ?_)) λc1=>W8 (λc=>V0 (h _ _ ?_)) λc2=> ?_
 .erw[beq_iff_eq] at c
  exact zee m0 (.inl c)
 .erw[beq_iff_eq] at c
  exact zht m0 c (i8 _)
 erw[beq_iff_eq] at c1 c2
 refine z3D ?_
 try dsimp only
 refine z3E (Q:=λv st'=>Rt (MF cmp qa qb) q p v st') (I:=λk v st'=> ∃(na nb:Nat) (out:En->Array Keyed) (mg g':Nat),v=(λe=>(none,na,nb,out e,mg))/\st'=sst q p g'/\MH cmp qa qb na nb out/\1<=na/\na<=qa.size/\2<=nb/\nb<=qb.size/\na+nb+1<=k) ⟨qa.size - 1,qb.size,_,g,g,rfl,rfl,m0,⋯,⋯,⋯,⋯,⋯⟩ ?_ ?_ ?_
 .rintro _ k b st ⟨na,nb,out,mg,g',rfl,rfl,ho,na1,na2,nb1,nb2,hk⟩
  try dsimp only
  refine z3E (Q:=λv st'=>Rt (MF cmp qa qb) q p v st'\/∃(ja jb:Nat) (out:En->Array Keyed) (ac bc:Nat),v=(λe=>(none,ja,jb,out e,ac,bc))/\st'=sst q p g'/\MH cmp qa qb ja jb out/\1<=ja/\ja<=qa.size/\2<=jb/\jb<=qb.size/\ja+jb+1<=na+nb) (I:=λk v st'=> ∃(ja jb:Nat) (out:En->Array Keyed) (ac bc:Nat),v=(λe=>(none,ja,jb,out e,ac,bc))/\st'=sst q p g'/\MH cmp qa qb ja jb out/\1<=ja/\ja<=qa.size/\2<=jb/\jb<=qb.size/\ja+jb+(qa.size+qb.size)<=na+nb+k/\k<=qa.size+qb.size) ⟨na,nb,out,0,0,rfl,rfl,ho,na1,na2,nb1,nb2,⋯,⋯⟩ ?_ ?_ ?_
  .rintro _ k b st ⟨ja,jb,out,ac,bc,rfl,rfl,ho,ja1,ja2,jb1,jb2,hp,hk2⟩
   try dsimp only
   refine J2 ⋯ (J2 ⋯ (zf3 ?_))
   try dsimp only
   cases ce:cmp qb[jb - 1] qa[ja - 1] with
   |true=>
    have ho2:=zhs ho ja1 ja2 ⋯ jb2 λ_=>ce
    refine J2 ⋯ ?_
    try dsimp only
    refine W8 (λc=>W6 (.inl ⟨_,_,_,rfl,zee ho2 (.inl (by erw[beq_iff_eq] at c;exact c)),rfl⟩)) λc=> ?_
    erw[beq_iff_eq] at c
    refine W8 (λ_=>W6 (.inr ⟨_,_,_,_,_,rfl,rfl,ho2,⋯,⋯,⋯,⋯,⋯⟩)) λ_=>Q8 ⟨_,_,_,_,_,rfl,rfl,ho2,⋯,⋯,⋯,⋯,⋯,⋯⟩
   |false=>
    have ho2:=zi9 ho ja1 ja2 ⋯ jb2 λ_=>ce
    refine J2 ⋯ ?_
    try dsimp only
    refine W8 (λc=>W6 (.inl ⟨_,_,_,rfl,zht ho2 (by erw[beq_iff_eq] at c;exact c) ⋯,rfl⟩)) λc=> ?_
    erw[beq_iff_eq] at c
    refine W8 (λ_=>W6 (.inr ⟨_,_,_,_,_,rfl,rfl,ho2,⋯,⋯,⋯,⋯,⋯⟩)) λ_=>Q8 ⟨_,_,_,_,_,rfl,rfl,ho2,⋯,⋯,⋯,⋯,⋯,⋯⟩
  .rintro b st ⟨ja,jb,out,ac,bc,rfl,rfl,ho,ja1,ja2,jb1,jb2,hp,hk2⟩
   exact .inr ⟨_,_,_,_,_,rfl,rfl,ho,ja1,ja2,jb1,jb2,⋯⟩
  .rintro v st (⟨mq,b,g2,rfl,hm,rfl⟩|⟨ja,jb,out,ac,bc,rfl,rfl,ho,ja1,ja2,jb1,jb2,hp⟩)
   .exact W6 ⟨_,_,_,rfl,hm,rfl⟩
   try dsimp only
   refine z2P ?_
   refine z3E (Q:=λv st'=>Rt (MF cmp qa qb) q p v st'\/∃(ka kb:Nat) (out:En->Array Keyed) (mg ac bc g':Nat),v=(λe=>(none,ka,kb,out e,mg,ac,bc))/\st'=sst q p g'/\MH cmp qa qb ka kb out/\1<=ka/\ka<=qa.size/\2<=kb/\kb<=qb.size/\ka+kb<=ja+jb) (I:=λk v st'=> ∃(ka kb:Nat) (out:En->Array Keyed) (mg ac bc g':Nat),v=(λe=>(none,ka,kb,out e,mg,ac,bc))/\st'=sst q p g'/\MH cmp qa qb ka kb out/\1<=ka/\ka<=qa.size/\2<=kb/\kb<=qb.size/\ka+kb<=ja+jb) ⟨ja,jb,out,_,ac,bc,_,rfl,rfl,ho,ja1,ja2,jb1,jb2,⋯⟩ ?_ (λb st h=> .inr h) ?_
   .rintro _ k b st ⟨ka,kb,out,mg,ac,bc,g2,rfl,rfl,ho,ka1,ka2,kb1,kb2,hp2⟩
    try dsimp only
    try erw[z2N]
    apply zf1
    .intro key
     refine W8 (c:=mg>1) (λ_=> ?_) (λ_=> ?_)
     rotate_left
     .generalize mg=z
      exact key z
     .exact key _
    .intro mm
     try dsimp only
     refine z43 (J2 ⋯ (z1D ⋯ ⋯ λk hk gk=> ?_))
     try dsimp only
     have gk:Pr cmp qa qb->_:=λpr=>zia pr.o pr.a ⋯ gk
     have hoe:=zfc ho ka2 ⋯ kb2 (ka -k) k ⋯ λpr t h h1 h2=>(gk pr).2 t h h1 h2
     obtain⟨W,hW⟩: ∃W,ka -k=W:=⟨_,rfl⟩
     erw[hW]
     obtain⟨KA,hKA⟩: ∃KA,KA=ka:=⟨_,rfl⟩
     apply zbt (λa o=>MH cmp qa qb a kb o/\1<=a/\a<=KA/\(Pr cmp qa qb->∀h:a - 1<qa.size,cmp qb[kb - 1] qa[a - 1]=false))
     .intro key
      refine W8 (λk0=>W8 (λc=>W6 (.inl ⟨_,_,_,rfl,zee hoe (.inl (by erw[beq_iff_eq] at c;exact c)),rfl⟩)) λc1=> ?_) (λk0=> ?_)
      rotate_left
      .have r:MH cmp qa qb ka kb out/\1<=ka/\ka<=KA/\(Pr cmp qa qb->∀h:ka - 1<qa.size,cmp qb[kb - 1] qa[ka - 1]=false):=⟨ho,ka1,⋯,λpr h=>(gk pr).1 _ h ⋯ ⋯⟩
       revert r
       generalize out=z2
       generalize ka=z1
       intro r
       exact key z1 z2 r
      .erw[beq_iff_eq] at c1
       exact key _ _ ⟨hoe,⋯,⋯,λpr h=>(gk pr).1 _ h ⋯ ⋯⟩
     .clear hoe gk
      intro ka0 out0 r0
      obtain⟨ho0,ka01,ka02,lt0⟩:=r0
      try dsimp only
      have ho1:=zi9 ho0 ka01 ⋯ ⋯ kb2 λpr=>lt0 pr ⋯
      refine J2 ⋯ ?_
      try dsimp only
      refine W8 (λc=>W6 (.inl ⟨_,_,_,rfl,zht ho1 (by erw[beq_iff_eq] at c;exact c) ⋯,rfl⟩)) λc3=> ?_
      erw[beq_iff_eq] at c3
      refine J2 ⋯ (z1D ⋯ ⋯ λk' hk' gk=> ?_)
      try dsimp only
      have gk:Pr cmp qa qb->_:=λpr=>zib pr.o pr.b ⋯ gk
      have hoe:=zfd ho1 ka01 ⋯ ⋯ (kb - 1 -k') k' ⋯ λpr t h h1 h2=>(gk pr).2 t h h1 h2
      refine W8 (λk1=>W8 (λc=>W6 (.inl ⟨_,_,_,rfl,zht hoe (by erw[beq_iff_eq] at c;exact c) ⋯,rfl⟩)) λc4=>W8 (λc=>W6 (.inl ⟨_,_,_,rfl,zee hoe (.inr (by erw[beq_iff_eq] at c;exact c)),rfl⟩)) λc6=> ?_) (λk1=> ?_)
      .erw[beq_iff_eq] at c4 c6
       have ho2:=zhs hoe ka01 ⋯ ⋯ ⋯ λpr=>(gk pr).1 _ ⋯ ⋯ ⋯
       refine J2 ⋯ ?_
       try dsimp only
       refine W8 (λc=>W6 (.inl ⟨_,_,_,rfl,zee ho2 (.inl (by erw[beq_iff_eq] at c;exact c)),rfl⟩)) λc5=> ?_
       erw[beq_iff_eq] at c5
       erw[A3,decide_eq_true_eq]
       exact z6z ⟨_,_,_,_,_,_,_,rfl,rfl,ho2,⋯,⋯,⋯,⋯,⋯⟩
      .have ho2:=zhs ho1 ka01 ⋯ ⋯ ⋯ λpr=>(gk pr).1 _ ⋯ ⋯ ⋯
       refine J2 ⋯ ?_
       try dsimp only
       refine W8 (λc=>W6 (.inl ⟨_,_,_,rfl,zee ho2 (.inl (by erw[beq_iff_eq] at c;exact c)),rfl⟩)) λc5=> ?_
       erw[beq_iff_eq] at c5
       erw[A3,decide_eq_true_eq]
       exact z6z ⟨_,_,_,_,_,_,_,rfl,rfl,ho2,⋯,⋯,⋯,⋯,⋯⟩
   .rintro v st (⟨mq,b,g2,rfl,hm,rfl⟩|⟨ka,kb,out,mg,ac,bc,g2,rfl,rfl,ho,ka1,ka2,kb1,kb2,hp2⟩)
    .exact W6 ⟨_,_,_,rfl,hm,rfl⟩
    .try dsimp only
     exact z43 (Q8 ⟨_,_,_,_,_,rfl,rfl,ho,ka1,ka2,kb1,kb2,⋯⟩)
 .rintro b st ⟨na,nb,out,mg,g',rfl,rfl,ho,na1,na2,nb1,nb2,hk⟩
  lia
 .rintro v st ⟨mq,b,g',rfl,hm,rfl⟩
  exact V0 (h _ _ hm)
variable{cmp:Nat->Nat->Bool}{α β:Type}{q q' q0:Array Nat}{p:Array (Nat×Nat×Nat)}{g lo m z n nrem:Nat}{st:En->SortSt}
structure Fr(a b:Nat)(q q':Array Nat):Prop where
 pm:q'.Perm q
 out: ∀i,i<a\/b<=i->q'.getD i 0=q.getD i 0
def Fr.rfl{a b:Nat}:Fr a b q q:=⟨Array.Perm.refl _,λ_ _=>Eq.refl _⟩
def Fr.trans{a b:Nat}(h:Fr a b q0 q)(h':Fr a b q q'):Fr a b q0 q':=⟨h'.pm.trans h.pm,λi hi=>(h'.out i hi).trans (h.out i hi)⟩
def Fr.size{a b:Nat}(h:Fr a b q q'):q'.size=q.size:=h.pm.size_eq
def gq{q:Array Nat}{i:Nat}:q.getD i 0=(q[i]?).getD 0:=by simp[Array.getD_eq_getD_getElem?]
noncomputable def rv(q:Array Nat)(i j:Nat):Array Nat:=dv q i j ((j -i)/2)
def zaa{i j k:Nat}(hj:j<=q.size):(rv q i j).getD k 0=if i<=k/\k<j then q.getD (i+j - 1 -k) 0 else q.getD k 0:=by
 rw[gq,rv,getElem?_mirror_all hj]
 split<;>exact gq.symm
def z5M{a b i j:Nat}(hj:j<=q.size)(ha:a<=i)(hb:j<=b):Fr a b q (rv q i j):=⟨mirror_perm _ _ _ _,λk hk=>by rw[zaa hj,qy ⋯]⟩
def zfe{i j:Nat}{P:(En->Unit)->(En->SortSt)->Prop}(h:P (λ_=>()) (sst (rv q i j) p g)):Det cmp (λ_=>reverseSlice' i j) (sst q p g) P:=zi4 h
noncomputable def DS(cmp:Nat->Nat->Bool)(q:Array Nat)(lo m:Nat):Prop:= ∀i j,i<=j->j<m->cmp (q.getD (lo+i) 0) (q.getD (lo+j) 0)=false
noncomputable def ET(cmp:Nat->Nat->Bool)(q:Array Nat)(lo m z:Nat):Prop:= ∀i,m -(z+1)<=i->i<m->cmp (q.getD (lo+i) 0) (q.getD (lo+(m - 1)) 0)=false/\cmp (q.getD (lo+(m - 1)) 0) (q.getD (lo+i) 0)=false
def SS.up(o:OdA cmp)(h:SS cmp q lo m)(h1:1<=m)(e:cmp (q.getD (lo+m) 0) (q.getD (lo+m - 1) 0)=false):SS cmp q lo (m+1):=by
 intro i j hij hj
 by_cases hjm:j<m
 .exact h i j hij hjm
 .obtain rfl:j=m:=by lia
  by_cases hi:i=j
  .subst hi;exact o.r _
  .rw[show lo+j - 1=lo+(j - 1) by lia] at e
   exact o.t _ _ _ e (h i (j - 1) ⋯ ⋯)
def DS.up(o:OdA cmp)(h:DS cmp q lo m)(h1:1<=m)(e:cmp (q.getD (lo+(m - 1)) 0) (q.getD (lo+m) 0)=false):DS cmp q lo (m+1):=by
 intro i j hij hj
 by_cases hjm:j<m
 .exact h i j hij hjm
 .obtain rfl:j=m:=by lia
  by_cases hi:i=j
  .subst hi;exact o.r _
  .exact o.t _ _ _ (h i (j - 1) ⋯ ⋯) e
def SS.one(o:OdA cmp):SS cmp q lo 1:=λi j hi hj=>by
 obtain rfl:j=0:=by lia
 obtain rfl:i=0:=by lia
 exact o.r _
def ET.one(o:OdA cmp):ET cmp q lo (m+1) 0:=λi hi hj=>by
 obtain rfl:i=m:=by lia
 exact⟨o.r _,o.r _⟩
def DS.eqrev(o:OdA cmp)(hl:lo+m<=q.size)(h:DS cmp q lo m)(he:ET cmp q lo m z)(hq:z+1<=m):DS cmp (rv q (lo+m -(z+1)) (lo+m)) lo m/\∀i,i<m->cmp ((rv q (lo+m -(z+1)) (lo+m)).getD (lo+i) 0) (q.getD (lo+(m - 1)) 0)=false:=by
 have ix: ∀i,lo+m -(z+1)<=lo+i->i<m->lo+m -(z+1)+(lo+m) - 1 -(lo+i)=lo+(m -(z+1)+m - 1 -i):=λi h1 h2=>by lia
 refine⟨λi j hij hj=> ?_,λi hi=> ?_⟩
 .rw[zaa hl,zaa hl]
  by_cases hi:lo+m -(z+1)<=lo+i/\lo+i<lo+m
  .rw[qw hi,qw ⋯,ix i hi.1 ⋯,ix j ⋯ hj]
   exact o.t _ _ _ (he _ ⋯ ⋯).1 (he _ ⋯ ⋯).2
  .rw[qy hi]
   split
   .rw[ix j ⋯ hj];exact h _ _ ⋯ ⋯
   .exact h _ _ hij hj
 .rw[zaa hl]
  split
  .rw[ix i ⋯ hi];exact(he _ ⋯ ⋯).1
  .exact h _ _ ⋯ ⋯
def DS.rev(hl:lo+m<=q.size)(h:DS cmp q lo m):SS cmp (rv q lo (lo+m)) lo m:=λi j hij hj=>by
 rw[zaa hl,zaa hl,qw ⋯,qw ⋯,show lo+(lo+m) - 1 -(lo+i)=lo+(m - 1 -i) by lia,show lo+(lo+m) - 1 -(lo+j)=lo+(m - 1 -j) by lia]
 exact h _ _ ⋯ ⋯
def gz{i:Nat}(h:i<q.size):q[i]=q.getD i 0:=(z2p h).symm
def zcH{P:(En->Option Nat)->(En->SortSt)->Prop}{f:Nat->Option (Option Nat)×Nat->StateT SortSt cN (ForInStep (Option (Option Nat)×Nat))}{k:Option (Option Nat)×Nat->StateT SortSt cN (Option Nat)}(hf: ∀x m,f x (none,m)=ltAt' (lo+m) (lo+m - 1)>>=λo=>match o with|some b=>if b=true then pure (.done (none,m)) else pure (.yield (none,m+1))|_=>pure (.done (some none,m)))(hn:q.size=n)(hl:lo+nrem<=n)(m1:1<=m)(m2:m<=nrem)(s:OdA cmp->SS cmp q lo m)
 (h: ∀m,1<=m->m<=nrem->(OdA cmp->SS cmp q lo m)->(m<nrem->cmp (q.getD (lo+m) 0) (q.getD (lo+m - 1) 0)=true)->Det cmp (λ_=>k (none,m)) (sst q p g) P):
 Det cmp (λ_=>forIn [m:nrem] ((none,m):Option (Option Nat)×Nat) f>>=k) (sst q p g) P:=by
 refine Y0 (z0R (P:=λv st'=> ∃m:Nat,v=(λ_=>(none,m))/\st'=sst q p g/\1<=m/\m<=nrem/\(OdA cmp->SS cmp q lo m)/\(m<nrem->cmp (q.getD (lo+m) 0) (q.getD (lo+m - 1) 0)=true)) (z2M (I:=λk v st'=> ∃m:Nat,v=(λ_=>(none,m))/\st'=sst q p g/\1<=m/\m+k=nrem/\(OdA cmp->SS cmp q lo m)) ⟨m,rfl,rfl,m1,⋯,s⟩ ?_ ?_) ?_)
 .rintro _ k b st ⟨m,rfl,rfl,m1,hm,s⟩
  erw[hf]
  refine Y0 (z51 ⋯ ⋯ ?_)
  try dsimp only
  rw[gz ⋯,gz ⋯]
  cases e:cmp (q.getD (lo+m) 0) (q.getD (lo+m - 1) 0) with
  |true=>exact W6 ⟨m,rfl,rfl,m1,⋯,s,λ_=>e⟩
  |false=>exact Q8 ⟨m+1,rfl,rfl,⋯,⋯,λo=>(s o).up o m1 e⟩
 .rintro b st ⟨m,rfl,rfl,m1,hm,s⟩
  exact⟨m,rfl,rfl,m1,⋯,s,λh=>absurd h ⋯⟩
 .rintro v st ⟨m,rfl,rfl,m1,m2,s,e⟩
  exact h m m1 m2 s e
def zid{P:(En->Option Nat)->(En->SortSt)->Prop}(hs:q.size=n)(hl:lo+nrem<=n)(h1:1<=nrem)(h: ∀k q',1<=k->k<=nrem->Fr lo (lo+nrem) q q'->(OdA cmp->SS cmp q' lo k)->P (λ_=>some k) (sst q' p g)):
 Det cmp (λ_=>countRun' lo nrem) (sst q p g) P:=by
 refine zcH (λ_ _=>rfl) hs hl (i8 _) h1 (λo=>SS.one o) λm m1 m2 s e=> ?_
 try dsimp only
 refine W8 (λ_=>V0 (h m q m1 m2 .rfl s)) λc1=> ?_
 erw[beq_iff_eq] at c1
 have m3:m<nrem:=by lia
 have e:=e m3
 apply zbr (λa q'=>a=m/\Fr lo (lo+nrem) q q'/\(OdA cmp->DS cmp q' lo (m+1)))
 .intro key
  refine W8 (λc2=> ?_) λc2=> ?_
  .refine Y0 (z51 ⋯ ⋯ ?_)
   try dsimp only
   rw[gz ⋯,gz ⋯]
   refine W8 (λ_=>V0 (h m q m1 ⋯ .rfl s)) λc3=> ?_
   refine Y0 (zfe ?_)
   have r:m=m/\Fr lo (lo+nrem) q (rv q lo (lo+m))/\(OdA cmp->DS cmp (rv q lo (lo+m)) lo (m+1)):=⟨rfl,z5M ⋯ (i8 _) ⋯,λo=> ?_⟩
   .revert r
    generalize rv q lo (lo+m)=z2
    intro r
    revert r
    generalize hz:m=z1
    intro r
    exact key z1 z2 (by rw[<-hz] at r⊢;exact r)
   .have c3:cmp (q.getD lo 0) (q.getD (lo+m - 1) 0)=false:=by simpa using c3
    have s:=s o
    have all: ∀i j,i<m->j<m->cmp (q.getD (lo+i) 0) (q.getD (lo+j) 0)=false:=λi j hi hj=>by
     have q1:=s 0 i (B7 _) hi
     have q2:=s j (m - 1) ⋯ ⋯
     rw[show lo+(m - 1)=lo+m - 1 by lia] at q2
     exact o.t _ _ _ q1 (o.t _ _ _ c3 q2)
    have al: ∀i,i<m->(rv q lo (lo+m)).getD (lo+i) 0=q.getD (lo+(m - 1 -i)) 0:=λi hi=>by rw[zaa ⋯,qw ⋯];congr 1;lia
    refine DS.up o (λi j hij hj=> ?_) m1 ?_
    .rw[al i ⋯,al j hj];exact all _ _ ⋯ ⋯
    .rw[al (m - 1) ⋯,zaa ⋯,qy ⋯]
     refine o.t _ (q.getD (lo+(m - 1)) 0) _ (all _ _ ⋯ ⋯) (o.a _ _ ?_)
     rw[show lo+(m - 1)=lo+m - 1 by lia];exact e
  .have r:m=m/\Fr lo (lo+nrem) q q/\(OdA cmp->DS cmp q lo (m+1)):=⟨rfl, .rfl,λo=> ?_⟩
   .revert r
    generalize hq:q=z2
    generalize hz:m=z1
    intro r
    exact key z1 z2 (by rw[<-hz,<-hq] at r⊢;exact r)
   .obtain rfl:m=1:=by lia
    refine DS.up o (λi j hij hj=> ?_) m1 (o.a _ _ e)
    obtain rfl:j=0:=by lia
    obtain rfl:i=0:=by lia
    exact o.r _
 .intro a q' r
  obtain⟨rfl,fr,ds⟩:=r
  have hs':q'.size=n:=fr.size.trans hs
  refine Y0 (zbp ?_)
  refine Y0 (z0R (P:=λv st'=> ∃(m z:Nat) (q':Array Nat),v=(λ_=>(none,m,z))/\st'=sst q' p g/\1<=m/\m<=nrem/\z+1<=m/\Fr lo (lo+nrem) q q'/\(OdA cmp->DS cmp q' lo m/\ET cmp q' lo m z)) (z2M (I:=λk v st'=> ∃(m z:Nat) (q':Array Nat),v=(λ_=>(none,m,z))/\st'=sst q' p g/\1<=m/\m+k=nrem/\z+1<=m/\Fr lo (lo+nrem) q q'/\(OdA cmp->DS cmp q' lo m/\ET cmp q' lo m z)) ⟨a+1,0,q',rfl,rfl,⋯,⋯,⋯,fr,λo=>⟨ds o,ET.one o⟩⟩ ?_ ?_) ?_)
  .rintro _ k b st ⟨m,z,q',rfl,rfl,m1,hm,hz,fr,ds⟩
   have hs':q'.size=n:=fr.size.trans hs
   try dsimp only
   refine Y0 (z51 ⋯ ⋯ ?_)
   try dsimp only
   rw[gz ⋯,gz ⋯]
   cases e:cmp (q'.getD (lo+m) 0) (q'.getD (lo+m - 1) 0) with
   |true=>
    refine W8 (λ_=> ?_) λc=>absurd rfl c
    refine W8 (λ_=>Y0 (zfe (Q8 ⟨m+1,0,_,rfl,rfl,⋯,⋯,⋯,fr.trans (z5M ⋯ ⋯ ⋯),λo=> ?_⟩))) λ_=>Q8 ⟨m+1,0,_,rfl,rfl,⋯,⋯,⋯,fr,λo=> ?_⟩
    .obtain⟨d1,d2⟩:=(ds o).1.eqrev o ⋯ (ds o).2 hz
     refine⟨d1.up o m1 ?_,ET.one o⟩
     have e2:(rv q' (lo+m -(z+1)) (lo+m)).getD (lo+m) 0=q'.getD (lo+m) 0:=by rw[zaa ⋯,qy ⋯]
     rw[e2]
     rw[show lo+m - 1=lo+(m - 1) by lia] at e
     exact o.t _ _ _ (d2 (m - 1) ⋯) (o.a _ _ e)
    .rw[show lo+m - 1=lo+(m - 1) by lia] at e
     exact⟨(ds o).1.up o m1 (o.a _ _ e),ET.one o⟩
   |false=>
    refine W8 (λc=>by cases c) λ_=> ?_
    refine Y0 (z51 ⋯ ⋯ ?_)
    try dsimp only
    rw[gz ⋯,gz ⋯]
    cases e':cmp (q'.getD (lo+m - 1) 0) (q'.getD (lo+m) 0) with
    |true=>exact W8 (λ_=>W6 ⟨m,z,_,rfl,rfl,m1,⋯,hz,fr,ds⟩) λc=>absurd rfl c
    |false=>
     refine W8 (λc=>by cases c) λ_=>Q8 ⟨m+1,z+1,_,rfl,rfl,⋯,⋯,⋯,fr,λo=> ?_⟩
     rw[show lo+m - 1=lo+(m - 1) by lia] at e e'
     refine⟨(ds o).1.up o m1 e',λi hi hi'=> ?_⟩
     rw[P2]
     by_cases him:i=m
     .subst him;exact⟨o.r _,o.r _⟩
     .obtain⟨t1,t2⟩:=(ds o).2 i ⋯ ⋯
      exact⟨o.t _ _ _ t1 e',o.t _ _ _ e t2⟩
  .rintro b st ⟨m,z,q',rfl,rfl,m1,hm,hz,fr,ds⟩
   exact⟨m,z,q',rfl,rfl,m1,⋯,hz,fr,ds⟩
  .rintro v st ⟨m,z,q',rfl,rfl,m1,m2,hz,fr,ds⟩
   have hs':q'.size=n:=fr.size.trans hs
   try dsimp only
   refine W8 (λ_=>Y0 (zfe ?_)) λ_=> ?_
   .have f2:=z5M (q:=q') (a:=lo) (b:=lo+nrem) (i:=lo+m -(z+1)) (j:=lo+m) ⋯ ⋯ ⋯
    have d2:OdA cmp->_:=λo=>((ds o).1.eqrev o ⋯ (ds o).2 hz).1
    generalize rv q' (lo+m -(z+1)) (lo+m)=q2 at f2 d2⊢
    have hs2:q2.size=n:=f2.size.trans hs'
    refine Y0 (zfe ?_)
    exact zcH (λ_ _=>rfl) ((z5M (a:=lo) (b:=lo+nrem) (i:=lo) (j:=lo+m) ⋯ (i8 _) ⋯).size.trans hs2) hl m1 m2 (λo=>(d2 o).rev ⋯) λk k1 k2 s _=>V0 (h k _ k1 k2 (fr.trans (f2.trans (z5M ⋯ (i8 _) ⋯))) s)
   .refine Y0 (zfe ?_)
    exact zcH (λ_ _=>rfl) ((z5M (a:=lo) (b:=lo+nrem) (i:=lo) (j:=lo+m) ⋯ (i8 _) ⋯).size.trans hs') hl m1 m2 (λo=>(ds o).1.rev ⋯) λk k1 k2 s _=>V0 (h k _ k1 k2 (fr.trans (z5M ⋯ (i8 _) ⋯)) s)
end So
set_option linter.unusedVariables false
namespace So
open PySem PySem.W PyProof.Rows
variable{cmp:Nat->Nat->Bool}{α β:Type}{q q' q0:Array Nat}{p:Array (Nat×Nat×Nat)}{g lo m n N:Nat}{st:En->SortSt}
theorem zbu{f:En->Nat->β->StateT SortSt cN (ForInStep β)}{I:Nat->(En->β)->(En->SortSt)->Prop}{Q:(En->β)->(En->SortSt)->Prop}{hi:Nat}(hb: ∀(x:Nat) (b:En->β) (st:En->SortSt),x<hi->I x b st->Det cmp (λe=>f e x (b e)) st λv st'=>(∃c,v=(λe=> .done (c e))/\Q c st')\/∃c,v=(λe=> .yield (c e))/\I (x+1) c st')(hf: ∀x b st,hi<=x->I x b st->Q b st):
 ∀(n lo:Nat) (b:En->β) (st:En->SortSt),lo+n=hi->I lo b st->Det cmp (λe=>forIn (u0o lo n) (b e) (f e)) st Q
 |0,lo,b,st,hl,h=>⟨b,st,hf lo b st ⋯ h,λ_ _ _ _ _ _ _ s _ hg hq=>kasC_nil (hq s hg)⟩
 |n+1,lo,b,st,hl,h=>by
  obtain⟨v,st1,hp,h1⟩:=hb lo b st ⋯ h
  rcases hp with⟨c,rfl,hp⟩|⟨c,rfl,hp⟩
  .exact⟨c,st1,hp,λprog w A E e G Q s hc hg hq=>dP (h1 prog w A E e G _ s hc hg λs' hg'=>hq s' hg')⟩
  .obtain⟨c2,st2,hp2,h2⟩:=zbu hb hf n (lo+1) c st1 ⋯ hp
   exact⟨c2,st2,hp2,λprog w A E e G Q s hc hg hq=>dP (h1 prog w A E e G _ s hc hg λs' hg'=>h2 prog w A E e G Q s' hc hg' hq)⟩
def zff{lo hi:Nat}{f:En->Nat->β->StateT SortSt cN (ForInStep β)}{b:En->β}(I:Nat->(En->β)->(En->SortSt)->Prop){Q:(En->β)->(En->SortSt)->Prop}(h0:I lo b st)(hb: ∀(x:Nat) (b:En->β) (st:En->SortSt),x<hi->I x b st->Det cmp (λe=>f e x (b e)) st λv st'=>(∃c,v=(λe=> .done (c e))/\Q c st')\/∃c,v=(λe=> .yield (c e))/\I (x+1) c st')(hf: ∀x b st,hi<=x->I x b st->Q b st):
 Det cmp (λe=>forIn [lo:hi] (b e) (f e)) st Q:=by
 by_cases hl:lo<=hi
 .obtain⟨v,st',hp,h⟩:=zbu (cmp:=cmp) (f:=f) (I:=I) (Q:=Q) hb hf (hi -lo) lo b st ⋯ h0
  exact⟨v,st',hp,λprog w A E e G Q s hc hg hq=>fj (h prog w A E e G Q s hc hg hq)⟩
 .refine⟨b,st,hf lo b st ⋯ h0,λprog w A E e G Q s hc hg hq=>fj ?_⟩
  rw[show hi -lo=0 by lia]
  exact kasC_nil (hq s hg)
def zbv{s d k:Nat}(hs:s<q.size)(hd:d<=s):(cE q s d).getD k 0=if k=s -d then q.getD s 0 else if s -d<k/\k<=s then q.getD (k - 1) 0 else q.getD k 0:=by
 rw[gq,getElem?_bubble hs d hd]
 by_cases h1:k=s -d
 .rw[qw h1,qw h1,gq]
 .rw[qy h1,qy h1]
  split<;>exact gq.symm
def zfg{a b s d:Nat}(hs:s<q.size)(hd:d<=s)(ha:a<=s -d)(hb:s<b):Fr a b q (cE q s d):=⟨bubble_perm _ _ _,λk hk=>by rw[zbv hs hd,qy ⋯,qy ⋯]⟩
def SS.put{k x:Nat}(o:OdA cmp)(hs:lo+k<q.size)(hx:x<=k)(s:SS cmp q lo k)(c1: ∀i,i<x->cmp (q.getD (lo+k) 0) (q.getD (lo+i) 0)=false)(c2: ∀i,x<=i->i<k->cmp (q.getD (lo+i) 0) (q.getD (lo+k) 0)=false):SS cmp (cE q (lo+k) (k -x)) lo (k+1):=by
 have g: ∀i,(cE q (lo+k) (k -x)).getD (lo+i) 0=if i=x then q.getD (lo+k) 0 else if x<i/\i<=k then q.getD (lo+(i - 1)) 0 else q.getD (lo+i) 0:=λi=>by
  rw[zbv hs ⋯]
  by_cases h1:i=x
  .rw[qw ⋯,qw h1]
  .rw[qy ⋯,qy h1]
   by_cases h2:x<i/\i<=k
   .rw[qw ⋯,qw h2,show lo+i - 1=lo+(i - 1) by lia]
   .rw[qy ⋯,qy h2]
 intro i j hij hj
 by_cases hi:i=j
 .subst hi;exact o.r _
 .rw[g,g]
  by_cases hjx:j=x
  .rw[qw hjx,qy ⋯,qy ⋯]
   exact c1 i ⋯
  .rw[qy hjx]
   by_cases hjk:x<j/\j<=k
   .rw[qw hjk]
    by_cases hix:i=x
    .rw[qw hix];exact c2 _ ⋯ ⋯
    .rw[qy hix]
     split
     .exact s _ _ ⋯ ⋯
     .exact s _ _ ⋯ ⋯
   .rw[qy hjk,qy ⋯,qy ⋯]
    exact s _ _ hij ⋯
def SS.less{k:Nat}(h:SS cmp q lo k)(hm:m<=k):SS cmp q lo m:=λi j hi hj=>h i j hi ⋯
def zie{ok:Nat}{P:(En->Bool)->(En->SortSt)->Prop}(hs:q.size=N)(hl:lo+n<=N)(hok:1<=ok)(hn:ok<=n)(s:OdA cmp->SS cmp q lo ok)(h: ∀q',Fr lo (lo+n) q q'->(OdA cmp->SS cmp q' lo n)->P (λ_=>true) (sst q' p g)):
 Det cmp (λ_=>binarySort' lo n ok) (sst q p g) P:=by
 refine Y0 (z0R (P:=λv st'=> ∃q':Array Nat,v=(λ_=>(none,()))/\st'=sst q' p g/\Fr lo (lo+n) q q'/\(OdA cmp->SS cmp q' lo n)) (zff (I:=λk v st'=> ∃q':Array Nat,v=(λ_=>(none,()))/\st'=sst q' p g/\Fr lo (lo+n) q q'/\(OdA cmp->SS cmp q' lo k)/\1<=k) ⟨q,rfl,rfl, .rfl,λo=>by rw[show max ok 1=ok by lia];exact s o,⋯⟩ ?_ ?_) ?_)
 .rintro k b st hk ⟨q',rfl,rfl,fr,s,k1⟩
  have hs':=fr.size.trans hs
  try dsimp only
  refine Y0 (z0R (P:=λv st'=> ∃x:Nat,v=(λ_=>(none,x,x))/\st'=sst q' p g/\x<=k/\(OdA cmp->(∀i,i<x->cmp (q'.getD (lo+k) 0) (q'.getD (lo+i) 0)=false)/\∀i,x<=i->i<k->cmp (q'.getD (lo+i) 0) (q'.getD (lo+k) 0)=false)) (z2M (I:=λf v st'=> ∃l r:Nat,v=(λ_=>(none,l,r))/\st'=sst q' p g/\l<=r/\r<=k/\r<=l+f/\(OdA cmp->(∀i,i<l->cmp (q'.getD (lo+k) 0) (q'.getD (lo+i) 0)=false)/\∀i,r<=i->i<k->cmp (q'.getD (lo+i) 0) (q'.getD (lo+k) 0)=false)) ⟨0,k,rfl,rfl,B7 _,i8 _,⋯,λ_=>⟨λi hi=>by lia,λi h1 h2=>by lia⟩⟩ ?_ ?_) ?_)
  .rintro _ f b st ⟨l,r,rfl,rfl,hlr,hr,hf,c⟩
   try dsimp only
   refine W8 (λc0=>W6 ⟨l,by rw[show r=l by lia],rfl,⋯,by rw[show r=l by lia] at c;exact c⟩) λc0=>Y0 (z51 ⋯ ⋯ ?_)
   try dsimp only
   rw[gz ⋯,gz ⋯]
   cases e:cmp (q'.getD (lo+k) 0) (q'.getD (lo+(l+r)/2) 0) with
   |true=>
    refine W8 (λ_=>Q8 ⟨_,_,rfl,rfl,⋯,⋯,⋯,λo=>⟨(c o).1,λi h1 h2=> ?_⟩⟩) λc=>absurd rfl c
    exact o.t _ _ _ (s o _ _ h1 h2) (o.a _ _ e)
   |false=>
    refine W8 (λc=>by cases c) λ_=>Q8 ⟨_,_,rfl,rfl,⋯,⋯,⋯,λo=>⟨λi hi=> ?_,(c o).2⟩⟩
    exact o.t _ _ _ e (s o _ _ ⋯ ⋯)
  .rintro b st ⟨l,r,rfl,rfl,hlr,hr,hf,c⟩
   obtain rfl:l=r:=by lia
   exact⟨l,rfl,rfl,hr,c⟩
  .rintro v st ⟨x,rfl,rfl,hx,c⟩
   try dsimp only
   refine Y0 (zf0 (Q8 ⟨_,rfl,rfl,fr.trans (zfg ⋯ ⋯ ⋯ ⋯),λo=> ?_,⋯⟩))
   rw[show lo+k -(lo+x)=k -x by lia]
   exact(s o).put o ⋯ hx (c o).1 (c o).2
 .rintro k b st hk ⟨q',rfl,rfl,fr,s,_⟩
  exact⟨q',rfl,rfl,fr,λo=>(s o).less hk⟩
 .rintro v st ⟨q,rfl,rfl,fr,s⟩
  exact V0 (h q fr s)
theorem z8d(sa:Nat)(e:En): ∀(m:List Nat) (j:Nat) (q:Array Nat),((m.map λi=>im i e).zipIdx j).foldl (λa x=>match x with|(p,j)=>a.setIfInBounds (sa+j) p) (ar q e)=ar ((m.zipIdx j).foldl (λa x=>match x with|(p,j)=>a.setIfInBounds (sa+j) p) q) e
 |[],_,_=>rfl
 |i::m,j,q=>by
  rw[i6,R3,R3,L1,L1]
  have:(ar q e).setIfInBounds (sa+j) (im i e)=ar (q.setIfInBounds (sa+j) i) e:=by simp[ar,Array.map_setIfInBounds]
  dsimp only
  rw[this]
  exact z8d sa e m (j+1) _
variable{cmp:Nat->Nat->Bool}{α β:Type}{q q':Array Nat}{p:Array (Nat×Nat×Nat)}{g:Nat}{st:En->SortSt}
def SS.fr{a n:Nat}(h:SS cmp q a n)(e: ∀i,a<=i->i<a+n->q'.getD i 0=q.getD i 0):SS cmp q' a n:=λi j hi hj=>by
 rw[e _ ⋯ ⋯,e _ ⋯ ⋯];exact h i j hi hj
noncomputable def Ch(cmp:Nat->Nat->Bool)(q:Array Nat):Nat->List (Nat×Nat×Nat)->Nat->Prop
 |a,[],b=>a=b
 |a,r::l,b=>r.1=a/\1<=r.2.1/\(OdA cmp->SS cmp q a r.2.1)/\Ch cmp q (a+r.2.1) l b
theorem zcI: ∀{l:List (Nat×Nat×Nat)} {a b:Nat},Ch cmp q a l b->a<=b
 |[],_,_,h=>O9 h
 |r::l,a,b,h=>C1 (u0a _ _) (zcI h.2.2.2)
theorem zab: ∀{l:List (Nat×Nat×Nat)} {a b:Nat},Ch cmp q a l b->(∀i,a<=i->i<b->q'.getD i 0=q.getD i 0)->Ch cmp q' a l b
 |[],_,_,h,_=>h
 |r::l,a,b,h,e=>by
  have:=zcI h.2.2.2
  exact⟨h.1,h.2.1,λo=>(h.2.2.1 o).fr λi h1 h2=>e i h1 ⋯,zab h.2.2.2 λi h1 h2=>e i ⋯ h2⟩
theorem z8e: ∀{l:List (Nat×Nat×Nat)} {a b n w:Nat},Ch cmp q a l b->1<=n->(OdA cmp->SS cmp q b n)->Ch cmp q a (l++[(b,n,w)]) (b+n)
 |[],a,b,n,w,h,hn,s=>by cases(show a=b from h);exact⟨rfl,hn,s,rfl⟩
 |r::l,a,b,n,w,h,hn,s=>⟨h.1,h.2.1,h.2.2.1,z8e h.2.2.2 hn s⟩
theorem zbw: ∀{l:List (Nat×Nat×Nat)} {a b i:Nat} {x y:Nat×Nat×Nat},Ch cmp q a l b->l[i]? =some x->l[i+1]? =some y->y.1=x.1+x.2.1/\1<=x.2.1/\1<=y.2.1/\y.1+y.2.1<=b/\(OdA cmp->SS cmp q x.1 x.2.1/\SS cmp q y.1 y.2.1)/\
 ∀q' w,(∀i,i<x.1\/y.1+y.2.1<=i->q'.getD i 0=q.getD i 0)->(OdA cmp->SS cmp q' x.1 (x.2.1+y.2.1))->Ch cmp q' a ((l.set i (x.1,x.2.1+y.2.1,w)).eraseIdx (i+1)) b
 |[],_,_,_,_,_,_,h,_=>by simp at h
 |[_],_,_,0,_,_,_,_,h=>by simp at h
 |[_],_,_,_+1,_,_,_,h,_=>by simp at h
 |u::v::l,a,b,0,x,y,hc,hx,hy=>by
  erw[List.getElem?_cons_zero,Option.some.injEq] at hx
  erw[I0,List.getElem?_cons_succ,List.getElem?_cons_zero,Option.some.injEq] at hy
  subst hx hy
  obtain⟨rfl,h2,s1,h3,h4,s2,h5⟩:=hc
  refine⟨h3,h2,h4,by have:=zcI h5;lia,λo=>⟨s1 o,by rw[h3];exact s2 o⟩,λq' w e s=> ?_⟩
  erw[D4,I0,R4,List.eraseIdx_cons_zero]
  refine⟨rfl,by show 1<=_+_;lia,s, ?_⟩
  show Ch cmp q' (u.1+(u.2.1+v.2.1)) l b
  rw[<-C6];exact zab h5 λi h1 h2=>e i (.inr ⋯)
 |u::v::l,a,b,i+1,x,y,hc,hx,hy=>by
  erw[List.getElem?_cons_succ] at hx hy
  obtain⟨q1,q2,q3,q4,q5,q6⟩:=zbw hc.2.2.2 hx hy
  refine⟨q1,q2,q3,q4,q5,λq' w e s=> ?_⟩
  rw[D5,R4]
  have hx1:a+u.2.1<=x.1:=by
   have go: ∀{l:List (Nat×Nat×Nat)} {a b i:Nat} {x:Nat×Nat×Nat},Ch cmp q a l b->l[i]? =some x->a<=x.1:=by
    intro l
    induction l with
    |nil=>intro a b i x _ h;simp at h
    |cons r l ih=>
     intro a b i x h hx
     cases i with
     |zero=>erw[List.getElem?_cons_zero,Option.some.injEq] at hx;subst hx;exact O9 h.1.symm
     |succ i=>exact C1 (u0a _ _) (ih h.2.2.2 (by simpa using hx))
   exact go hc.2.2.2 hx
  exact⟨hc.1,hc.2.1,λo=>(hc.2.2.1 o).fr λi h1 h2=>e i (.inl ⋯),q6 q' w e s⟩
theorem zbx{f:Nat×Nat×Nat->Nat×Nat×Nat}(hf: ∀x,(f x).1=x.1/\(f x).2.1=x.2.1): ∀{l:List (Nat×Nat×Nat)} {a b:Nat} (i:Nat),Ch cmp q a l b->Ch cmp q a (l.modify i f) b
 |[],_,_,i,h=>by rw[List.modify_nil];exact h
 |r::l,a,b,0,h=>by
  rw[List.modify_zero_cons]
  exact⟨(hf r).1.trans h.1,by rw[(hf r).2];exact h.2.1,by rw[(hf r).2];exact h.2.2.1,by rw[(hf r).2];exact h.2.2.2⟩
 |r::l,a,b,i+1,h=>by
  rw[List.modify_succ_cons]
  exact⟨h.1,h.2.1,h.2.2.1,zbx hf i h.2.2.2⟩
noncomputable def sg(q:Array Nat)(a n:Nat):List Nat:=(q.toList.drop a).take n
def zac{a n i:Nat}(hi:i<n)(h:a+n<=q.size):(sg q a n)[i]? =some (q.getD (a+i) 0):=by
 delta sg
 rw[List.getElem?_take_of_lt hi,List.getElem?_drop,gq,Array.getElem?_toList]
 rw[Array.getElem?_eq_getElem ⋯];rfl
def z2Q{a n:Nat}(h:a+n<=q.size):(sg q a n).length=n:=by simp[sg];lia
def z55{a n:Nat}(o:OdA cmp)(h:a+n<=q.size):SS cmp q a n↔Sr cmp (sg q a n):=by
 have at': ∀i (hi:i<(sg q a n).length),(sg q a n)[i]=q.getD (a+i) 0:=λi hi=>by
  have:=zac (q:=q) (a:=a) (n:=n) (i:=i) (by rw[z2Q h] at hi;exact hi) h
  rw[List.getElem?_eq_getElem hi] at this
  exact Option.some.inj this
 constructor
 .intro s
  refine P6.mpr λi j hi hj hij=> ?_
  rw[at',at'];rw[z2Q h] at hj
  exact s i j ⋯ hj
 .intro s i j hij hj
  by_cases e:i=j
  .subst e;exact o.r _
  .have hl:=z2Q h
   have:=s.at (i:=i) (j:=j) ⋯ ⋯
   rwa [at',at'] at this
def z6A{a n m:Nat}:sg q a (n+m)=sg q a n++sg q (a+n) m:=by
 delta sg
 rw[List.take_add,D9]
def zby{a b:Nat}:(q.extract a b).toList=sg q a (b -a):=by
 rw[Array.toList_extract,D2];rfl
theorem z8f(sa:Nat): ∀(m:List Nat) (j:Nat) (q:Array Nat),sa+j+m.length<=q.size->((m.zipIdx j).foldl (λa x=>match x with|(p,j)=>a.setIfInBounds (sa+j) p) q).toList=q.toList.take (sa+j)++m++q.toList.drop (sa+j+m.length)
 |[],j,q,_=>by simp
 |i::m,j,q,h=>by
  rw[R3,L1]
  dsimp only
  have hl:i::m=[i]++m:=rfl
  have h2:sa+(j+1)+m.length<=(q.setIfInBounds (sa+j) i).size:=by rw[Array.size_setIfInBounds];simp at h;lia
  rw[z8f sa m (j+1) _ h2,Array.toList_setIfInBounds]
  have hj:sa+j<q.toList.length:=by simp at h;show sa+j<q.size;lia
  have e1:(q.toList.set (sa+j) i).take (sa+(j+1))=q.toList.take (sa+j)++[i]:=by
   rw[<-C6,F2 (by simpa using hj)]
   rw[List.take_set_of_le (i8 _)];simp
  have e2:(q.toList.set (sa+j) i).drop (sa+(j+1)+m.length)=q.toList.drop (sa+j+(i::m).length):=by
   rw[List.drop_set_of_lt ⋯]
   congr 1
   simp;lia
  rw[e1,e2,m9 _ [i] m]
  rfl
def z2e{a n y:Nat}(h:a+n<=q.size)(hy:y∈sg q a n): ∃t,t<n/\y=q.getD (a+t) 0:=by
 obtain⟨t,ht,rfl⟩:=E4 hy
 rw[z2Q h] at ht
 refine⟨t,ht, ?_⟩
 have:=zac ht h
 rw[List.getElem?_eq_getElem (by rw[z2Q h];exact ht)] at this
 exact Option.some.inj this
def zcJ{a:Nat}{m:List Nat}(h:a+m.length<=q.size)(e:q'.toList=q.toList.take a++m++q.toList.drop (a+m.length))(pm:m.Perm (sg q a m.length)):Fr a (a+m.length) q q'/\sg q' a m.length=m:=by
 have e0:q.toList=q.toList.take a++sg q a m.length++q.toList.drop (a+m.length):=by
  delta sg
  rw[m9,<-D9,D3,D3]
 have la:(q.toList.take a).length=a:=by simp;lia
 refine⟨⟨?_,λi hi=> ?_⟩, ?_⟩
 .refine Array.perm_iff_toList_perm.mpr ?_
  rw[e]
  conv=>rhs;rw[e0]
  exact(pm.append_left _).append_right _
 .rw[gq,gq,<-Array.getElem?_toList,<-Array.getElem?_toList,e]
  rcases hi with hi|hi
  .rw[m9,List.getElem?_append_left ⋯,List.getElem?_take_of_lt hi]
  .rw[List.getElem?_append_right (by rw[l8];lia),List.getElem?_drop,l8,la]
   congr 2;lia
 .delta sg
  rw[e,m9,F9 ⋯,C2 ⋯,A4,O1 (i8 _),E5]
def zfh{i lo N:Nat}{P:(En->Bool)->(En->SortSt)->Prop}(hs:q.size=N)(hc:Ch cmp q 0 p.toList lo)(hl:lo<=N)(hi:i+1<p.size)(h: ∀q' p' g',p'.size+1=p.size->Fr 0 lo q q'->Ch cmp q' 0 p'.toList lo->P (λ_=>true) (sst q' p' g')):
 Det cmp (λ_=>mergeAt' i) (sst q p g) P:=by
 refine Y0 (za9 ?_)
 obtain⟨x,hx⟩: ∃x,p[i]? =some x:=⟨p[i],Array.getElem?_eq_getElem ⋯⟩
 obtain⟨y,hy⟩: ∃y,p[i+1]? =some y:=⟨p[i+1],Array.getElem?_eq_getElem hi⟩
 obtain⟨sa,na,pw⟩:=x
 obtain⟨sb,nb,pw'⟩:=y
 obtain⟨c1,c2,c3,c4,c5,c6⟩:=zbw hc (by rw[Array.getElem?_toList];exact hx) (by rw[Array.getElem?_toList];exact hy)
 dsimp only at c1 c2 c3 c4 c5 c6
 have e:((p.setIfInBounds i (sa,na+nb,pw)).eraseIdxIfInBounds (i+1)).toList=(p.toList.set i (sa,na+nb,pw)).eraseIdx (i+1):=by simp
 have e1: ∀e,(ft (sst q p g e))[i]? =some (sa,na,pw):=λ_=>hx
 have e2: ∀e,(ft (sst q p g e))[i+1]? =some (sb,nb,pw'):=λ_=>hy
 erw[e1,e2]
 refine Y0 (zi3 (a:=sst q ((p.setIfInBounds i (sa,na+nb,pw)).eraseIdxIfInBounds (i+1)) g) ?_)
 have c6:=λq'=>c6 q' pw
 rw[<-e] at c6
 have hz:((p.setIfInBounds i (sa,na+nb,pw)).eraseIdxIfInBounds (i+1)).size+1=p.size:=by
  rw[<-Array.length_toList,e,List.length_eraseIdx,u0g,qw (by simpa using hi)]
  simp;lia
 generalize (p.setIfInBounds i (sa,na+nb,pw)).eraseIdxIfInBounds (i+1)=p' at c6 hz⊢
 clear e e1 e2
 refine Y0 (z3B (q:=q) ⋯ ?_)
 refine Y0 (z42 (r:=q) ⋯ ⋯ λk hk gk=> ?_)
 have g1:OdA cmp->(∀t,t<k->cmp (q.getD sb 0) (q.getD (sa+t) 0)=false)/\∀t,k<=t->t<na->cmp (q.getD sb 0) (q.getD (sa+t) 0)=true:=λo=>by
  obtain⟨a1,a2⟩:=zi6 o (c5 o).1 gk
  refine⟨λt ht=> ?_,λt ht hn=> ?_⟩
  .have:=a1 t ⋯ ht ⋯
   rwa [gz ⋯,gz ⋯] at this
  .have:=a2 t ⋯ ht hn
   rwa [gz ⋯,gz ⋯] at this
 clear gk
 try dsimp only
 have plain:(OdA cmp->∀s t,s<na->t<nb->cmp (q.getD (sb+t) 0) (q.getD (sa+s) 0)=false)->Ch cmp q 0 p'.toList lo:=λhh=>c6 q (λ_ _=>rfl) λo=>by
  refine(z55 o ⋯).mpr ?_
  rw[z6A,<-c1]
  refine C4.mpr ⟨(z55 o ⋯).mp (c5 o).1,(z55 o ⋯).mp (c5 o).2,λx hx y hy=> ?_⟩
  obtain⟨s,hs,rfl⟩:=z2e ⋯ hx
  obtain⟨t,ht,rfl⟩:=z2e ⋯ hy
  exact hh o s t hs ht
 refine W8 (λz=>V0 (h _ _ _ hz .rfl (plain λo s t hs ht=> ?_))) λz=> ?_
 .erw[beq_iff_eq] at z
  exact o.t _ _ _ ((c5 o).2 0 t (B7 _) ht) ((g1 o).1 s ⋯)
 erw[beq_iff_eq] at z
 refine Y0 (z3B (q:=q) ⋯ ?_)
 refine Y0 (z42 (r:=q) ⋯ ⋯ λk2 hk2 gk=> ?_)
 have g2:OdA cmp->(∀t,t<k2->cmp (q.getD (sb+t) 0) (q.getD (sb - 1) 0)=true)/\∀t,k2<=t->t<nb->cmp (q.getD (sb+t) 0) (q.getD (sb - 1) 0)=false:=λo=>by
  obtain⟨a1,a2⟩:=zi7 o (c5 o).2 gk
  have e:sa+k+(na -k) - 1=sb - 1:=by lia
  refine⟨λt ht=> ?_,λt ht hn=> ?_⟩
  .have:=a1 t ⋯ ht ⋯
   rw[gz ⋯,gz ⋯] at this
   rwa [e] at this
  .have:=a2 t ⋯ ht hn
   rw[gz ⋯,gz ⋯] at this
   rwa [e] at this
 clear gk
 have la:OdA cmp->∀s,s<na->cmp (q.getD (sb - 1) 0) (q.getD (sa+s) 0)=false:=λo s hs=>by
  rw[show sb - 1=sa+(na - 1) by lia]
  exact(c5 o).1 s (na - 1) ⋯ ⋯
 try dsimp only
 refine W8 (λz=>V0 (h _ _ _ hz .rfl (plain λo s t hs ht=> ?_))) λz2=> ?_
 .erw[beq_iff_eq] at z
  exact o.t _ _ _ ((g2 o).2 t ⋯ ht) (la o s hs)
 erw[beq_iff_eq] at z2
 obtain⟨X,hX⟩: ∃X,X=q.extract (sa+k) sb:=⟨_,rfl⟩
 obtain⟨Y,hY⟩: ∃Y,Y=q.extract sb (sb+k2):=⟨_,rfl⟩
 have sx:X.size=na -k:=by rw[hX,Array.size_extract];lia
 have sy:Y.size=k2:=by rw[hY,Array.size_extract];lia
 have lx:X.toList=sg q (sa+k) (na -k):=by rw[hX,zby];congr 1;lia
 have ly:Y.toList=sg q sb k2:=by rw[hY,zby];congr 1;lia
 have ex: ∀e,(dS (sst q p g e)).extract (sa+k) sb=ar X e:=λe=>by rw[hX];exact V1
 have ey: ∀e,(dS (sst q p g e)).extract sb (sb+k2)=ar Y e:=λe=>by rw[hY];exact V1
 erw[ex,ey]
 have pr:OdA cmp->Pr cmp X Y:=λo=>⟨o,by rw[lx];exact(z55 o ⋯).mp λs t hst ht=>by rw[C6,C6];exact(c5 o).1 _ _ ⋯ ⋯,by rw[ly];exact(z55 o ⋯).mp ((c5 o).2.less hk2),λx hx=> ?_,λy hy=> ?_⟩
 rotate_left
 .rw[lx] at hx
  obtain⟨t,ht,rfl⟩:=z2e ⋯ hx
  have y0:Y.getD 0 0=q.getD sb 0:=by
   have:=zac (q:=q) (a:=sb) (n:=k2) (i:=0) ⋯ ⋯
   rw[<-ly,Array.getElem?_toList] at this
   rw[gq,this];rfl
  rw[y0,C6]
  exact o.a _ _ ((g1 o).2 (k+t) ⋯ ⋯)
 .rw[ly] at hy
  obtain⟨t,ht,rfl⟩:=z2e ⋯ hy
  have y0:X.getD (X.size - 1) 0=q.getD (sb - 1) 0:=by
   have:=zac (q:=q) (a:=sa+k) (n:=na -k) (i:=X.size - 1) ⋯ ⋯
   rw[<-lx,Array.getElem?_toList] at this
   rw[gq,this,show sa+k+(X.size - 1)=sb - 1 by lia];rfl
  rw[y0]
  exact o.a _ _ ((g2 o).1 t ht)
 have fin: ∀(mq:En->Array Keyed) (g':Nat),MF cmp X Y mq->∀(f:En->SortSt->SortSt),(∀e,f e (sst q p' g' e)=SortSt.mk' e.1 ((mq e).toList.zipIdx.foldl (λa x=>match x with|(p,j)=>a.setIfInBounds (sa+k+j) p) (ar q e)) p' g' none)->Det cmp (λe=>(modify (f e):StateT SortSt cN PUnit)>>=λ_=>get>>=λs=>pure (dI s).isNone) (sst q p' g') P:=by
  rintro mq g' ⟨m,rfl,hp,ho⟩ f hf
  rw[l4,lx,ly] at hp
  have hm:m.toList.length=na -k+k2:=by rw[hp.length_eq,l8,z2Q ⋯,z2Q ⋯]
  have hb:sa+k+m.toList.length=sb+k2:=by lia
  have es:=z8f (sa+k) m.toList 0 q ⋯
  rw[Nat.add_zero] at es
  have sp:sg q (sa+k) m.toList.length=sg q (sa+k) (na -k)++sg q sb k2:=by rw[hm,z6A,show sa+k+(na -k)=sb by lia]
  obtain⟨fr,sm⟩:=zcJ (q':=(m.toList.zipIdx 0).foldl (λa x=>match x with|(p,j)=>a.setIfInBounds (sa+k+j) p) q) ⋯ es (by rw[sp];exact hp)
  refine Y0 (z1j ?_)
  have e3:(λe=>f e (sst q p' g' e))=sst ((m.toList.zipIdx 0).foldl (λa x=>match x with|(p,j)=>a.setIfInBounds (sa+k+j) p) q) p' g':=by
   funext e
   rw[hf]
   delta sst
   have:(ar m e).toList=m.toList.map λi=>im i e:=by simp[ar]
   rw[this,z8d]
  rw[e3]
  generalize (m.toList.zipIdx 0).foldl (λa x=>match x with|(p,j)=>a.setIfInBounds (sa+k+j) p) q=q2 at fr sm⊢
  rw[hb] at fr
  have s2:=fr.size
  refine Y0 (za9 (V0 (h _ _ _ hz ⟨fr.pm,λi hi=>fr.out i ⋯⟩ (c6 q2 (λi hi=>fr.out i ⋯) λo=> ?_))))
  refine(z55 o ⋯).mpr ?_
  have e4:sg q2 sa (na+nb)=sg q2 sa k++(m.toList++sg q2 (sb+k2) (nb -k2)):=by
   rw[show na+nb=k+(m.toList.length+(nb -k2)) by lia,z6A,z6A,sm,hb]
  rw[e4]
  have f1: ∀t,t<k->q2.getD (sa+t) 0=q.getD (sa+t) 0:=λt ht=>fr.out _ ⋯
  have f2: ∀t,k2<=t->q2.getD (sb+t) 0=q.getD (sb+t) 0:=λt ht=>fr.out _ ⋯
  have mm: ∀y∈m.toList,(∃t,k<=t/\t<na/\y=q.getD (sa+t) 0)\/∃t,t<k2/\y=q.getD (sb+t) 0:=λy hy=>by
   rcases i9.mp (hp.mem_iff.mp hy) with hy|hy
   .obtain⟨t,ht,rfl⟩:=z2e ⋯ hy
    exact .inl ⟨k+t,⋯,⋯,by rw[C6]⟩
   .obtain⟨t,ht,rfl⟩:=z2e ⋯ hy
    exact .inr ⟨t,ht,rfl⟩
  have m2: ∀y∈sg q2 (sb+k2) (nb -k2),∃t,k2<=t/\t<nb/\y=q.getD (sb+t) 0:=λy hy=>by
   obtain⟨t,ht,rfl⟩:=z2e ⋯ hy
   exact⟨k2+t,⋯,⋯,by rw[C6,f2 _ ⋯]⟩
  refine C4.mpr ⟨(z55 o ⋯).mp (((c5 o).1.less hk).fr λi h1 h2=>fr.out i ⋯),C4.mpr ⟨(ho (pr o)).1,(z55 o ⋯).mp λs t hst ht=> ?_,λx hx y hy=> ?_⟩,λx hx y hy=> ?_⟩
  .rw[C6,C6,f2 _ ⋯,f2 _ ⋯]
   exact(c5 o).2 _ _ ⋯ ⋯
  .obtain⟨t,t1,t2,rfl⟩:=m2 y hy
   rcases mm x hx with⟨s,s1,s2,rfl⟩|⟨s,s1,rfl⟩
   .exact o.t _ _ _ ((g2 o).2 t t1 t2) (la o s s2)
   .exact(c5 o).2 s t ⋯ t2
  .obtain⟨s,s1,rfl⟩:=z2e ⋯ hx
   rw[f1 s s1]
   have low: ∀t,t<nb->cmp (q.getD (sb+t) 0) (q.getD (sa+s) 0)=false:=λt ht=>o.t _ _ _ ((c5 o).2 0 t (B7 _) ht) ((g1 o).1 s s1)
   rcases i9.mp hy with hy|hy
   .rcases mm y hy with⟨t,t1,t2,rfl⟩|⟨t,t1,rfl⟩
    .exact(c5 o).1 s t ⋯ t2
    .exact low t ⋯
   .obtain⟨t,t1,t2,rfl⟩:=m2 y hy
    exact low t t2
 refine W8 (λ_=> ?_) λ_=> ?_
 .refine Y0 (zi8 ⋯ ⋯ λmq g' hm=> ?_)
  exact fin mq g' hm _ λe=>rfl
 .refine Y0 (zic ⋯ ⋯ λmq g' hm=> ?_)
  exact fin mq g' hm _ λe=>rfl
variable{cmp:Nat->Nat->Bool}{α β:Type}{q q0:Array Nat}{p:Array (Nat×Nat×Nat)}{g:Nat}{st:En->SortSt}
def z44{e:En}:ft (sst q p g e)=p:=rfl
structure Rn(cmp:Nat->Nat->Bool)(q0:Array Nat)(N lo:Nat)(q:Array Nat)(p:Array (Nat×Nat×Nat)):Prop where
 pm:q.Perm q0
 ch:Ch cmp q 0 p.toList lo
 le:lo<=N
def zfi{c:Prop}{i:Decidable c}{n:Nat}(h:2<=n): @ite Nat c i (n - 2 - 1) (n - 2)+1<n:=by
 by_cases hc:c
 .rw[qw hc];lia
 .rw[qy hc];lia
def zfj{i:En->Nat}{lo N:Nat}{P:(En->Bool)->(En->SortSt)->Prop}(hE: ∀e e',i e=i e')(hs:q.size=N)(hc:Ch cmp q 0 p.toList lo)(hl:lo<=N)(hi: ∀e,i e+1<p.size)(h: ∀q' p' g',p'.size+1=p.size->Fr 0 lo q q'->Ch cmp q' 0 p'.toList lo->P (λ_=>true) (sst q' p' g')):
 Det cmp (λe=>mergeAt' (i e)) (sst q p g) P:=by
 have e0:i=λ_=>i (general', #[]):=funext λe=>hE e _
 rw[e0]
 exact zfh hs hc hl (hi _) h
theorem zbz: ∀{l:List (Nat×Nat×Nat)} {a b:Nat},Ch cmp q a l b->a+l.length<=b
 |[],_,_,h=>O9 h
 |r::l,a,b,h=>by
  have:=zbz h.2.2.2
  have:=h.2.1
  erw[o0];lia
def zfk{N:Nat}{P:(En->Unit)->(En->SortSt)->Prop}(hs:q0.size=N)(h: ∀q' p' g',q'.Perm q0->(OdA cmp->SS cmp q' 0 N)->P (λ_=>()) (sst q' p' g')):
 Det cmp (λ_=>sortRuns') (sst q0 #[] g) P:=by
 refine z3D ?_
 have e0: ∀e,(dS (sst q0 #[] g e)).size=N:=λe=>z2N.trans hs
 erw[e0]
 have sz: ∀{q:Array Nat},q.Perm q0->q.size=N:=λh=>h.size_eq.trans hs
 refine Y0 (z0R (P:=λv st'=> ∃(q:Array Nat) (p:Array (Nat×Nat×Nat)) (g:Nat),v=(λ_=>(none,N))/\st'=sst q p g/\Rn cmp q0 N N q p) (z2M (I:=λk v st'=> ∃(lo:Nat) (q:Array Nat) (p:Array (Nat×Nat×Nat)) (g:Nat),v=(λ_=>(none,lo))/\st'=sst q p g/\Rn cmp q0 N lo q p/\N<=lo+k) ⟨0,q0, #[],g,rfl,rfl,⟨Array.Perm.refl _,rfl,B7 _⟩,⋯⟩ ?_ ?_) ?_)
 .rintro _ f b st ⟨lo,q,p,g,rfl,rfl,r,hf⟩
  have hs:=sz r.pm
  have hl:=r.le
  try dsimp only
  refine W8 (λc=>W6 ⟨q,p,g,by rw[show lo=N by lia],rfl,by rw[show lo=N by lia] at r;exact r⟩) λc1=> ?_
  refine Y0 (zid (n:=N) hs ⋯ ⋯ λk q1 k1 k2 fr ss=> ?_)
  try dsimp only
  have tail: ∀(n:Nat) (q:Array Nat) (p:Array (Nat×Nat×Nat)) (g:Nat),1<=n->lo+n<=N->Rn cmp q0 N lo q p->(OdA cmp->SS cmp q lo n)->∀(s:SortSt->SortSt),(∀e,s (sst q p g e)=SortSt.mk' e.1 (ar q e) (p.push (lo,n,0)) g none)->Det cmp (λ_=>(modify s:StateT SortSt cN PUnit)>>=λ_=>pure (ForInStep.yield ((none,lo+n):Option Unit×Nat))) (sst q p g) λv st'=>(∃c,v=(λe=> .done (c e))/\∃(q:Array Nat) (p:Array (Nat×Nat×Nat)) (g:Nat),c=(λ_=>(none,N))/\st'=sst q p g/\Rn cmp q0 N N q p)\/∃c,v=(λe=> .yield (c e))/\∃(lo:Nat) (q:Array Nat) (p:Array (Nat×Nat×Nat)) (g:Nat),c=(λ_=>(none,lo))/\st'=sst q p g/\Rn cmp q0 N lo q p/\N<=lo+f:=by
   intro n q p g n1 n2 r s f hf
   refine Y0 (z1j ?_)
   erw[hf]
   exact Q8 ⟨lo+n,q,p.push (lo,n,0),g,rfl,rfl,⟨r.pm,by rw[Array.toList_push];exact z8e r.ch n1 s,n2⟩,⋯⟩
  have r1:Rn cmp q0 N lo q1 p:=⟨fr.pm.trans r.pm,zab r.ch λi _ hi=>fr.out i (.inl hi),hl⟩
  clear r fr
  apply zbr (λn q=>1<=n/\lo+n<=N/\Rn cmp q0 N lo q p/\(OdA cmp->SS cmp q lo n))
  .intro key
   refine W8 (λc2=> ?_) λc2=> ?_
   rotate_left
   .have r:1<=k/\lo+k<=N/\Rn cmp q0 N lo q1 p/\(OdA cmp->SS cmp q1 lo k):=⟨⋯,⋯,r1,ss⟩
    revert r
    generalize q1=z2
    generalize k=z1
    intro r
    exact key z1 z2 r
   .refine z2P ?_
    refine Y0 (zie (N:=N) (sz r1.pm) ⋯ k1 ⋯ ss λq fr s=> ?_)
    try dsimp only
    refine W8 (λc=>by cases c) λ_=> ?_
    exact key _ _ ⟨⋯,⋯,⟨fr.pm.trans r1.pm,zab r1.ch λi _ hi=>fr.out i (.inl hi),hl⟩,s⟩
  .intro n q r
   obtain⟨n1,n2,r,s⟩:=r
   refine z3D ?_
   erw[z44]
   cases hb:p.back? with
   |none=>exact tail _ q p g ⋯ ⋯ r s _ λe=>rfl
   |some x=>
    obtain⟨s1,n1,w⟩:=x
    try dsimp only
    refine Y0 (z0R (P:=λv st'=> ∃(q:Array Nat) (p:Array (Nat×Nat×Nat)) (g:Nat),v=(λ_=>(none,()))/\st'=sst q p g/\Rn cmp q0 N lo q p/\(OdA cmp->SS cmp q lo n)) (z2M (I:=λ_ v st'=> ∃(q:Array Nat) (p:Array (Nat×Nat×Nat)) (g:Nat),v=(λ_=>(none,()))/\st'=sst q p g/\Rn cmp q0 N lo q p/\(OdA cmp->SS cmp q lo n)) ⟨q,p,g,rfl,rfl,r,s⟩ ?_ λ_ _ h=>h) ?_)
    .rintro _ _ b st ⟨q,p,g,rfl,rfl,r,s⟩
     refine z3D ?_
     erw[z44]
     by_cases hp:p.size>1
     .have hp':(p.size>1)=True:=eq_true hp
      erw[hp',if_true]
      obtain⟨x,hx⟩: ∃x,p[p.size - 2]? =some x:=⟨p[p.size - 2],Array.getElem?_eq_getElem ⋯⟩
      obtain⟨s1,n1,w⟩:=x
      erw[hx]
      refine W8 (λ_=>W6 ⟨q,p,g,rfl,rfl,r,s⟩) λ_=> ?_
      refine Y0 (zfh (N:=N) (sz r.pm) r.ch hl ⋯ λq2 p2 g2 _ fr hc=> ?_)
      try dsimp only
      exact W8 (λc=>by cases c) λ_=>Q8 ⟨q2,p2,g2,rfl,rfl,⟨fr.pm.trans r.pm,hc,hl⟩,λo=>(s o).fr λi hi _=>fr.out i (.inr hi)⟩
     .have hp':(p.size>1)=False:=eq_false hp
      erw[hp',if_false]
      exact W6 ⟨q,p,g,rfl,rfl,r,s⟩
    .rintro v st ⟨q,p,g,rfl,rfl,r,s⟩
     try dsimp only
     refine Y0 (z1j ?_)
     exact tail _ q (p.modify (p.size - 1) λx=>(x.1,x.2.1,_)) g ⋯ ⋯ ⟨r.pm,by rw[Array.toList_modify];refine zbx ?_ _ r.ch;exact λx=>⟨rfl,rfl⟩,hl⟩ s _ λe=>rfl
 .rintro b st ⟨lo,q,p,g,rfl,rfl,r,hf⟩
  have hl:=r.le
  obtain rfl:lo=N:=by lia
  exact⟨q,p,g,rfl,rfl,r⟩
 .rintro v st ⟨q,p,g,rfl,rfl,r⟩
  try dsimp only
  refine Y0 (z0R (P:=λv st'=> ∃(q:Array Nat) (p:Array (Nat×Nat×Nat)) (g:Nat),v=(λ_=>(none,()))/\st'=sst q p g/\Rn cmp q0 N N q p/\p.size<=1) (z2M (I:=λk v st'=> ∃(q:Array Nat) (p:Array (Nat×Nat×Nat)) (g:Nat),v=(λ_=>(none,()))/\st'=sst q p g/\Rn cmp q0 N N q p/\p.size<=k+1) ⟨q,p,g,rfl,rfl,r,by have:=zbz r.ch;simp at this;lia⟩ ?_ λ_ _ h=>h) ?_)
  .rintro _ _ b st ⟨q,p,g,rfl,rfl,r,hk⟩
   refine z3D ?_
   erw[z44]
   refine W8 (λc=>W6 ⟨q,p,g,rfl,rfl,r,c⟩) λc1=> ?_
   refine Y0 (zfj (N:=N) (λ_ _=>rfl) (sz r.pm) r.ch (i8 _) (λe=> ?_) λq2 p2 g2 hz fr hc=> ?_)
   .exact zfi ⋯
   try dsimp only
   exact W8 (λc=>by cases c) λ_=>Q8 ⟨q2,p2,g2,rfl,rfl,⟨fr.pm.trans r.pm,hc,i8 _⟩,⋯⟩
  .rintro v st ⟨q,p,g,rfl,rfl,r,hk⟩
   refine V0 (h q p g r.pm λo=> ?_)
   have hc:=r.ch
   have hk:p.toList.length<=1:=hk
   cases e:p.toList with
   |nil=>
    rw[e] at hc
    obtain rfl:0=N:=hc
    intro i j _ hj;lia
   |cons x l=>
    rw[e] at hc hk
    cases l with
    |nil=>
     obtain⟨h1,h2,h3,h4⟩:=hc
     have h4:0+x.2.1=N:=h4
     rw[show N=x.2.1 by lia]
     exact h3 o
    |cons y l=>simp at hk
open PySem.SeqAt
open AutoSeq1 (wpAny_loadPart')
noncomputable def zbA(A:bq)(s:bf)(y x:bb)(b:Bool):Prop:=
 ∀(prog:bm) (w:bo) (E:bb->bf->Prop) (Q:bb->bf->Prop),Q (.bool b) s->bg (bi prog w) A (richCompare .Lt y x) Q E s
noncomputable def z5N(A:bq)(s:bf):List bb->List bb->Bool->Prop
 |v::vs,u::us,r=> ∃e,EqAt A s v u e/\if e=true then z5N A s vs us r else zbA A s v u r
 |[],us,r=>r=decide (0<us.length)
 |_::_,[],r=>r=false
def zcK{A:bq}{s:bf}: ∀{vs us:List bb} {r:Bool},vs.zip us=[]->z5N A s vs us r->r=decide (vs.length<us.length)
 |[],us,r,_,h=>h
 |v::vs,[],r,_,h=>by rw[show r=false from h];simp
def z7g(l b:Addr)(items items2:Array bb)(n n2:Nat)(dd dd2:Option Addr)(sl sl2:Array (Option bb))(r:Bool):
 Meets (Builtin.«tuple.__lt__» ⟨[.ref l, .ref b],[]⟩)
  (λA R s=>s.heap.get? l=some {cls:= .type "tuple",dict:=dd,data:= .seq items n,slots:=sl}/\s.heap.get? b=some {cls:= .type "tuple",dict:=dd2,data:= .seq items2 n2,slots:=sl2}/\
   z5N A.in1 s items.toList items2.toList r/\R (.ok (.ret (.bool r))) s):=
 .of_wp λprog w A R s h=>by
  obtain⟨hp,g,d,tk,os⟩:=s;obtain⟨hl,hb,he,h⟩:=h
  have f2:=AutoSeq1.sub_tuple_tuple
  wp_walk using wpAny_loadPart' hl,wpAny_loadPart' hb,cG _ (λrest b s'=>b.1=none/\s'=⟨hp,g,d,tk,os⟩/\∃vs us,rest=vs.zip us/\z5N A.in1 ⟨hp,g,d,tk,os⟩ vs us r/\(vs.length<us.length↔items.size<items2.size)) _
  case turn=>
   rintro ⟨y,x⟩ rest b s' ⟨hb',rfl,vs,us,hz,hR,hs⟩
   match vs,us,hz,hR with
   |v::vs,u::us,hz,hR=>
    rw[P3] at hz
    injection hz with h1 h2
    injection h1 with h3 h4
    subst h2 h3 h4
    obtain⟨e,q1,q2⟩:=hR
    refine ba (q1 prog w _ _ ?_)
    cases e with
    |true=>
     wp_walk
     exact⟨rfl,rfl,vs,us,rfl,q2,by simpa using hs⟩
    |false=>
     erw[t9,if_false] at q2
     erw[N2,if_true]
     refine ba (dm (ba (q2 prog w _ _ ?_)))
     exact ba (be (be (be ⟨_,rfl,h⟩)))
   |[],_,hz,_=>simp at hz
   |_::_,[],hz,_=>simp at hz
  case fin=>
   rintro ⟨b1,b2⟩ s' ⟨hb',rfl,vs,us,hz,hR,hs⟩
   simp only at hb'
   subst hb'
   have:=zcK hz.symm hR
   wp_walk
   refine⟨_,rfl, ?_⟩
   have e:r=decide (items.size<items2.size):=by rw[this];exact decide_eq_decide.mpr hs
   rw[e] at h
   exact h
  case h=>
   exact⟨rfl,rfl,_,_,rfl,he,by simp⟩
def zbA.int{A:bq}{s:bf}(a b:Int)(t u:Tok):zbA A s (.int a t) (.int b u) (decide (a<b)):=λprog w E Q h=>wpAny_lt_int h
def zbA.tuples{A:bq}{s:bf}{l b:Addr}{items items2:Array bb}{r:Bool}(hl:s.heap.IsTuple l items)(hb:s.heap.IsTuple b items2)(hu:A.units<cLine)(he:z5N A.in1 s items.toList items2.toList r):zbA A s (.ref l) (.ref b) r:=λprog w E Q h=>by
 obtain⟨⟨cls,dd,data,sl⟩,ho,hc,n,hd⟩:=id hl
 obtain⟨⟨cls2,dd2,data2,sl2⟩,ho2,hc2,n2,hd2⟩:=id hb
 simp only at hc hd hc2 hd2
 subst hc hd hc2 hd2
 exact richCompare_meets_room (op:= .Lt) ⟨_,ho,rfl⟩ ⟨_,ho2,rfl⟩ F.slot_tuple_lt F.entry_tuple_lt (F.args_tuple_lt_2 _ _) (z7g l b items items2 n n2 dd dd2 sl sl2 r)
  ⟨ho,ho2,he,show Value.bool r≠Value.notImplemented/\Q (.bool r) s from⟨(λx=>nomatch x),h⟩⟩ hu
mutual
noncomputable def ltD:PyData->PyData->Option Bool
 | .int a, .int b=>some (decide (a<b))
 | .tuple xs, .tuple ys=>ltL xs ys
 |_,_=>none
noncomputable def ltL:List PyData->List PyData->Option Bool
 |x::xs,y::ys=>if PyData.eqv x y=true then ltL xs ys else ltD x y
 |[],ys=>some (decide (0<ys.length))
 |_::_,[]=>some false
end
mutual
theorem zad: ∀(da db:PyData) (A:bq) (s:bf) (a b:bb) (as bs:List Addr) (r:Bool),fA s.heap a da as->fA s.heap b db bs->da.canLay0=true->db.canLay0=true->A.units+min da.depth db.depth<cLine->ltD da db=some r->zbA A s a b r
 | .int x,_,A,s,_,_,_,_,r,ra,rb,_,_,_,h=>by
  cases ra with
  |int _ t=>
   cases rb with
   |int y u=>
    erw[ltD,Option.some.injEq] at h
    subst h
    exact zbA.int _ _ _ _
   |_=>simp[ltD] at h
 | .tuple xs,_,A,s,_,_,_,_,r,ra,rb,ha,hb,hu,h=>by
  cases ra with
  | @tuple l o vs n _ as₁ h1 h2 h3 h4=>
   cases rb with
   | @tuple l' o' vs' n' ys as' k1 k2 k3 k4=>
    have ha:PyData.canLayAll0 xs=true:=by simpa[PyData.canLay0] using ha
    have hb:PyData.canLayAll0 ys=true:=by simpa[PyData.canLay0] using hb
    erw[ltD] at h
    exact zbA.tuples ⟨_,h1,h2,_,h3⟩ ⟨_,k1,k2,_,k3⟩ (room_here hu) (lex_reads xs ys A.in1 s _ _ _ _ r h4 k4 ha hb (room_in hu) h)
   |_=>simp[ltD] at h
 | .none,_,A,s,_,_,_,_,r,ra,rb,ha,hb,hu,h=>by simp[ltD] at h
 | .bool _,_,A,s,_,_,_,_,r,ra,rb,ha,hb,hu,h=>by simp[ltD] at h
 | .str _,_,A,s,_,_,_,_,r,ra,rb,ha,hb,hu,h=>by simp[ltD] at h
 | .list _,_,A,s,_,_,_,_,r,ra,rb,ha,hb,hu,h=>by simp[ltD] at h
 | .dict _,_,A,s,_,_,_,_,r,ra,rb,ha,hb,hu,h=>by simp[ltD] at h
theorem lex_reads: ∀(xs ys:List PyData) (A:bq) (s:bf) (vs ws:List bb) (as bs:List Addr) (r:Bool),cU s.heap vs xs as->cU s.heap ws ys bs->PyData.canLayAll0 xs=true->PyData.canLayAll0 ys=true->
 A.units+min (PyData.depthAll xs) (PyData.depthAll ys)<cLine->ltL xs ys=some r->z5N A s vs ws r
 |[],ys,A,s,vs,ws,_,_,r,ra,rb,_,_,_,h=>by
  cases ra
  erw[ltL,Option.some.injEq] at h
  subst h
  show _=decide (0<ws.length)
  have e: ∀{ws:List bb} {ys:List PyData} {bs:List Addr},cU s.heap ws ys bs->ws.length=ys.length:=λ{ws}=>by
   induction ws with
   |nil=>intro ys bs q;cases q;rfl
   |cons v vs ih=>intro ys bs q;cases q with|cons q1 q2=>rw[o0,o0,ih q2]
  rw[e rb]
 |_::_,[],A,s,vs,ws,_,_,r,ra,rb,_,_,_,h=>by
  cases rb
  cases ra
  erw[ltL,Option.some.injEq] at h
  exact h.symm
 |x::xs,y::ys,A,s,_,_,_,_,r,ra,rb,ha,hb,hu,h=>by
  have ha':x.canLay0=true/\PyData.canLayAll0 xs=true:=by simpa[PyData.canLayAll0] using ha
  have hb':y.canLay0=true/\PyData.canLayAll0 ys=true:=by simpa[PyData.canLayAll0] using hb
  cases ra with
  |cons r1 rs=>
  cases rb with
  |cons r1' rs'=>
   refine⟨PyData.eqv x y,eqAt_reads x y A s _ _ _ _ r1 r1' ha'.1 hb'.1 (room_head hu), ?_⟩
   rw[ltL] at h
   split
   .rename_i e
    rw[qw e] at h
    exact lex_reads xs ys A s _ _ _ _ r rs rs' ha'.2 hb'.2 (room_tail hu) h
   .rename_i e
    rw[qy e] at h
    exact zad x y A s _ _ _ _ r r1 r1' ha'.1 hb'.1 (room_head hu) h
end
noncomputable def hdI:PyData->Bool
 | .tuple (.int _::_)=>true
 |_=>false
def hd_int{d:PyData}(h:hdI d=true): ∃i xs,d= .tuple (.int i::xs):=by
 cases d with
 |tuple xs=>
  cases xs with
  |nil=>simp[hdI] at h
  |cons x xs=>cases x<;>first|exact⟨_,_,rfl⟩|simp[hdI] at h
 |_=>simp[hdI] at h
theorem zbB{prog:bm}{w:bo}{A:bq}{b fin:Bool}{Q:Bool->bf->Prop}{s:bf}: ∀(vs us:List bb) (i:Nat) (r:Bool),0<i->z5N A s vs us r->fin=decide (vs.length<us.length)->Q r s->KatLex prog w A b fin Q (vs.zip us) i s
 |[],us,i,r,hi,h,hf,q=>by
  have:r=decide (0<us.length):=h
  subst hf
  rw[List.zip_nil_left]
  exact kat_nil (by rw[this] at q;exact q)
 |_::_,[],i,r,hi,h,hf,q=>by
  have:r=false:=h
  subst hf
  rw[List.zip_nil_right]
  exact kat_nil (by rw[this] at q;simpa using q)
 |v::vs,u::us,i,r,hi,h,hf,q=>by
  rw[P3]
  obtain⟨e,h1,h2⟩:=h
  refine kat_cons (h1 prog w _ _ ?_)
  cases e with
  |true=>exact kat_yes (zbB vs us (i+1) r ⋯ h2 (by simpa using hf) q)
  |false=>
   refine kat_no ?_
   rw[show(b&&i==0)=false by simp;lia]
   exact kat_one v u (h2 prog w _ _ q)
def key_lt{prog:bm}{w:bo}{A:bq}{E:bb->bf->Prop}{Q:Bool->bf->Prop}{s:bf}{x y:bb}{dx dy:PyData}{as bs:List Addr}{r:Bool}(rx:fA s.heap x dx as)(ry:fA s.heap y dy bs)(hx:dx.canLay0=true)(hy:dy.canLay0=true)(ix:hdI dx=true)(iy:hdI dy=true)(hu:A.units+min dx.depth dy.depth<cLine)(hr:ltD dx dy=some r)(q:Q r s):
 bg (bi prog w) A (keyLt' (tuples' true) x y) Q E s:=by
 obtain⟨i,xs,rfl⟩:=hd_int ix
 obtain⟨j,ys,rfl⟩:=hd_int iy
 .skip
  cases rx with
  | @tuple l o vs n _ as₁ h1 h2 h3 h4=>
  cases ry with
  | @tuple l' o' vs' n' _ as' k1 k2 k3 k4=>
   have ha:PyData.canLayAll0 (.int i::xs)=true:=by simpa[PyData.canLay0] using hx
   have hb:PyData.canLayAll0 (.int j::ys)=true:=by simpa[PyData.canLay0] using hy
   refine kat_lt h1 h3 k1 k3 ?_
   generalize hv:vs.toList=us at h4
   generalize hv':vs'.toList=us' at k4
   have sz:decide (vs.size<vs'.size)=decide (us.length<us'.length):=by rw[<-hv,<-hv'];simp
   rw[sz]
   erw[ltD] at hr
   cases h4 with
   |cons r1 r2=>
   cases k4 with
   |cons q1 q2=>
    cases r1 with|int _ t=>
    cases q1 with|int _ t'=>
    rw[P3]
    refine kat_cons ((eqAt_reads (.int i) (.int j) A s _ _ _ _ (.int i t) (.int j t') rfl rfl (room_here hu)) prog w _ _ ?_)
    rw[ltL] at hr
    split at hr
    .rename_i e
     rw[e]
     refine kat_yes (zbB _ _ 1 r ⋯ (lex_reads xs ys A s _ _ _ _ r r2 q2 (by simpa[PyData.canLayAll0,PyData.canLay0] using ha) (by simpa[PyData.canLayAll0,PyData.canLay0] using hb) ?_ hr) (by simp) q)
     erw[PyData.depth,PyData.depthAll] at hu
     lia
    .rename_i e
     rw[Bool.not_eq_true] at e
     rw[e]
     refine kat_no ?_
     erw[L4,beq_self_eq_true]
     erw[ltD,Option.some.injEq] at hr
     subst hr
     exact oneLt_int q
variable{cmp:Nat->Nat->Bool}{n:Nat}{α β:Type}
def z1U(n:Nat)(cmp:Nat->Nat->Bool): ∃q:Array Nat,(q.Perm (B5 n).toArray/\(OdA cmp->SS cmp q 0 n))/\∀(prog:bm) (w:bo) (A:bq) (E:bb->bf->Prop) (e:En) (G:bf->Prop) (Q:Unit->SortSt->bf->Prop) (s:bf),e.2.size=n->Cmp prog w A cmp G e->G s->(∀st' s',dS st'=ar q e->dI st'=none->G s'->Q () st' s')->kasC (bi prog w) A E sortRuns' Q (sst (B5 n).toArray #[] 7 e) s:=by
 obtain⟨v,st',⟨q,p,g,rfl,h1,h2⟩,hr⟩:=zfk (cmp:=cmp) (q0:=(B5 n).toArray) (g:=7) (N:=n) (P:=λ_ st'=> ∃q p g,st'=sst q p g/\q.Perm (B5 n).toArray/\(OdA cmp->SS cmp q 0 n)) (by simp) λq' p' g' a b=>⟨q',p',g',rfl,a,b⟩
 exact⟨q,⟨h1,h2⟩,λprog w A E e G Q s _ hc hs hQ=>hr prog w A E e G Q s hc hs λs' hg=>hQ _ s' rfl rfl hg⟩
open Classical in
noncomputable def perm(n:Nat)(cmp:Nat->Nat->Bool):List Nat:=if n<2 then B5 n else(z1U n λi j=>cmp (i %n) (j %n)).choose.toList
def perm_pm{n:Nat}{cmp:Nat->Nat->Bool}:(perm n cmp).Perm (B5 n):=by
 delta perm
 split
 .exact List.Perm.refl _
 .have:=(z1U n λi j=>cmp (i %n) (j %n)).choose_spec.1.1.toList
  simpa using this
def perm_len{n:Nat}{cmp:Nat->Nat->Bool}:(perm n cmp).length=n:=by simpa using(perm_pm (n:=n) (cmp:=cmp)).length_eq
def perm_lt{n:Nat}{cmp:Nat->Nat->Bool}: ∀i∈perm n cmp,i<n:=λi hi=>by simpa using perm_pm.mem_iff.mp hi
def zcL{vs:List bb}:(vs.toArray.zip vs.toArray).map (·.2)=vs.toArray:=by
 apply Array.ext_getElem?
 intro i
 by_cases hi:i<vs.length<;>simp[hi]
def z7h{vs:List bb}:(B5 vs.length).map (λi=>vs.getD i Value.none)=vs:=by
 apply List.ext_getElem?
 intro i
 by_cases hi:i<vs.length<;>simp[hi]
section
variable{prog:bm}{w:bo}{A:bq}{E:bb->bf->Prop}{s:bf}
theorem z45{a:Addr}{vs:List bb}{n:Nat}{cmp:Nat->Nat->Bool}{P:PySem.Fin->bf->Prop}(ho:s.heap.get? a=some (bI "list" vs.toArray n))(hz:vs.length<=qh)
 (hk: ∀h',(∀b o,b≠a->s.heap.get? b=some o->h'.get? b=some o)->2<=vs.length->∃κ,(∀(Q:SortKind->bf->Prop) E,Q κ {s with heap:=h'}->bg (bi prog w) A (keyKind' vs.toArray) Q E {s with heap:=h'})/\
  ∀i j (hi:i<vs.length) (hj:j<vs.length) (C:Bool->bf->Prop),C (cmp i j) {s with heap:=h'}->bg (bi prog w) A (keyLt' κ vs[i] vs[j]) C (λ_ _=>False) {s with heap:=h'})
 (h: ∀h' e1,(∀b o,b≠a->s.heap.get? b=some o->h'.get? b=some o)->h'.get? a=some (bI "list" ((perm vs.length cmp).map λi=>vs.getD i Value.none).toArray e1)->P (.done (.ret .none)) {s with heap:=h'}):
 bg (bi prog w) A (Builtin.«list.sort» ⟨[.ref a],[]⟩) P E s:=by
 have ha:a<s.heap.objs.size:=Heap.lt_size ho
 obtain⟨e1,ho1⟩: ∃e1,(s.heap.update a (Obj.mapSeq λ_=>(#[]:Array bb))).get? a=some (bI "list" #[] e1):=⟨_,get?_update_seq ho λ_=> #[]⟩
 have ho3:(((s.heap.update a (Obj.mapSeq λ_=>(#[]:Array bb))).push (bI "tuple" vs.toArray 0)).push (bI "list" #[] 0)).get? a=some (bI "list" #[] e1):=Heap.get?_push_of_some _ (Heap.get?_push_of_some _ ho1)
 have kept: ∀b o,b≠a->s.heap.get? b=some o->(((s.heap.update a (Obj.mapSeq λ_=>(#[]:Array bb))).push (bI "tuple" vs.toArray 0)).push (bI "list" #[] 0)).get? b=some o:=λb o hb q=>
  Heap.get?_push_of_some _ (Heap.get?_push_of_some _ ((Heap.get?_update_ne _ _ _ _ hb).trans q))
 rw[list_sort_plain]
 refine ba (listItems_at ho rfl ?_)
 refine ba (listUpdate_at ho rfl ?_ (by rw[l9];exact hz) (B7 _))
 refine ba (seqEpoch_at ho1 rfl ?_)
 refine ba (wpAny_newTuple ?_ (by show vs.length<=_;exact hz))
 refine ba (wpAny_newList ?_ (B7 _))
 refine br ?_
 show bg (bi prog w) A _ P E {s with heap:=((s.heap.update a (Obj.mapSeq λ_=>(#[]:Array bb))).push (bI "tuple" vs.toArray 0)).push (bI "list" #[] 0)}
 dsimp only
 generalize ((s.heap.update a (Obj.mapSeq λ_=>(#[]:Array bb))).push (bI "tuple" vs.toArray 0)).push (bI "list" #[] 0)=h1 at ho3 kept⊢
 have fin: ∀st':SortSt,(dS st').map (·.2)=((perm vs.length cmp).map λi=>vs.getD i Value.none).toArray->dI st'=none->bg (bi prog w) A (do
  let touched<-seqEpoch a
  Builtin.List.listUpdate (.ref a) λ_=>(dS st').map (·.2)
  if let some e:=dI st' then rule "list.sort.comparison-raised";throw e
  if(touched !=e1)=true then rule "list.sort.modified";raiseError "ValueError" "list modified during sort"
  ret .none) P E {s with heap:=h1}:=by
  intro st' har hf
  refine ba (seqEpoch_at ho3 rfl ?_)
  rw[har]
  have hsz:((perm vs.length cmp).map λi=>vs.getD i Value.none).toArray.size=vs.length:=by rw[l9,l0,perm_len]
  refine ba (listUpdate_at ho3 rfl ?_ (B7 _) (C1 (O9 hsz) ⋯))
  rw[hf]
  erw[bne_self_eq_false,t9,if_false]
  obtain⟨c2,hc2⟩: ∃c2,(h1.update a (Obj.mapSeq λ_=>((perm vs.length cmp).map λi=>vs.getD i Value.none).toArray)).get? a=some (bI "list" ((perm vs.length cmp).map λi=>vs.getD i Value.none).toArray c2):=⟨_,get?_update_seq ho3 λ_=>_⟩
  exact be (h _ c2 (λb o hb q=>(Heap.get?_update_ne _ _ _ _ hb).trans (kept b o hb q)) hc2)
 by_cases h2:vs.length<2
 .have h2':vs.toArray.size<2:=by simpa using h2
  rw[qw h2',qw h2']
  refine ba (be ?_)
  rw[StateT.run_pure]
  refine ba (be ?_)
  refine fin _ ?_ rfl
  show(vs.toArray.zip vs.toArray).map (·.2)=_
  delta perm
  rw[qw h2,zcL,z7h]
 .have h2': ¬vs.toArray.size<2:=by simpa using h2
  rw[qy h2',qy h2']
  obtain⟨κ,k1,k2⟩:=hk h1 kept ⋯
  refine ba (k1 _ _ ?_)
  have sz:(vs.toArray.zip vs.toArray).size=vs.length:=by simp
  have im_eq: ∀i,i<vs.length->im i (κ,vs.toArray.zip vs.toArray)=(vs.getD i Value.none,vs.getD i Value.none):=λi hi=>by
   delta im
   rw[sz,Nat.mod_eq_of_lt hi,kat_item rfl]
  have est:SortSt.mk' κ (vs.toArray.zip vs.toArray) #[] 7 none=sst (B5 vs.length).toArray #[] 7 (κ,vs.toArray.zip vs.toArray):=by
   delta sst ar
   have e:(B5 vs.length).toArray.map (λi=>im i (κ,vs.toArray.zip vs.toArray))=vs.toArray.zip vs.toArray:=by
    apply Array.ext_getElem?
    intro i
    by_cases hi:i<vs.length
    .rw[Array.getElem?_map]
     have:=im_eq i hi
     erw[List.getElem?_toArray,List.getElem?_range hi,l7,this]
     simp[hi]
    .simp[hi]
   rw[e]
  have run:=(z1U vs.length λi j=>cmp (i %vs.length) (j %vs.length)).choose_spec.2
  have hpe:perm vs.length cmp=(z1U vs.length λi j=>cmp (i %vs.length) (j %vs.length)).choose.toList:=by delta perm;rw[qy h2]
  have hlt: ∀i∈(z1U vs.length λi j=>cmp (i %vs.length) (j %vs.length)).choose,i<vs.length:=λi hi=>perm_lt i (by rw[hpe];simpa using hi)
  generalize (z1U vs.length λi j=>cmp (i %vs.length) (j %vs.length)).choose=q at run hpe hlt
  rw[est]
  have go:=run prog w A E (κ,vs.toArray.zip vs.toArray) (λs'=>s'={s with heap:=h1}) (λ_ st' s'=>dS st'=ar q (κ,vs.toArray.zip vs.toArray)/\dI st'=none/\s'={s with heap:=h1}) {s with heap:=h1} sz (λi j C s' hs hc=>by
   subst hs
   have l1:i %vs.length<vs.length:=Nat.mod_lt _ ⋯
   have l2:j %vs.length<vs.length:=Nat.mod_lt _ ⋯
   have hq:=k2 (i %vs.length) (j %vs.length) l1 l2 C (hc _ rfl)
   delta kas_cmp
   erw[sz,kat_item rfl]
   rw[show vs.getD (i %vs.length) Value.none=vs[i %vs.length] by simp[l1],show vs.getD (j %vs.length) Value.none=vs[j %vs.length] by simp[l2]]
   exact hq) rfl λst' s' ha hf hs=>⟨ha,hf,hs⟩
  refine ba (bA go ?_ λ_ _ e=>e)
  rintro ⟨⟨⟩,st'⟩ s' ⟨hst,hfa,hs⟩
  dsimp only at hst hfa⊢
  subst hs
  refine fin _ ?_ hfa
  rw[hpe,hst]
  apply Array.toList_inj.mp
  show((ar q (κ,vs.toArray.zip vs.toArray)).map (·.2)).toList=_
  delta ar
  rw[Array.map_map,Array.toList_map]
  exact D1 λi hi=>by show(im i (κ,vs.toArray.zip vs.toArray)).2=_;rw[im_eq i (hlt i (by simpa using hi))]
def call_sorted{l:Addr}{vs:List bb}{cmp:Nat->Nat->Bool}{Q:bb->bf->Prop}(hl:s.heap.IsList l vs.toArray)(hz:vs.length<=qh)
 (hk: ∀h',(∀b o,s.heap.get? b=some o->h'.get? b=some o)->2<=vs.length->∃κ,(∀(Q:SortKind->bf->Prop) E,Q κ {s with heap:=h'}->bg (bi prog w) A.in1.in1 (keyKind' vs.toArray) Q E {s with heap:=h'})/\
  ∀i j (hi:i<vs.length) (hj:j<vs.length) (C:Bool->bf->Prop),C (cmp i j) {s with heap:=h'}->bg (bi prog w) A.in1.in1 (keyLt' κ vs[i] vs[j]) C (λ_ _=>False) {s with heap:=h'})
 (h: ∀h' D e1,(∀b o,s.heap.get? b=some o->h'.get? b=some o)->s.heap.objs.size<=D->h'.get? D=some (bI "list" ((perm vs.length cmp).map λi=>vs.getD i Value.none).toArray e1)->Q (.ref D) {s with heap:=h'}):
 bg (bi prog w) A (call (.builtin "sorted") [.ref l]) Q E s:=by
 refine Calls.call_function_entry kind_sorted plain_sorted entry_sorted (args_sorted1 _) ?_
 delta Builtin.«sorted»
 refine ba (m:=checkCount "sorted" 1 1 _) (be ?_)
 refine ba (collect_list hl ?_ hz)
 refine ba (wpAny_newList ?_ hz)
 have hsz:((s.heap.push (bI "list" #[] 0)).update s.heap.objs.size (Obj.mapSeq (· ++vs.toArray))).objs.size=s.heap.objs.size+1:=by
  rw[Heap.size_update,size_push']
 have hoL:(((s.heap.push (bI "list" #[] 0)).update s.heap.objs.size (Obj.mapSeq (· ++vs.toArray))).push (bI "list" vs.toArray 0)).get? (s.heap.objs.size+1)=some (bI "list" vs.toArray 0):=by
  rw[<-hsz];exact Heap.get?_push_size _ rfl
 have keep: ∀b o,s.heap.get? b=some o->(((s.heap.push (bI "list" #[] 0)).update s.heap.objs.size (Obj.mapSeq (· ++vs.toArray))).push (bI "list" vs.toArray 0)).get? b=some o:=λb o q=>by
  have hlt:b<s.heap.objs.size:=Heap.lt_size q
  rw[Heap.get?_push_ne _ _ _ (by rw[hsz];exact B1 (F3 hlt)),Heap.get?_update_ne _ _ _ _ (B1 hlt),Heap.get?_push_ne _ _ _ (B1 hlt)]
  exact q
 show bg _ _ _ _ _ {s with heap:=((s.heap.push (bI "list" #[] 0)).update s.heap.objs.size (Obj.mapSeq (· ++vs.toArray))).push (bI "list" vs.toArray 0)}
 rw[hsz]
 have ne: ∀{b o},s.heap.get? b=some o->b≠s.heap.objs.size+1:=λq=>B1 (F3 (Heap.lt_size q))
 refine ba (br (bu slot_list_sort ⟨_,hoL,rfl⟩ entry_list_sort ?body (args_list_sort _)))
 case body=>
  refine z45 (s:={s with heap:=((s.heap.push (bI "list" #[] 0)).update s.heap.objs.size (Obj.mapSeq (· ++vs.toArray))).push (bI "list" vs.toArray 0)}) (cmp:=cmp) hoL hz (λh' kp h2=> ?_) λh' e1 kp hD=> ?_
  .exact hk h' (λb o q=>kp b o (ne q) (keep b o q)) h2
  .exact⟨_,rfl,be ⟨_,rfl,h h' _ e1 (λb o q=>kp b o (ne q) (keep b o q)) (Nat.le_succ _) hD⟩⟩
end
end So
namespace L2
open PySem PySem.Spec PyProof.Rows
mutual
noncomputable def Dp(K:W.Frag)(H:Hp):PyData->V->Prop
 | .none,v=>v= .non
 | .bool b,v=>v= .bl b
 | .int i,v=>v= .int i
 | .str x,v=>v= .str x
 | .list ds,v=> ∃a xs,v= .ref a/\SqL K H a xs/\DpAll K H ds xs
 | .tuple ds,v=> ∃a xs,v= .ref a/\SqT K H a xs/\DpAll K H ds xs
 | .dict _,_=>False
noncomputable def DpAll(K:W.Frag)(H:Hp):List PyData->List V->Prop
 |[],xs=>xs=[]
 |d::ds,xs=> ∃x r,xs=x::r/\Dp K H d x/\DpAll K H ds r
end
section
variable{X:Cx}{qx:List (Addr×bE)}{σ:St}{H:Hp}{s:bf}
mutual
theorem Dp.reads(I:Inv X qx σ H s): ∀(d:PyData) (v:V) (u:bb),Dp X.K H d v->RelV v u->∃as,fA s.heap u d as
 | .none,v,u,h,r=>by
  erw[Dp] at h;subst h;cases r;exact⟨_, .none⟩
 | .bool b,v,u,h,r=>by
  erw[Dp] at h;subst h;cases r;exact⟨_, .bool b⟩
 | .int i,v,u,h,r=>by
  erw[Dp] at h;subst h;obtain⟨t,rfl⟩:=r;exact⟨_, .int i t⟩
 | .str x,v,u,h,r=>by
  erw[Dp] at h;subst h;obtain⟨t,rfl⟩:=r;exact⟨_, .str x t⟩
 | .list ds,v,u,h,r=>by
  erw[Dp] at h
  obtain⟨a,xs,rfl,hs,hd⟩:=h
  cases r
  obtain⟨its,rv,⟨o,n,e,c,_,dd⟩,_⟩:=I.list hs
  obtain⟨as,ra⟩:=DpAll.reads I ds xs its hd rv
  exact⟨_, .list e c dd (by simpa using ra)⟩
 | .tuple ds,v,u,h,r=>by
  erw[Dp] at h
  obtain⟨a,xs,rfl,hs,hd⟩:=h
  cases r
  obtain⟨its,rv,⟨o,e,c,n,dd⟩,_⟩:=I.tuple hs
  obtain⟨as,ra⟩:=DpAll.reads I ds xs its hd rv
  exact⟨_, .tuple e c dd (by simpa using ra)⟩
 | .dict _,v,u,h,r=>by
  erw[Dp] at h
theorem DpAll.reads(I:Inv X qx σ H s): ∀(ds:List PyData) (vs:List V) (us:List bb),DpAll X.K H ds vs->U0 vs us->∃as,cU s.heap us ds as
 |[],vs,us,h,r=>by
  erw[DpAll] at h;subst h
  cases r
  exact⟨_, .nil⟩
 |d::ds,vs,us,h,r=>by
  erw[DpAll] at h
  obtain⟨x,q,rfl,h1,h2⟩:=h
  cases r with
  |cons r1 r2=>
   obtain⟨as,ra⟩:=Dp.reads I d _ _ h1 r1
   obtain⟨bs,rb⟩:=DpAll.reads I ds _ _ h2 r2
   exact⟨_, .cons ra rb⟩
end
noncomputable def zhu(K:W.Frag)(neg:Bool):R2:=λx y H Q=> ∃d e,Dp K H d x/\Dp K H e y/\d.canLay0=true/\e.canLay0=true/\min d.depth e.depth<=60/\
 Q (.bl (if neg then !PyData.eqv d e else PyData.eqv d e)) H
def zfl(hu:X.A.units+64<cLine):OpR X (bH .Eq) (zhu X.K false):=by
 intro qx s σ H x y v u Q I rx ry h
 obtain⟨d,e,hx,hy,c1,c2,hd,q⟩:=h
 obtain⟨as,ra⟩:=hx.reads I _ _ _ rx
 obtain⟨bs,rb⟩:=hy.reads I _ _ _ ry
 exact SeqAt.compareEq_reads ra rb c1 c2 ⋯ ⟨.bl _,H,I,rfl,q⟩
def zfm(hu:X.A.units+64<cLine):OpR X (bH .NotEq) (zhu X.K true):=by
 intro qx s σ H x y v u Q I rx ry h
 obtain⟨d,e,hx,hy,c1,c2,hd,q⟩:=h
 obtain⟨as,ra⟩:=hx.reads I _ _ _ rx
 obtain⟨bs,rb⟩:=hy.reads I _ _ _ ry
 exact SeqAt.compareNe_reads ra rb c1 c2 ⋯ ⟨.bl _,H,I,rfl,q⟩
noncomputable def zjs(K:W.Frag)(neg:Bool):R2:=λx y H Q=> ∃d ds,Dp K H d x/\(Dp K H (.list ds) y\/Dp K H (.tuple ds) y)/\d.canLay0=true/\PyData.canLayAll0 ds=true/\min (PyData.depthAll ds) d.depth<=60/\
 Q (.bl (if neg then !(ds.any λy=>PyData.eqv y d) else ds.any λy=>PyData.eqv y d)) H
def z8g(hu:X.A.units+64<cLine):OpR X (bH .NotIn) (zjs X.K true):=by
 intro qx s σ H x y v u Q I rx ry h
 obtain⟨d,ds,hx,hy,c1,c2,hd,q⟩:=h
 obtain⟨as,ra⟩:=hx.reads I _ _ _ rx
 rcases hy with hy|hy
 .obtain⟨bs,rb⟩:=hy.reads I _ _ _ ry
  exact SeqAt.notIn_list_reads rb ra c2 c1 ⋯ ⟨.bl _,H,I,rfl,q⟩
 .obtain⟨bs,rb⟩:=hy.reads I _ _ _ ry
  exact SeqAt.notIn_tuple_reads rb ra c2 c1 ⋯ ⟨.bl _,H,I,rfl,q⟩
noncomputable def zjt(K:W.Frag)(H:Hp)(T:String)(r:Bool):V->Prop
 | .non=>r=false
 | .bl _=>r=(T== "int" ||T== "bool")
 | .int _=>r=(T== "int")
 | .str _=>r=(T== "str")
 | .ref a=>(∃xs,SqT K H a xs/\r=(T== "tuple"))\/(∃xs,SqL K H a xs/\r=(T== "list"))
 |_=>False
noncomputable def zjX(K:W.Frag):List V->Hp->VK->Prop:=λxs H Q=> ∃x T r,xs=[x, .ty T]/\(T= "int" \/T= "bool" \/T= "tuple" \/T= "list" \/T= "str")/\zjt K H T r x/\Q (.bl r) H
def zae:CallR X (.builtin "isinstance") (zjX X.K):=by
 intro qx s σ H xs us Q I r h
 obtain⟨x,T,b,rfl,hT,hx,q⟩:=h
 obtain⟨u,u',rfl,ru,ru'⟩:=zcr r
 cases ru'
 have fin: ∀t,EP X qx σ Q (.bool b) {s with toks:=t}:=λt=>⟨.bl b,H,I.tok t,rfl,q⟩
 have fin0:EP X qx σ Q (.bool b) s:=⟨.bl b,H,I,rfl,q⟩
 cases x with
 |non=>
  cases ru
  have hx:b=false:=hx
  subst hx
  rcases hT with rfl|rfl|rfl|rfl|rfl
  .exact IsiPair.NoneType_int (fin _)
  .exact IsiPair.NoneType_bool (fin _)
  .exact IsiPair.NoneType_tuple (fin _)
  .exact IsiPair.NoneType_list (fin _)
  .exact IsiPair.NoneType_str (fin _)
 |bl k=>
  cases ru
  rcases hT with rfl|rfl|rfl|rfl|rfl
  .have hx:b=true:=hx
   subst hx;exact IsiPair.bool_int fin0
  .have hx:b=true:=hx
   subst hx;exact IsiPair.bool_bool fin0
  .have hx:b=false:=hx
   subst hx;exact IsiPair.bool_tuple (fin _)
  .have hx:b=false:=hx
   subst hx;exact IsiPair.bool_list (fin _)
  .have hx:b=false:=hx
   subst hx;exact IsiPair.bool_str (fin _)
 |int k=>
  obtain⟨t,rfl⟩:=ru
  rcases hT with rfl|rfl|rfl|rfl|rfl
  .have hx:b=true:=hx
   subst hx;exact IsiPair.int_int fin0
  .have hx:b=false:=hx
   subst hx;exact IsiPair.int_bool (fin _)
  .have hx:b=false:=hx
   subst hx;exact IsiPair.int_tuple (fin _)
  .have hx:b=false:=hx
   subst hx;exact IsiPair.int_list (fin _)
  .have hx:b=false:=hx
   subst hx;exact IsiPair.int_str (fin _)
 |str k=>
  obtain⟨t,rfl⟩:=ru
  rcases hT with rfl|rfl|rfl|rfl|rfl
  .have hx:b=false:=hx
   subst hx;exact IsiPair.str_int (fin _)
  .have hx:b=false:=hx
   subst hx;exact IsiPair.str_bool (fin _)
  .have hx:b=false:=hx
   subst hx;exact IsiPair.str_tuple (fin _)
  .have hx:b=false:=hx
   subst hx;exact IsiPair.str_list (fin _)
  .have hx:b=true:=hx
   subst hx;exact IsiPair.str_str fin0
 |ref a=>
  cases ru
  rcases hx with⟨ys,hs,hb⟩|⟨ys,hs,hb⟩
  .obtain⟨its,rv,⟨o,e,c,n,dd⟩,_⟩:=I.tuple hs
   rcases hT with rfl|rfl|rfl|rfl|rfl
   .have hx:b=false:=hb
    subst hx;exact IsiPair.tuple_int e c (fin _)
   .have hx:b=false:=hb
    subst hx;exact IsiPair.tuple_bool e c (fin _)
   .have hx:b=true:=hb
    subst hx;exact IsiPair.tuple_tuple e c fin0
   .have hx:b=false:=hb
    subst hx;exact IsiPair.tuple_list e c (fin _)
   .have hx:b=false:=hb
    subst hx;exact IsiPair.tuple_str e c (fin _)
  .obtain⟨its,rv,⟨o,n,e,c,_,dd⟩,_⟩:=I.list hs
   rcases hT with rfl|rfl|rfl|rfl|rfl
   .have hx:b=false:=hb
    subst hx;exact IsiPair.list_int e c (fin _)
   .have hx:b=false:=hb
    subst hx;exact IsiPair.list_bool e c (fin _)
   .have hx:b=false:=hb
    subst hx;exact IsiPair.list_tuple e c (fin _)
   .have hx:b=true:=hb
    subst hx;exact IsiPair.list_list e c fin0
   .have hx:b=false:=hb
    subst hx;exact IsiPair.list_str e c (fin _)
 |byt _=>exact hx.elim
 |flt _=>exact hx.elim
 |ty _=>exact hx.elim
theorem z2R: ∀{bs:List Bool} {us:List bb},U0 (bs.map V.bl) us->LSm.BoolsAre us bs
 |[],_, .nil=> .nil
 |b::bs,_, .cons r t=>by
  cases r
  exact .cons b (z2R t)
def z8h(hc:X.A.handled=none):CallR X (.builtin "any") (λxs H Q=> ∃(p:Addr) (bs:List Bool),xs=[.ref p]/\SqL X.K H p (bs.map V.bl)/\Q (.bl (bs.any id)) H):=by
 intro qx s σ H xs us Q I r h
 obtain⟨p,bs,rfl,hs,q⟩:=h
 obtain⟨u,rfl,ru⟩:=z3Z r
 cases ru
 obtain⟨its,rv,pl,_⟩:=I.list hs
 have hb:=z2R rv
 have hl:=pl.isList
 have hlt:p<s.heap.objs.size:=by obtain⟨_,e,_⟩:=hl;exact Heap.lt_size e
 refine call_any_walk (cD hl ?_)
 refine⟨s.heap.objs.size,[s.heap.objs.size,p],[s.heap.objs.size],its.toArray.size,_,_,λi=>(bs[i]?).getD false,rfl,Walks.list (A:=X.A.in1) hc _ p (B1 hlt) its.toArray,
  ⟨⟨_,Heap.get?_push_size _ rfl,rfl,rfl⟩,hl.push _⟩,λi v s' Q' E' hP hQ=> ?_,λh' tk hk=> ?_⟩
 .obtain⟨b,e,rfl⟩:=hb.get i v (by simpa using hP)
  erw[e,B2] at hQ
  exact cj hQ
 .have e:((B5 its.toArray.size).any λi=>(bs[i]?).getD false)=bs.any id:=by
   rw[l9,hb.length];exact LSm.range_any bs
  rw[e]
  exact⟨.bl _,H,I.kept (LSm.kept_iter hk),rfl,q⟩
end
end L2
namespace HT
open PySem PyProof.Rows
section
variable{prog:bm}{w:bo}{A:bq}{E:bb->bf->Prop}{s:bf}
def getItem_tuple_whole{t sl:Addr}{items:Array bb}{vl vu:bb}{lo hi:Option Int}{Q:bb->bf->Prop}(ht:fy s.heap t items)(hs:s.heap.IsSliceOf sl vl vu .none)(pl:cJ vl lo)(pu:cJ vu hi)
 (hw:sIx items.size 0 lo=0/\sIx items.size items.size hi=items.size) (h:Q (.ref t) s):bg (bi prog w) A (cw (.ref t) (.ref sl)) Q E s:=by
 obtain⟨os,hos,hcs,hds⟩:=id hs
 have hTs:s.TypeIs (.ref sl) "slice" :=⟨os,hos,hcs⟩
 delta cw
 try with_reducible refine br ?_
 first|refine ba (be ?_)|skip
 refine ba (dE ht.typeIs (by decide) ?_)
 refine ba (wpAny_callSpecial?_slot (name:=Str.ofString "__getitem__") ht.typeIs PyProof.Rows.slot_tuple_getitem
  (bu PyProof.Rows.slot_tuple_getitem ht.typeIs df ?_ (dt _ _)))
 show bg _ _ (Builtin.Tuple.tupleItemsOf (.ref t)>>=_) _ _ s
 refine ba (tupleItemsOf_ ht ?_)
 refine ba (dF hTs ?_)
 rw[qw (by decide)]
 refine ba (z0Q hs pl pu ?_)
 have hyes:((((sIx items.size 0 lo:Nat):Int)==0&&(1:Int)==1&&(sIx items.size items.size hi -sIx items.size 0 lo)==items.size)=true):=by
  rw[hw.1,hw.2]
  simp
 show bg _ _ (if(((sIx items.size 0 lo:Nat):Int)==0&&(1:Int)==1&&(sIx items.size items.size hi -sIx items.size 0 lo)==items.size)=true then _ else _) _ _ s
 rw[qw hyes]
 obtain⟨o,ho,hc,n,hd⟩:=id ht
 have ex:Builtin.Tuple.tupleIsExact (.ref t)=(dN (.ref t)>>=λT=>pure (T== .type "tuple")):=rfl
 refine ba (m:=Builtin.Tuple.tupleIsExact (.ref t)) ?_
 rw[ex]
 refine ba (dF ht.typeIs (be ?_))
 rw[qw (by decide)]
 exact ba (dm (be ⟨_,rfl,be h⟩))
end
end HT
namespace L2
open PySem PySem.Spec PyProof.Rows
section
variable{X:Cx}
def z7i{xs:List V}{lo hi:Option Int}(h:HT.sIx xs.length 0 lo=0/\HT.sIx xs.length xs.length hi=xs.length):z81 xs lo hi=xs:=by
 delta z81
 rw[h.1,h.2]
 simp
noncomputable def zfn(K:W.Frag):V->List V->Hp->VK->Prop:=λx vs H Q=> ∃l b xs zs,x= .ref l/\vs=[.ref b]/\H l=some (.lst xs)/\(SqT K H b zs\/SqL K H b zs)/\xs.length+zs.length<=qh/\Q .non (upd H l (.lst (xs++zs)))
def z8i(l:Addr)(items:Array bb)(n:Nat)(b:Addr)(items2:Array bb)(n2:Nat)(dd2:Option Addr)(sl2:Array (Option bb))(hs0: ¬(!items.isEmpty&&Builtin.List.listTooLong (items.size+items2.size))=true)(hs1:items.size<=qh)(hs2:items.size+items2.size<=qh+1):
 Meets (Builtin.«list.extend» ⟨[.ref l, .ref b],[]⟩) (λ_ R s=>s.heap.get? l=some {cls:= .type "list",dict:=none,data:= .seq items n,slots:= #[]}/\s.heap.get? b=some {cls:= .type "tuple",dict:=dd2,data:= .seq items2 n2,slots:=sl2}/\R (.ok (.ret Value.none)) {s with heap:=s.heap.update l (Obj.mapSeq λx=>x++items2),toks:=s.toks}):=
 .of_wp λprog w A R s h=>by
  obtain⟨hp,g,d,tk,os⟩:=s;obtain⟨hl,hb,h⟩:=h;have f1:=AutoSeq1.idx_int;have f2:=AutoSeq1.sub_tuple_tuple;have f3:=AutoSeq1.sub_list_list;have f4:=AutoSeq1.sub_tuple_list;have f5:=AutoSeq1.sub_list_tuple
  have hz':(items++items2).size<=qh+1:=by rw[Array.size_append];exact hs2
  wp_walk using(wpAny_updateSeq hl rfl (hz:=hs1) (_hz':=hz')),AutoSeq1.wpAny_loadPart' hl,AutoSeq1.wpAny_loadPart' hb;exact⟨_,rfl,h⟩
def z8j(l:Addr)(items:Array bb)(n:Nat)(b:Addr)(items2:Array bb)(n2:Nat)(dd2:Option Addr)(sl2:Array (Option bb))(hs0: ¬(!items.isEmpty&&Builtin.List.listTooLong (items.size+items2.size))=true)(hs1:items.size<=qh)(hs2:items.size+items2.size<=qh+1):
 Meets (Builtin.«list.extend» ⟨[.ref l, .ref b],[]⟩) (λ_ R s=>s.heap.get? l=some {cls:= .type "list",dict:=none,data:= .seq items n,slots:= #[]}/\s.heap.get? b=some {cls:= .type "list",dict:=dd2,data:= .seq items2 n2,slots:=sl2}/\R (.ok (.ret Value.none)) {s with heap:=s.heap.update l (Obj.mapSeq λx=>x++items2),toks:=s.toks}):=
 .of_wp λprog w A R s h=>by
  obtain⟨hp,g,d,tk,os⟩:=s;obtain⟨hl,hb,h⟩:=h;have f1:=AutoSeq1.idx_int;have f2:=AutoSeq1.sub_tuple_tuple;have f3:=AutoSeq1.sub_list_list;have f4:=AutoSeq1.sub_tuple_list;have f5:=AutoSeq1.sub_list_tuple
  have hz':(items++items2).size<=qh+1:=by rw[Array.size_append];exact hs2
  wp_walk using(wpAny_updateSeq hl rfl (hz:=hs1) (_hz':=hz')),AutoSeq1.wpAny_loadPart' hl,AutoSeq1.wpAny_loadPart' hb;exact⟨_,rfl,h⟩
def zcM:MtM X "list.extend" (zfn X.K):=by
 intro qx s σ H x vs v us Q I rx rv h
 obtain⟨l,b,xs,zs,rfl,rfl,hH,hB,hz,q⟩:=h
 cases rx
 obtain⟨u,rfl,ru⟩:=rv.one
 cases ru
 obtain⟨z,its,n,r,hl,e⟩:=I.lstM hH
 have key: ∃its2:List bb,U0 zs its2/\((∃dd2 n2 sl2,s.heap.get? b=some {cls:= .type "tuple",dict:=dd2,data:= .seq its2.toArray n2,slots:=sl2})\/(∃dd2 n2 sl2,s.heap.get? b=some {cls:= .type "list",dict:=dd2,data:= .seq its2.toArray n2,slots:=sl2})):=by
  rcases hB with hB|hB
  .obtain⟨its2,r2,⟨⟨cls,dd,data,sl⟩,e2,c,n2,d2⟩,_⟩:=I.tuple hB
   simp only at c d2
   subst c d2
   exact⟨its2,r2, .inl ⟨_,_,_,e2⟩⟩
  .obtain⟨its2,r2,⟨⟨cls,dd,data,sl⟩,n2,e2,c,_,d2⟩,_⟩:=I.list hB
   simp only at c d2
   subst c d2
   exact⟨its2,r2, .inr ⟨_,_,_,e2⟩⟩
 obtain⟨its2,r2,k⟩:=key
 have hl2:=r2.length
 have hsz:its.toArray.size+its2.toArray.size<=qh:=by rw[l9,l9];lia
 have hlong: ¬(!its.toArray.isEmpty&&Builtin.List.listTooLong (its.toArray.size+its2.toArray.size))=true:=by
  rw[za3 hsz,u0l]
  exact A5
 have fin:EP X qx σ Q .none {s with heap:=s.heap.update l (Obj.mapSeq λx=>x++its2.toArray),toks:=s.toks}:=by
  refine⟨.non,_,I.lset (its':=its++its2) hH e (by simp) (r.append r2) ?_,rfl,q⟩
  rw[l8]
  lia
 rcases k with⟨dd2,n2,sl2,e2⟩|⟨dd2,n2,sl2,e2⟩
 .exact du F.slot_list_extend ⟨_,e,rfl⟩ F.entry_list_extend (F.args_list_extend_2 _ _) (z8i l its.toArray n b its2.toArray n2 dd2 sl2 hlong (by rw[l9];lia) ⋯) ⟨e,e2,fin⟩
 .exact du F.slot_list_extend ⟨_,e,rfl⟩ F.entry_list_extend (F.args_list_extend_2 _ _) (z8j l its.toArray n b its2.toArray n2 dd2 sl2 hlong (by rw[l9];lia) ⋯) ⟨e,e2,fin⟩
end
noncomputable def z2S(env:dn):List (Str×bS)->List (Str×Addr)->List (Str×Addr)
 |[],cs=>cs
 |(n,k)::r,cs=>z2S env r (if k== .free then(match env.cells.lookup n with|some a=>(n,a)::cs|none=>cs) else cs)
theorem z6B{env:dn}: ∀(names:List (Str×bS)) (cs:List (Str×Addr)),(∀y∈names,y.2= .free->∃a,env.cells.lookup y.1=some a)->
 (forIn names cs λ(x:Str×bS) (r:List (Str×Addr))=>if(x.2==NameKind.free)=true then cellOf env x.1>>=λa=>pure (ForInStep.yield ((x.1,a)::r)) else pure (ForInStep.yield r))=(pure (z2S env names cs):cN _)
 |[],cs,_=>rfl
 |(n,k)::r,cs,h=>by
  have ih:=λcs=>z6B (env:=env) r cs λy hy=>h y (i5 _ hy)
  rw[u0h]
  show((if(k==NameKind.free)=true then cellOf env n>>=λa=>pure (ForInStep.yield ((n,a)::cs)) else pure (ForInStep.yield cs))>>=_)=pure (z2S env r (if k== .free then(match env.cells.lookup n with|some a=>(n,a)::cs|none=>cs) else cs))
  by_cases hk:(k==NameKind.free)=true
  .obtain⟨a,e⟩:=h (n,k) l5 (by simpa using hk)
   have e:env.cells.lookup n=some a:=e
   rw[qw hk,qw hk,e]
   have e2:cellOf env n=pure a:=by delta cellOf;rw[e]
   rw[e2]
   exact ih _
  .rw[qy hk,qy hk]
   exact ih _
def z46{env:dn}{scope:Scope}(h: ∀y∈scope.names,y.2= .free->∃a,env.cells.lookup y.1=some a):closureFor scope env=pure (z2S env scope.names []):=by
 have e:=z6B (env:=env) scope.names [] h
 exact congrArg (λ(m:cN (List (Str×Addr)))=>m>>=λcs=>pure cs) e
theorem z47{env:dn}{x:Str}{c:Addr}: ∀(names:List (Str×bS)) (cs:List (Str×Addr)),(z2S env names cs).lookup x=some c->
 cs.lookup x=some c\/(env.cells.lookup x=some c/\(x,NameKind.free)∈names)
 |[],cs,h=> .inl h
 |(n,k)::r,cs,h=>by
  rcases z47 r _ h with q|⟨q,m⟩
  .by_cases hk:(k==NameKind.free)=true
   .rw[qw hk] at q
    cases e:env.cells.lookup n with
    |none=>rw[e] at q;exact .inl q
    |some a=>
     rw[e] at q
     have q:((n,a)::cs).lookup x=some c:=q
     rw[A9] at q
     by_cases hx:(x==n)=true
     .rw[hx] at q
      have q:some a=some c:=q
      cases q
      have hx:x=n:=eq_of_beq hx
      subst hx
      have hk:k= .free:=eq_of_beq hk
      subst hk
      exact .inr ⟨e,l5⟩
     .have hx:(x==n)=false:=by simpa using hx
      rw[hx] at q
      exact .inl q
   .rw[qy hk] at q
    exact .inl q
  .exact .inr ⟨q,i5 _ m⟩
theorem z2T{env:dn}{x:Str}: ∀(names:List (Str×bS)) (cs:List (Str×Addr)),(((∃c,cs.lookup x=some c))\/((x,NameKind.free)∈names/\∃c,env.cells.lookup x=some c))->
 ∃c,(z2S env names cs).lookup x=some c
 |[],cs,h=>by
  rcases h with h|⟨m,_⟩
  .exact h
  .cases m
 |(n,k)::r,cs,h=>by
  refine z2T r _ ?_
  rcases h with⟨c,hc⟩|⟨m,c,hc⟩
  .left
   by_cases hk:(k==NameKind.free)=true
   .rw[qw hk]
    cases e:env.cells.lookup n with
    |none=>exact⟨c,hc⟩
    |some a=>
     by_cases hx:(x==n)=true
     .exact⟨a,by show((n,a)::cs).lookup x=some a;rw[A9,hx]⟩
     .have hx:(x==n)=false:=by simpa using hx
      exact⟨c,by show((n,a)::cs).lookup x=some c;rw[A9,hx];exact hc⟩
   .rw[qy hk]
    exact⟨c,hc⟩
  .rcases l6.mp m with e|m
   .left
    cases e
    rw[qw (by decide),hc]
    exact⟨c,by show((x,c)::cs).lookup x=some c;rw[A9,beq_self_eq_true]⟩
   .exact .inr ⟨m,c,hc⟩
theorem K8{env:dn}: ∀{names:List (Str×bS)} {x:Str},names.lookup x=some .free->
 (names.map λ(n,k)=>if(k==NameKind.free&&env.scope.kind== .function&&env.kindOf n==some .cell) then(n,NameKind.cell) else(n,k)).lookup x=some .cell\/
 (names.map λ(n,k)=>if(k==NameKind.free&&env.scope.kind== .function&&env.kindOf n==some .cell) then(n,NameKind.cell) else(n,k)).lookup x=some .free
 |[],_,h=>by simp at h
 |(n,k)::r,x,h=>by
  have ih:= @K8 env r x
  rw[i6]
  show S7 x ((if(k==NameKind.free&&env.scope.kind== .function&&env.kindOf n==some .cell)=true then(n,NameKind.cell) else(n,k))::_)=_\/S7 x ((if(k==NameKind.free&&env.scope.kind== .function&&env.kindOf n==some .cell)=true then(n,NameKind.cell) else(n,k))::_)=_
  cases hx:x==n with
  |true=>
   erw[A9,hx] at h
   cases h
   by_cases hc:(NameKind.free==NameKind.free&&env.scope.kind== .function&&env.kindOf n==some .cell)=true
   .rw[qw hc];left;erw[A9,hx]
   .rw[qy hc];right;erw[A9,hx]
  |false=>
   erw[A9,hx] at h
   by_cases hc:(k==NameKind.free&&env.scope.kind== .function&&env.kindOf n==some .cell)=true
   .rw[qw hc];erw[A9,hx];exact ih h
   .rw[qy hc];erw[A9,hx];exact ih h
theorem z0p{env:dn}: ∀{names:List (Str×bS)} {x:Str},((names.map λ(n,k)=>if(k==NameKind.free&&env.scope.kind== .function&&env.kindOf n==some .cell) then(n,NameKind.cell) else(n,k)).lookup x=some .cell\/
 (names.map λ(n,k)=>if(k==NameKind.free&&env.scope.kind== .function&&env.kindOf n==some .cell) then(n,NameKind.cell) else(n,k)).lookup x=some .free)->names.lookup x=some .free\/names.lookup x=some .cell
 |[],_,h=>by simp at h
 |(n,k)::r,x,h=>by
  have ih:= @z0p env r x
  rw[i6] at h
  have h:S7 x ((if(k==NameKind.free&&env.scope.kind== .function&&env.kindOf n==some .cell)=true then(n,NameKind.cell) else(n,k))::_)=_\/S7 x ((if(k==NameKind.free&&env.scope.kind== .function&&env.kindOf n==some .cell)=true then(n,NameKind.cell) else(n,k))::_)=_:=h
  cases hx:x==n with
  |true=>
   erw[A9,hx]
   by_cases hc:(k==NameKind.free&&env.scope.kind== .function&&env.kindOf n==some .cell)=true
   .have:k= .free:=by
     erw[A3,beq_iff_eq] at hc
     exact hc.1.1
    subst this
    exact .inl rfl
   .rw[qy hc] at h
    erw[A9,hx] at h
    exact h.symm
  |false=>
   erw[A9,hx]
   refine ih ?_
   by_cases hc:(k==NameKind.free&&env.scope.kind== .function&&env.kindOf n==some .cell)=true
   .rw[qw hc] at h;erw[A9,hx] at h;exact h
   .rw[qy hc] at h;erw[A9,hx] at h;exact h
noncomputable def compCx(X:Cx)(scope:Scope)(own qj:List Str)(cl:List (Str×Addr))(C:Addr)(s₀:bf)(H₀:Hp)(fp:List Addr)(pn:List (Addr×bE)):Cx:=
 {X with N:=own++qj,s₀:=s₀,H₀:=H₀,env:=compEnvC scope cl C X.env,outer:=X.stack,stack:=X.stack,ex:=fp,fn:=λ_=>false,pn:=pn,xe:=λ_ _=>False}
noncomputable def z1E(k:Nat)(ix:List Nat)(σ:St):St:=A8 k none++ix.map λi=>(σ[i]?).getD none
section
variable{X:Cx}{tg iter elt:bh}{pos:bT}{scope:Scope}{own qj:List Str}{ix:List Nat}{wi:TI}{g:TG}{te:TE}
def z7j(k:Nat)(ix:List Nat)(σ:St):(z1E k ix σ).length=k+ix.length:=by
 delta z1E
 simp
def zaf{qx pins':List (Addr×bE)}{σ σ':St}{H H':Hp}{s s':bf}{h':Heap}{fp:List Addr}{cl:List (Str×Addr)}{C:Addr}(I:Inv X qx σ H s)(hf: ∀b∈fp,z76 X qx H b)(hC:s.heap.objs.size<=C)
 (J:Inv (compCx X scope own qj cl C s H fp (X.pn++qx)) pins' σ' H' s') (hs:Heap.SameBut C s'.heap h'):Inv X qx σ H' {s' with heap:=h'}:=by
 have nC: ∀b,b<s.heap.objs.size->b≠C:=λb q e=>by subst e;exact absurd q (P4.mpr hC)
 refine I.call' (ch:=fp) J.os ⟨λb o e n hb hx=> ?_,λb o e n hb hx=> ?_,J.base.free,λb o e hx=> ?_,J.base.tups,J.base.frzs,J.base.tbls⟩ ?_ J.bare λb z=>⟨(hf b z).2.2.2.1,(hf b z).2.1,(hf b z).2.2.2.2.1,(hf b z).2.2.2.2.2⟩
 .exact(hs.2 b (nC b (Heap.lt_size e))).trans (J.base.keep b o e n hb hx)
 .obtain⟨sl,q⟩:=J.base.slot b o e n hb hx
  exact⟨sl,(hs.2 b (nC b (Heap.lt_size e))).trans q⟩
 .obtain⟨o',q⟩:=J.base.there b o e hx
  exact⟨o',(hs.2 b (nC b (Heap.lt_size e))).trans q⟩
 .intro a o e
  refine(J.hok a o e).stay (λb u hbu q=> ?_) (λ_ q=>q) λ_ _ q=>q
  refine(hs.2 b ?_).trans q
  intro eb
  subst eb
  have hfree:H' b=none:=J.free
  rcases hbu with rfl|z
  .rw[e] at hfree;cases hfree
  .rw[z] at hfree;cases hfree
end
end L2
namespace PySem
section
variable{prog:bm}{w:bo}{A:bq}{E:bb->bf->Prop}{s:bf}
def z2U{d:Addr}{o:bE}{es:Array bR}{ep:Nat}{Q:bb->bf->Prop}(hd:(d==bz)=false)(ho:s.heap.get? d=some o)(hc:o.ExactDict)(hdat:o.data= .dict es ep)
 (hQ:Q (.ref s.heap.objs.size) {s with heap:=s.heap.push {cls:= .type "dict_keyiterator",data:= .fields #[.ref d, .int 0 0, .int es.size 0, .int ep 0]}}):
 bg (bi prog w) A (fc (.ref d)) Q E s:=by
 have hT:s.TypeIs (.ref d) "dict" :=⟨o,ho,hc.1⟩
 refine dJ hT F.slot_dict_iter (bu F.slot_dict_iter hT F.entry_dict_iter ?_ (F.args_dict_iter_1 _))
 delta Builtin.«dict.__iter__»
 refine ba ?_
 delta Builtin.Dict.dictSlotNone
 refine ba (cP hT ?_)
 show bg _ _ (pure (Value.ref d)) _ _ s
 refine be ?_
 show bg _ _ (Builtin.Dict.showsAll d>>=_) _ _ s
 delta Builtin.Dict.showsAll
 rw[qy (by rw[hd];exact A5)]
 refine ba (be ?_)
 refine ba (bM ho hdat ?_)
 refine ba (bX ho hdat ?_)
 refine ba (bp (be ⟨_,rfl, "dict_keyiterator",_,⟨_,Heap.get?_push_size _ rfl,rfl⟩,F.slot_dict_keyiterator_next.lookup, ?_⟩))
 simpa[cS] using hQ
def z2V{it d:Addr}{i ep:Nat}{od:bE}{es:Array bR}{en:bR}{Q:Option bb->bf->Prop}(hit:s.heap.IsKeyIter it d i es.size ep)
 (hod:s.heap.get? d=some od) (hdd:od.data= .dict es ep) (hx:es[i]? =some en)
 (hQ: ∀h',h'.IsKeyIter it d (i+1) es.size ep->Heap.SameBut it s.heap h'->Q (some en.key) {s with heap:=h'}):
 bg (bi prog w) A (cm (.ref it)) Q E s:=by
 obtain⟨o,ho,hc,hd⟩:=id hit
 delta cm
 refine ba (cp (wpAny_callSpecial?_slot (name:=Str.ofString "__next__") hit.typeIs F.slot_dict_keyiterator_next
  (bu F.slot_dict_keyiterator_next hit.typeIs F.entry_dict_keyiterator_next ?_ (F.args_dict_keyiterator_next_1 _))))
 refine ba (be ?_)
 refine ba ?_
 refine ba ?_
 first|refine ba (bD hit.typeIs (be ?_))|refine ba (bQ hit.typeIs (be ?_))
 refine ba (bZ ho hd ?_)
 have hown:Builtin.Dict_items.ownsTuple "dict_keyiterator" =false:=by decide
 erw[hown,t9,if_false]
 show bg _ _ (if(Value.ref d==Value.none)=true then _ else _) _ _ s
 rw[qy (show ¬((Value.ref d==Value.none)=true) from A5)]
 refine ba (be ?_)
 refine ba (bM hod hdd ?_)
 rw[qy (by simp)]
 refine ba (be ?_)
 refine ba (bX hod hdd ?_)
 rw[qy (by simp)]
 refine be ?_
 have hlt':i<es.size:=by
  rcases R8 i es.size with h|h
  .exact h
  .simp[Array.getElem?_eq_none h] at hx
 have hkey:es[i]=en:=by
  rw[Array.getElem?_eq_getElem hlt'] at hx
  exact Option.some.inj hx
 erw[show ¬((i:Int)<0) from by lia,if_false,L7,Array.getElem?_eq_getElem hlt']
 refine ba ?_
 first|refine ba (bD hit.typeIs (be ?_))|refine ba (bQ hit.typeIs (be ?_))
 refine ba (cQ hit.typeIs ?_)
 show bg _ _ (fk (.ref it) 1 (cS ((i:Int)+1))>>=_) _ _ s
 refine ba (cW ho hd (by simp) ?_)
 have hit':(s.heap.update it (Obj.mapFields (·.setIfInBounds 1 (cS ((i:Int)+1))))).IsKeyIter it d (i+1) es.size ep:=
  ⟨_,Heap.get?_update_self _ ho (Obj.isFreed_of_fields (Obj.data_mapFields hd _)),(Obj.cls_mapFields ..).trans hc,by rw[Obj.data_mapFields hd];simp[cS]⟩
 refine ba (br ?_)
 refine ba (cQ (s:={s with heap:=s.heap.update it (Obj.mapFields (·.setIfInBounds 1 (cS ((i:Int)+1))))}) hit'.typeIs ?_)
 show bg _ _ (pure es[i].key) _ _ _
 rw[hkey]
 exact be (be ⟨_,rfl,be (hQ _ hit' (Heap.SameBut.update ..))⟩)
def z3u{it d:Addr}{i ep:Nat}{od:bE}{es:Array bR}{Q:Option bb->bf->Prop}(hh:A.handled=none)(hit:s.heap.IsKeyIter it d i es.size ep)
 (hod:s.heap.get? d=some od) (hdd:od.data= .dict es ep) (hge:es.size<=i)
 (hQ: ∀h',Heap.ExtBut it s.heap h'->Q none {s with heap:=h'}):bg (bi prog w) A (cm (.ref it)) Q E s:=by
 obtain⟨o,ho,hc,hd⟩:=id hit
 delta cm
 refine ba (cp (wpAny_callSpecial?_slot (name:=Str.ofString "__next__") hit.typeIs F.slot_dict_keyiterator_next
  (bu F.slot_dict_keyiterator_next hit.typeIs F.entry_dict_keyiterator_next ?_ (F.args_dict_keyiterator_next_1 _))))
 refine ba (be ?_)
 refine ba ?_
 refine ba ?_
 first|refine ba (bD hit.typeIs (be ?_))|refine ba (bQ hit.typeIs (be ?_))
 refine ba (bZ ho hd ?_)
 have hown:Builtin.Dict_items.ownsTuple "dict_keyiterator" =false:=by decide
 erw[hown,t9,if_false]
 show bg _ _ (if(Value.ref d==Value.none)=true then _ else _) _ _ s
 rw[qy (show ¬((Value.ref d==Value.none)=true) from A5)]
 refine ba (be ?_)
 refine ba (bM hod hdd ?_)
 rw[qy (by simp)]
 refine ba (be ?_)
 refine ba (bX hod hdd ?_)
 rw[qy (by simp)]
 refine be ?_
 erw[show ¬((i:Int)<0) from by lia,if_false,L7,Array.getElem?_eq_none hge]
 refine ba ?_
 first|refine ba (bD hit.typeIs (be ?_))|refine ba (bQ hit.typeIs (be ?_))
 show bg _ _ (fk (.ref it) 0 .none>>=_) _ _ s
 refine ba (cW ho hd (by simp) ?_)
 show bg _ _ (newExc (.type "StopIteration") []>>=_) _ _ _
 refine ba ?_
 erw[newExc,newTuple]
 refine ba (bp ?_ (by size_fits))
 refine ba (m:=cz _ _) (wpAny_of_eq (a:=Value.none) (by first|rfl|(erw[cz];rfl)) ?_)
 refine bp ?_ (by size_fits)
 erw[raiseNew]
 refine ba (wpAny_handled ?_)
 rw[show A.in1.handled=none from hh]
 refine ba (be (wpAny_throw ?_))
 refine ba (cF (T:= "StopIteration") (b:=true) ⟨_,Heap.get?_push_size _ rfl,rfl⟩ isSubtype_stop ?_)
 exact be (hQ _ (((Heap.SameBut.update ..).extBut.push _).push _))
end
end PySem
namespace L2
open PySem PySem.Spec PyProof.Rows
noncomputable def ItD(a:Addr)(o:bE)(kvs:List (NK×V)):It:=
 ⟨λi H=>i<kvs.length/\H a=some (.frz o (.dT kvs)),λi H x H'=>H'=H/\∃b k v,x= .ref b/\kvs[i]? =some (k,v)/\TK H k b,λi H=>kvs.length<=i/\H a=some (.frz o (.dT kvs))⟩
def zbC{P:bm}{w:bo}{H:Hp}{h:Heap}{a:Addr}{o:bE}{kvs:List (NK×V)}(ok:HOk P w H h)(e:H a=some (.frz o (.dT kvs))):
 h.get? a=some o/\(a==bz)=false/\o.ExactDict/\∃es ep,o.data= .dict es ep/\es.size=kvs.length/\
  ∀(i:Nat) (k:NK) (v:V),kvs[i]? =some (k,v)->∃en b,es[i]? =some en/\en.key= .ref b/\TK H k b:=by
 obtain⟨ho,z,y,xs,r,o',es,ep,e',c,d,l,nd⟩:=ok a _ e
 rw[ho] at e'
 cases e'
 have hl:kvs.length=xs.length:=Paired.length r
 have hs:es.size=xs.length:=cM l
 refine⟨ho,y,c,es,ep,d,⋯,λi k v q=> ?_⟩
 have key: ∀{kvs:List (NK×V)} {xs:List (NK×Addr×bb)},bJ (λ(p:NK×V) (q:NK×Addr×bb)=>p.1=q.1/\TK H p.1 q.2.1/\RelV p.2 q.2.2) kvs xs->
  ∀(i:Nat),kvs[i]? =some (k,v)->∃b u,xs[i]? =some (k,b,u)/\TK H k b:=by
  intro kvs xs r
  induction r with
  |nil=>intro i q;simp at q
  | @cons p x l1 l2 h1 h2 ih=>
   intro i q
   cases i with
   |zero=>
    erw[List.getElem?_cons_zero,Option.some.injEq] at q
    subst q
    obtain⟨e1,e2,_⟩:=h1
    obtain⟨x1,x2,x3⟩:=x
    have e1:k=x1:=e1
    subst e1
    exact⟨x2,x3,rfl,e2⟩
   |succ j=>
    erw[List.getElem?_cons_succ] at q
    obtain⟨b,u,q1,q2⟩:=ih j q
    exact⟨b,u,by simpa using q1,q2⟩
 obtain⟨b,u,q1,q2⟩:=key r i q
 have hi:=entry_at l i
 rw[q1] at hi
 exact⟨_,b,hi,rfl,q2⟩
def z8k{P:bm}{w:bo}{K:W.Frag}{tg:bh}(a it:Addr)(o:bE)(es:Array bR)(ep:Nat)(hd:o.data= .dict es ep)(kvs:List (NK×V)):
 zcm P w K tg (ItD a o kvs) [it] it (λi h=>h.IsKeyIter it a i es.size ep) where
 mem:=by simp
 obj:=λi h st b hb=>by
  have e:b=it:=by simpa using hb
  subst e
  obtain⟨o,e,c,d⟩:=st
  exact⟨o,e,λv z=>by rw[d] at z;cases z⟩
 keep:=λi h h' st k=>st.at λo e=>k it (by simp) o e
 item:=by
  intro X hP hw hK hc i qx s σ H E I hf st hg
  subst hP hw hK
  obtain⟨hi,hq⟩:=hg
  obtain⟨ho,_,_,es',ep',hd',hsz,hat⟩:=zbC I.hok hq
  rw[hd] at hd'
  cases hd'
  obtain⟨f0,f1,f2,f3,f4,f5⟩:=hf it (by simp)
  obtain⟨⟨k,v⟩,hk⟩: ∃p,kvs[i]? =some p:=⟨kvs[i],by simp[hi]⟩
  obtain⟨en,b,he,hb,hB⟩:=hat i k v hk
  refine z2V st ho hd he λh' st' sb=> ?_
  have I1:Inv X qx σ H {s with heap:=h'}:=I.turned (t':=s.toks) (λb o hb e=>(sb.2 b hb).trans e) f0 f1 f3 f4 f5
  obtain⟨o2,e2,c2,d2⟩:=id st'
  exact⟨_,rfl,z9X (s:={s with heap:=h'}) e2 c2 d2 (by decide) ⟨.ref b,H,I1,hb,⟨rfl,b,k,v,rfl,hk,hB⟩,st',λb hb=>(hf b hb).1⟩⟩
 done:=by
  intro X hP hw hK hc i qx s σ H E I hf st hg
  subst hP hw hK
  obtain⟨hi,hq⟩:=hg
  obtain⟨ho,_,_,es',ep',hd',hsz,hat⟩:=zbC I.hok hq
  rw[hd] at hd'
  cases hd'
  obtain⟨f0,f1,f2,f3,f4,f5⟩:=hf it (by simp)
  exact z3u (I.ok.hd hc) st ho hd ⋯ λh' eb=>⟨rfl,I.turned (t':=s.toks) (λb o hb e=>eb b o hb e) f0 f1 f3 f4 f5⟩
 self:=λ_ _ _ _ _ st h=>wpAny_pyIter_keyiter st h
section
variable{X:Cx}{tg:bh}
def Inv.freeze{qx:List (Addr×bE)}{σ:St}{H:Hp}{s:bf}{a:Addr}{kvs:List (NK×V)}(I:Inv X qx σ H s)(h:H a=some (.dT kvs)):
 ∃o es ep,s.heap.get? a=some o/\o.ExactDict/\o.data= .dict es ep/\(a==bz)=false/\es.size=kvs.length/\Inv X qx σ (upd H a (.frz o (.dT kvs))) s:=by
 obtain⟨z,y,xs,r,o,es,ep,e,c,d,l,nd⟩:=I.hok a _ h
 have hs:es.size=xs.length:=cM l
 have hl:kvs.length=xs.length:=Paired.length r
 refine⟨o,es,ep,e,c,d,y,⋯, ?_⟩
 have tn: ∀b xs,H b=some (.tup xs)->(upd H a (.frz o (.dT kvs))) b=some (.tup xs):=λb xs q=>by
  rw[Z7 (z0j q h (by intro z;cases z))];exact q
 have hw:=I.write (x:=a) (e:=a) (o:= .frz o (.dT kvs)) (h':=s.heap) (t':=s.toks) (by rw[h];trivial) (.inl rfl) (λb u _ q=>q) ⟨o,e⟩
  ⟨e,z,y,xs,Paired.mapP r λp q z=>⟨z.1,z.2.1.stay tn,z.2.2⟩,o,es,ep,e,c,d,l,nd⟩
 exact hw
noncomputable def zfo(td:TE):TI:=λ σ H R=>td σ H λx H1=> ∃a kvs,x= .ref a/\H1 a=some (.dT kvs)/\∀o,R (ItD a o kvs) (upd H1 a (.frz o (.dT kvs)))
def z8l{l:bh}{tl:TE}(hl:PE X l tl):PI X tg l (zfo tl):=by
 intro qx s σ H R I h
 refine thn (hl qx s σ H _ I h) ?_
 rintro v s1 ⟨x,H1,I1,r1,a,kvs,e,ha,q⟩
 subst e
 cases r1
 obtain⟨o,es,ep,ho,hc,hd,hy,hsz,I2⟩:=I1.freeze ha
 refine z2U hy ho hc hd ?_
 have I3:Inv X qx σ (upd H1 a (.frz o (.dT kvs))) {s1 with heap:=s1.heap.push {cls:= .type "dict_keyiterator",data:= .fields #[.ref a, .int 0 0, .int es.size 0, .int ep 0]}}:=
  I2.kept (t':=s1.toks) λb u q=>Heap.get?_push_of_some _ q
 refine⟨s1.heap.objs.size,[s1.heap.objs.size],_,ItD a o kvs,_,rfl,I3,z8k a _ o es ep hd kvs,⟨_,Heap.get?_push_size _ rfl,rfl,rfl⟩,λb hb=> ?_,q o⟩
 have e:b=s1.heap.objs.size:=by simpa using hb
 subst e
 exact I2.fpOk (i8 _) I2.fresh
end
def z3s.new{H:Hp}{p:Addr}(o:HO)(h:H p=none):z3s H (upd H p o):=λx u e=>by rw[Z7 (U6 e h)];exact e
theorem z1n: ∀ns:List Int,PyData.canLayAll0 (ns.map PyData.int)=true
 |[]=>by erw[m8,PyData.canLayAll0]
 |n::ns=>by erw[i6,PyData.canLayAll0,PyData.canLay0,z1n ns,Bool.and_self]
theorem z1F: ∀ns:List Int,PyData.depthAll (ns.map PyData.int)<=1
 |[]=>by simp[PyData.depthAll]
 |n::ns=>by
  have:=z1F ns
  erw[i6,PyData.depthAll,PyData.depth]
  lia
theorem z2W: ∀ns ms:List Int,PyData.eqvAll (ns.map PyData.int) (ms.map PyData.int)=decide (ns=ms)
 |[],[]=>by erw[m8,PyData.eqvAll,decide_true]
 |[],m::ms=>by simp[PyData.eqvAll]
 |n::ns,[]=>by simp[PyData.eqvAll]
 |n::ns,m::ms=>by
  erw[i6,PyData.eqvAll,PyData.eqv,z2W ns ms]
  by_cases h:n=m
  .subst h;by_cases h2:ns=ms<;>simp[h2]
  .simp[h]
noncomputable def dT(ns:List Int):PyData:= .tuple (ns.map PyData.int)
def zfp(ns:List Int):(dT ns).canLay0=true:=by erw[dT,PyData.canLay0,z1n]
def zbD(ns:List Int):(dT ns).depth<=2:=by
 have:=z1F ns
 erw[dT,PyData.depth];lia
def z8m(ns ms:List Int):PyData.eqv (dT ns) (dT ms)=decide (ns=ms):=by erw[dT,PyData.eqv,z2W]
theorem Paired.get{α β:Type}{F:α->β->Prop}: ∀{l₁:List α} {l₂:List β},bJ F l₁ l₂->∀(i:Nat) (a:α),l₁[i]? =some a->∃b,l₂[i]? =some b/\F a b
 |_,_, .nil,i,a,e=>by simp at e
 |_,_, .cons r t,0,a,e=>by simp at e;subst e;exact⟨_,rfl,r⟩
 |_,_, .cons r t,i+1,a,e=>by
  obtain⟨b,h1,h2⟩:=Paired.get t i a (by simpa using e)
  exact⟨b,by simpa using h1,h2⟩
noncomputable def zag(K:W.Frag)(H:Hp)(xs:List V)(Q:VK):Prop:= ∀p H',(H'=H/\H p=some (.tup xs))\/(H p=none/\H'=upd H p (.tup xs))->Q (.ref p) H'
def zag.intro{K:W.Frag}{H:Hp}{xs:List V}{Q:VK}(h: ∀p H',H' p=some (.tup xs)->z3s H H'->Q (.ref p) H'):zag K H xs Q:=by
 intro p H' e
 rcases e with⟨rfl,s⟩|⟨n,rfl⟩
 .exact h p H' s (z3s.refl _)
 .exact h p _ Z6 (z3s.new _ n)
section
variable{X:Cx}
noncomputable def zif(K:W.Frag):V->Option Int->Option Int->Hp->VK->Prop:=λx lo hi H Q=> ∃a xs,x= .ref a/\H a=some (.tup xs)/\zag K H (z81 xs lo hi) Q
def zcN:SlR X (zif X.K):=by
 intro qx s σ H x v vl vu lo hi sl Q I rx hs pl pu h
 obtain⟨a,xs,rfl,hx0,q⟩:=h
 have hx:SqT X.K H a xs:=SqT.of hx0
 by_cases hw:HT.sIx xs.length 0 lo=0/\HT.sIx xs.length xs.length hi=xs.length
 .cases rx
  obtain⟨its,r,ht,hz⟩:=I.tuple hx
  have hlen:its.toArray.size=xs.length:=by rw[l9];exact r.length.symm
  refine⟨"tuple",_,PyProof.Rows.slot_tuple_getitem.lookup,ht.typeIs, ?_⟩
  refine HT.getItem_tuple_whole ht hs pl pu (by rw[hlen];exact hw) ⟨.ref a,H,I,rfl,q a H (.inl ⟨rfl, ?_⟩)⟩
  rw[z7i hw]
  exact hx0
 .exact zeP qx s σ H _ v vl vu lo hi sl Q I rx hs pl pu ⟨a,xs,rfl,hx,hw,λp hp=>q p _ (.inr ⟨hp,rfl⟩)⟩
noncomputable def zcO(K:W.Frag):R2:=λx y H Q=> ∃a b xs ys,x= .ref a/\y= .ref b/\H a=some (.tup xs)/\H b=some (.tup ys)/\xs.length+ys.length<=qh/\zag K H (xs++ys) Q
def zcP:OpR X (bY .Add) (zcO X.K):=by
 intro qx s σ H x y v u Q I rx ry h
 obtain⟨a,b,xs,ys,rfl,rfl,ha0,hb0,hz,q⟩:=h
 have ha:SqT X.K H a xs:=SqT.of ha0
 have hb:SqT X.K H b ys:=SqT.of hb0
 by_cases hx:xs=[]
 .subst hx
  cases rx
  cases ry
  obtain⟨its,r1,p1,_⟩:=I.tuple ha
  obtain⟨its2,r2,p2,_⟩:=I.tuple hb
  have e0:its=[]:=(U0.nil_iff r1).mpr rfl
  subst e0
  obtain⟨⟨cls,dd,data,sl⟩,ho,hc,n,hd⟩:=id p1
  obtain⟨⟨cls2,dd2,data2,sl2⟩,ho2,hc2,n2,hd2⟩:=id p2
  simp only at hc hd hc2 hd2
  subst hc hd hc2 hd2
  exact dD ⟨_,ho,rfl⟩ ⟨_,ho2,rfl⟩ cH di PySem.F.slot_tuple_add PySem.F.entry_tuple_add (PySem.F.args_tuple_add_2 _ _)
   (tuple_addW0 a b _ _ n n2 dd dd2 sl sl2 (by simp)) ⟨ho,ho2, .ref b,H,I,rfl,q b H (.inl ⟨rfl,hb0⟩)⟩
 .refine zcw qx s σ H _ _ v u Q I rx ry ⟨a,b,xs,ys,rfl,rfl,ha,hb,hx,hz,λe=> ?_,λ_ p hp=>q p _ (.inr ⟨hp,rfl⟩)⟩
  refine q a H (.inl ⟨rfl, ?_⟩)
  rw[e,l4]
  exact ha0
def z8n:CallR X (.type "tuple") (λxs H Q=> ∃(p:Addr) (ys:List V),xs=[.ref p]/\(SqL X.K H p ys\/H p=some (.tup ys))/\zag X.K H ys Q):=by
 intro qx s σ H xs us Q I r h
 obtain⟨p,ys,rfl,hs,q⟩:=h
 refine z41 qx s σ H _ us Q I r ⟨p,ys,rfl, ?_⟩
 rcases hs with hs|hs
 .exact .inl ⟨hs,λl hl=>q l _ (.inr ⟨hl,rfl⟩)⟩
 .exact .inr ⟨SqT.of hs,q p H (.inl ⟨rfl,hs⟩)⟩
end
end L2
namespace PyProof.Rows
open PySem
section
variable{prog:bm}{w:bo}{A:bq}{E:bb->bf->Prop}{s:bf}
def z2X{h h':Heap}{t:Addr}{items:Array bb}(hl:h.IsList t items)(k: ∀o,h.get? t=some o->h'.get? t=some o):h'.IsList t items:=by
 obtain⟨o,ho,hc,n,hd⟩:=hl
 exact⟨o,k o ho,hc,n,hd⟩
theorem z56{it t:Addr}{items:Array bb}(hne:t≠it): ∀(n i:Nat) (s:bf) (Q:List bb->bf->Prop),s.heap.IsListIter it t i->s.heap.IsList t items->i+n<=items.size->
 (∀h',h'.IsListIter it t (i+n)->Heap.SameBut it s.heap h'->Q ((items.toList.drop i).take n) {s with heap:=h'})->bg (bi prog w) A (draw (.ref it) n) Q E s
 |0,i,s,Q,hit,_,_,hQ=>by
  show bg _ _ (pure []) Q E s
  exact be (by simpa using hQ s.heap hit (Heap.SameBut.refl ..))
 |n+1,i,s,Q,hit,ht,hle,hQ=>by
  have hlt:i<items.size:=by lia
  show bg _ _ (cm (.ref it)>>=_) Q E s
  refine ba (cI hit ht (x:=items[i]) (by simp[hlt]) λh₁ hit₁ hs₁=> ?_)
  refine ba (br (z56 hne n (i+1) _ _ hit₁ (z2X ht λo e=>(hs₁.2 t hne).trans e) ⋯ λh₂ hit₂ hs₂=>be ?_))
  have hd:items.toList.drop i=items[i]::items.toList.drop (i+1):=by simp[M8,hlt]
  have:=hQ h₂ (by rw[show i+(n+1)=i+1+n by lia];exact hit₂) (hs₁.trans hs₂)
  rw[hd,F6] at this
  exact this
def z2q{t:Addr}{items:Array bb}{Q:List bb->bf->Prop}(hh:A.handled=none)(ht:s.heap.IsList t items)
 (hQ: ∀h',Heap.ExtBut s.heap.objs.size s.heap h'->Q items.toList {s with heap:=h'}):bg (bi prog w) A (unpackItems (.ref t) items.size none) Q E s:=by
 have hlt:t≠s.heap.objs.size:=by obtain⟨o,ho,_⟩:=ht;exact B1 (Heap.lt_size ho)
 have hT:s.TypeIs (.ref t) "list" :=by obtain⟨o,ho,hc,_⟩:=ht;exact⟨o,ho,hc⟩
 delta unpackItems
 refine ba ?_
 .delta notIterableAtAll
  refine ba (cb hT PySem.F.slot_list_iter.lookup ?_)
  refine be ?_
  erw[t9,if_false]
  refine ba (br (cD ht ?_))
  refine ba (br (z56 hlt items.size 0 _ _ ⟨_,Heap.get?_push_size _ rfl,rfl,rfl⟩ (z2X ht λo e=>Heap.get?_push_of_some _ e) ⋯ λh₁ hit₁ hs₁=> ?_))
  have hall:List.take items.size (List.drop 0 items.toList)=items.toList:=by
   rw[N3];exact B4 (by simp)
  rw[hall]
  rw[qy (by simp)]
  have ht₁:h₁.IsList t items:=z2X ht λo e=>(hs₁.2 t hlt).trans (Heap.get?_push_of_some _ e)
  refine ba (br (cO hh hit₁ ht₁ (by simp) λh₂ he₂=> ?_))
  erw[Option.isSome_none,t9,if_false]
  refine be (hQ h₂ λb o hb e=>he₂ b o hb (hs₁.extBut b o hb (Heap.get?_push_of_some _ e)))
def z1V{env:dn}{elts:List bh}{x1}{pos:bT}{t:Addr}{items:Array bb}{Q:Unit->bf->Prop}(hh:A.handled=none)(ht:s.heap.IsList t items)
 (hn:(bx elts env).length=items.size) (hstar:(bx elts env).findIdx? (·.1)=none)
 (h: ∀h',Heap.ExtBut s.heap.objs.size s.heap h'->bg (bi prog w) A (assignInOrder ((bx elts env).map (·.2)) items.toList) Q E {s with heap:=h'}):
 bg (bi prog w) A (cr (.Tuple elts x1 pos) env (.ref t)) Q E s:=by
 rw[assign_Tuple]
 refine ba (cn ?_)
 delta unpack
 rw[hn,hstar]
 exact ba (br (z2q hh ht h))
end
end PyProof.Rows
namespace L2
open PySem PySem.Spec PyProof.Rows
section
variable{X:Cx}{pos:bT}
noncomputable def zjY(K:W.Frag)(n:Nat)(t:TGs):TG:=λv σ H Q=> ∃a xs,v= .ref a/\(SqT K H a xs\/SqL K H a xs)/\xs.length=n/\t xs σ H Q
def zfq{es:List bh}{k:Nat}{t:TGs}{n:Nat}(hc:X.calm=true)(h:PGs X es t)
 (hn:(bx es X.env).length=n:=by rfl) (hst:(bx es X.env).findIdx? (·.1)=none:=by rfl):PG X (.Tuple es k pos) (zjY X.K n t):=by
 intro qx s σ H v u Q I r hw
 obtain⟨a,xs,e1,hq|hq,hl,hw⟩:=hw
 .exact zeB hc h hn hst qx s σ H v u Q I r ⟨a,xs,e1,hq,hl,hw⟩
 .subst e1
  cases r
  obtain⟨its,rv,ht,hz⟩:=I.list hq
  refine z1V (I.ok.hd hc) ht.isList (by simp[hn,<-hl,rv.length]) hst λh' hx=> ?_
  have I1:Inv X qx σ H {s with heap:=h'}:=I.kept (t':=s.toks) λb o e=>hx b o (B1 (Heap.lt_size e)) e
  exact h qx _ σ H xs _ Q I1 (by simpa using rv) hw
end
noncomputable abbrev z8o(ifs:List bh)(env:dn):cN Bool:=forIn ifs true λc r=>if r=true then do let ok<-fw c env (bF c env);pure (ForInStep.yield ok) else pure (ForInStep.yield r)
def z1m{prog:bm}{w:bo}{A:bq}{R:Result->bf->Prop}{s:bf}{elt qv iter:bh}{ifs:List bh}{scope:Scope}{pos:bT}{it acc:bb}{env:dn}(I:Nat->bf->Prop)
 (turn: ∀n s,I n s->bg (bi prog w) A (cm it) (λr s₁=>match r with
  |none=>R (.ok .next) s₁
  |some v=>bg (bi prog w) A (cc qv it v) (λ_ s₁=>bg (bi prog w) A (cr qv env v) (λ_ s₂=>bg (bi prog w) A (z8o ifs env) (λok s₃=>
   if ok=true then bg (bi prog w) A (bF elt env) (λx s₃=>
   bg (bi prog w) A (call (.builtin "list.append") [acc,x]) (λ_ s₄=> ∃m,m<n/\I m s₄) (λ_ _=>False) s₃)
   (λ_ _=>False) s₃ else ∃m,m<n/\I m s₃) (λ_ _=>False) s₂) (λ_ _=>False) s₁) (λ_ _=>False) s₁) (λ_ _=>False) s)
 (n:Nat) (h:I n s):
 cu (bi prog w) A (.compLoop (.ListComp elt [⟨qv,iter,ifs,0⟩] scope pos) 0 it acc env) R s:=by
 refine codeAny_loop rfl I (λn s hI=> ?_) n h
 show bg _ _ ((compTurn (.ListComp elt [⟨qv,iter,ifs,0⟩] scope pos) 0 it acc env).onRaise (λx=>do noteFrame x env;theTreesLotGoes x)) _ _ s
 refine wpAny_noted ?_
 rw[compTurn_list]
 refine ba (cn (ba (bA (turn n s hI) (λr s₁ h₁=> ?_) λ_ _ h'=>h'.elim)))
 cases r with
 |none=>exact be h₁
 |some v=>
  refine ba (bA h₁ (λ_ s₁ h₁=> ?_) λ_ _ h'=>h'.elim)
  refine ba (bA h₁ (λ_ s₂ h₂=>ba (bA h₂ (λok s₃ h₃=> ?_) λ_ _ h'=>h'.elim)) λ_ _ h'=>h'.elim)
  cases ok with
  |false=>exact be ⟨rfl,h₃⟩
  |true=>
   exact ba (ba (bA h₃ (λx s₄ h₄=>ba (bA h₄ (λ_ s₅ h₅=>be (be ⟨rfl,h₅⟩)) λ_ _ h'=>h'.elim)) λ_ _ h'=>h'.elim))
noncomputable def PTs(X:Cx)(ifs:List bh)(t:TT):Prop:=
 ∀(qx:List (Addr×bE)) (s:bf) (σ:St) (H:Hp) (Q:Bool->Hp->Prop),Inv X qx σ H s->t σ H Q->bg (bi X.prog X.w) X.A (z8o ifs X.env) (TP X qx σ Q) X.xe s
def zcQ{X:Cx}:PTs X [] (λ_ H Q=>Q true H):=λqx s σ H Q I h=>wpAny_tests_nil ⟨H,I,h⟩
def zcR{X:Cx}{c:bh}{t:TT}(h:PT X c t):PTs X [c] t:=λqx s σ H Q I q=>wpAny_tests_one (h qx s σ H Q I q)
section
variable{X:Cx}{tg iter elt:bh}{ifs:List bh}{pos:bT}{scope:Scope}{own qj:List Str}{ix:List Nat}{wi:TI}{g:TG}{tt:TT}{te:TE}
noncomputable def z57(K:W.Frag)(wi:TI)(g:TG)(tt:TT)(te:TE)(k:Nat)(ix:List Nat):TE:=λ σ H Q=>wi σ H λJ H1=> ∀D,H1 D=none->(∀a o,K.lookup a=some o->upd H1 D (.lst []) a=none)->
 ∃W:Nat->Nat->List V->St->Hp->Prop,(∃m,W 0 m [] (z1E k ix σ) (upd H1 D (.lst [])))/\
  ∀i m ys σ' H',W i m ys σ' H'->H' D=some (.lst ys)/\((J.stop i H'/\Q (.ref D) H')\/
   (J.go i H'/\∀x H2,J.yld i H' x H2->g x σ' H2 λ σ2 H3=>tt σ2 H3 λok H3=>if ok=true then te σ2 H3 λy H4=>H4 D=some (.lst ys)/\ys.length<qh/\∃m',m'<m/\W (i+1) m' (ys++[y]) σ2 (upd H4 D (.lst (ys++[y])))
    else ∃m',m'<m/\W (i+1) m' ys σ2 H3))
end
structure z0q(osc sc:Scope)(own qj N:List Str)(ix:List Nat):Prop where
 kind:sc.kind= .function
 names: ∀y∈sc.names,y.2= .local->sc.names.lookup y.1=some .local
 fr: ∀y∈sc.names,y.2= .free->osc.names.lookup y.1=some .cell\/osc.names.lookup y.1=some .free
 nd:(own++qj).Nodup
 frl: ∀x∈qj,sc.names.lookup x=some .free
 ixs:ix.map (λi=>N[i]?)=qj.map some
 frc: ∀y∈sc.names,y.2= .cell->y.1∉qj
 owf: ∀y∈sc.names,y.2= .free->y.1∉own
noncomputable def K9(osc sc:Scope)(own qj N:List Str)(ix:List Nat):Bool:=
 decide (sc.kind= .function)&&sc.names.all (λy=>decide (y.2= .local->sc.names.lookup y.1=some .local))&&
  sc.names.all (λy=>decide (y.2= .free->osc.names.lookup y.1=some .cell\/osc.names.lookup y.1=some .free))&&decide (own++qj).Nodup&&qj.all (λx=>decide (sc.names.lookup x=some .free))&&
  decide (ix.map (λi=>N[i]?)=qj.map some)&&sc.names.all (λy=>decide (y.2= .cell->y.1∉qj))&&sc.names.all (λy=>decide (y.2= .free->y.1∉own))
def K9.sc{osc sc:Scope}{own qj N:List Str}{ix:List Nat}(h:K9 osc sc own qj N ix=true):z0q osc sc own qj N ix:=by
 delta K9 at h
 erw[A3,N5,decide_eq_true_eq] at h
 obtain⟨⟨⟨⟨⟨⟨⟨h1,h3⟩,h4⟩,h5⟩,h6⟩,h7⟩,h8⟩,h9⟩:=h
 exact⟨h1,h3,h4,h5,h6,h7,h8,h9⟩
noncomputable def j6(X:Cx)(scope:Scope)(own qj:List Str)(cl:List (Str×Addr))(C:Addr)(s₀:bf)(H₀:Hp)(fp:List Addr)(pn:List (Addr×bE)):Cx:=
 {compCx X scope own qj cl C s₀ H₀ fp pn with fn:=λx=>own.contains x}
theorem z0A: ∀(names:List (Str×bS)) (n:Nat) (a b:List (Str×Addr)),bt n names (a++b)=bt n names a++b
 |[],_,_,_=>rfl
 |(name,kind)::r,n,a,b=>by
  unfold bt
  split
  .exact z0A r (n+1) ((name,n)::a) b
  .exact z0A r n a b
theorem z0B: ∀(names:List (Str×bS)) (n:Nat) (a:List (Str×Addr)) (x:Str) (c:Addr),(x,c)∈bt n names a->(x,c)∈a\/(x,NameKind.cell)∈names
 |[],_,_,_,_,h=> .inl h
 |(name,kind)::r,n,a,x,c,h=>by
  unfold bt at h
  split at h
  .rename_i hk
   rcases z0B r (n+1) _ x c h with q|q
   .rcases l6.mp q with q|q
    .cases q;rw[eq_of_beq hk];exact .inr l5
    .exact .inl q
   .exact .inr (i5 _ q)
  .rcases z0B r n a x c h with q|q
   .exact .inl q
   .exact .inr (i5 _ q)
theorem z0C: ∀(names:List (Str×bS)) (n:Nat) (a:List (Str×Addr)) (x:Str),((∃c,a.lookup x=some c)\/(x,NameKind.cell)∈names)->∃c,(bt n names a).lookup x=some c
 |[],_,_,_,h=>by rcases h with h|h;exact h;cases h
 |(name,kind)::r,n,a,x,h=>by
  unfold bt
  split
  .rename_i hk
   refine z0C r (n+1) _ x ?_
   by_cases hx:(x==name)=true
   .exact .inl ⟨n,by rw[A9,hx]⟩
   .have hx':(x==name)=false:=by simpa using hx
    rcases h with⟨c,h⟩|h
    .exact .inl ⟨c,by rw[A9,hx'];exact h⟩
    .rcases l6.mp h with q|q
     .cases q;simp at hx
     .exact .inr q
  .rename_i hk
   refine z0C r n a x ?_
   rcases h with h|h
   .exact .inl h
   .rcases l6.mp h with q|q
    .cases q;simp at hk
    .exact .inr q
def z0l{M:fx}{A:bq}{E:bb->bf->Prop}{s:bf}{scope:Scope}{globals:Addr}{cl:List (Str×Addr)}{qual:Str}{func:Option Addr}{code:bb}{env:dn}{builtins:Addr}{Q:dn->bf->Prop}
 (hQ: ∀h',h'.Ns s.heap.objs.size (λ_=>none)->(∀b o,s.heap.get? b=some o->h'.get? b=some o)->CellsOk h' (s.heap.objs.size+1) (bt (s.heap.objs.size+1) scope.names [])->
  Q (newEnv scope s.heap.objs.size globals (bt (s.heap.objs.size+1) scope.names []++cl) qual func code (some env) builtins) {s with heap:=h'}):
 bg M A (newFunctionEnv scope globals cl [] qual func code (some env) builtins) Q E s:=by
 erw[newFunctionEnv,T7,if_true]
 refine ba (wpAny_alloc ?_)
 refine ba (wpAny_layCells _ (λname kind cells=>by cases hkc:kind==NameKind.cell<;>simp[hkc]) _ _ _ _ ?_)
 have ok:=cellsFrom_ok scope.names (s.heap.push {cls:= .type "dict",data:= .dict #[]}) (s.heap.objs.size+1) [] ⟨λ_ _ hm=>(nomatch hm),List.Pairwise.nil⟩ (by rw[Heap.size_push];exact i8 _)
 rw[Heap.size_push] at ok
 rw[show({s with heap:=s.heap.push {cls:= .type "dict",data:= .dict #[]}}:bf).heap.objs.size=s.heap.objs.size+1 from Heap.size_push ..]
 rw[show bt (s.heap.objs.size+1) scope.names cl=bt (s.heap.objs.size+1) scope.names []++cl from z0A scope.names _ [] cl]
 refine ba ?_
 rw[List.forIn_nil]
 refine be (be ?_)
 exact hQ _ ((Heap.Ns.new s.heap (.type "dict")).keeps (pushCells_keeps _ _)) (λb o e=>pushCells_keeps _ _ b o (Heap.get?_push_of_some _ e)) ok
section
variable{X:Cx}{tg iter elt:bh}{ifs:List bh}{pos:bT}{scope:Scope}{own qj:List Str}{ix:List Nat}{wi:TI}{g:TG}{tt:TT}{te:TE}
noncomputable def z0c(X:Cx)(scope:Scope)(n:Nat):List (Str×Addr):=bt n scope.names []++z2S X.env scope.names []
def z00{n:Nat}{x:Str}{c:Addr}(h:(z0c X scope n).lookup x=some c):(bt n scope.names []).lookup x=some c\/((bt n scope.names []).lookup x=none/\(z2S X.env scope.names []).lookup x=some c):=by
 delta z0c at h
 rw[P5] at h
 cases e:(bt n scope.names []).lookup x with
 |some d=>rw[e] at h;exact .inl h
 |none=>rw[e] at h;exact .inr ⟨rfl,h⟩
def z3F{n:Nat}{x:Str}{c:Addr}(h:(bt n scope.names []).lookup x=some c):(z0c X scope n).lookup x=some c:=by
 delta z0c
 rw[P5,h];rfl
def z3G{n:Nat}{x:Str}{c:Addr}(h:(bt n scope.names []).lookup x=none)(h2:(z2S X.env scope.names []).lookup x=some c):(z0c X scope n).lookup x=some c:=by
 delta z0c
 rw[P5,h,h2];rfl
def Inv.ofC{cl:List (Str×Addr)}{C:Addr}{s₀ s:bf}{H₀ H:Hp}{fp:List Addr}{pn qx:List (Addr×bE)}{σ:St}(I:Inv (j6 X scope own qj cl C s₀ H₀ fp pn) qx σ H s):Inv (compCx X scope own qj cl C s₀ H₀ fp pn) qx σ H s:=
 ⟨⟨I.ok.mod,I.ok.kind,I.ok.glob,I.ok.blt,I.ok.above,I.ok.inj,I.ok.has,λ_ _ z=>u0b z,I.ok.hd,I.ok.frames,I.ok.stk,I.ok.exf,I.ok.bs,I.ok.bsz,I.ok.noex,I.ok.exfs,I.ok.funs,I.ok.frf⟩,I.os,I.bare,I.base,I.loc,I.cell,I.free,I.freeC,I.pin,I.hok,I.len⟩
def z5O{qx:List (Addr×bE)}{σ:St}{H:Hp}{s s1:bf}{fp:List Addr}(S:z0q X.env.scope scope own qj X.N ix)(I:Inv X qx σ H s)(hf: ∀b∈fp,z76 X qx H b)(hb: ∀b∈fp,b<s.heap.objs.size)
 (ho:s1.os=s.os) (hg:s1.gens=s.gens) (hk: ∀b o,s.heap.get? b=some o->s1.heap.get? b=some o) (hn:s1.heap.Ns s.heap.objs.size (λ_=>none)) (hcl:CellsOk s1.heap (s.heap.objs.size+1) (bt (s.heap.objs.size+1) scope.names [])):
 Inv (j6 X scope own qj (z0c X scope (s.heap.objs.size+1)) s.heap.objs.size s H fp (X.pn++qx)) [] (z1E own.length ix σ) H s1:=by
 have clos: ∀x c,(z2S X.env scope.names []).lookup x=some c->X.env.cells.lookup x=some c/\(x,NameKind.free)∈scope.names:=λx c h=>by
  rcases z47 _ _ h with q|q
  .exact nomatch q
  .exact q
 have hlen:ix.length=qj.length:=by
  have:=congrArg O0 S.ixs
  simpa using this
 have cne: ∀x c,X.env.cells.lookup x=some c->c<s.heap.objs.size:=λx c e=>by
  obtain⟨v,o,q,_⟩:=I.cell x c e
  exact Heap.lt_size q
 have nw: ∀x c,(bt (s.heap.objs.size+1) scope.names []).lookup x=some c->s1.heap.IsCell c none/\s.heap.objs.size+1<=c:=λx c e=>hcl.empty x c (PySem.mem_of_lookup e)
 have dis: ∀x y c,(z0c X scope (s.heap.objs.size+1)).lookup x=some c->(z0c X scope (s.heap.objs.size+1)).lookup y=some c->x=y:=λx y c h1 h2=>by
  rcases z00 h1 with q1|⟨_,q1⟩<;>rcases z00 h2 with q2|⟨_,q2⟩
  .exact PySem.name_of_addr hcl.apart (PySem.mem_of_lookup q1) (PySem.mem_of_lookup q2)
  .exact absurd (t7 (cne _ _ (clos _ _ q2).1) (F4 (nw _ _ q1).2)) (D8 _)
  .exact absurd (t7 (cne _ _ (clos _ _ q1).1) (F4 (nw _ _ q2).2)) (D8 _)
  .exact I.ok.inj x y c (clos _ _ q1).1 (clos _ _ q2).1
 refine⟨⟨I.ok.mod,S.kind,I.ok.glob,I.ok.blt,i8 _,dis,λx hx=> ?_,λx c z e=> ?_,I.ok.hd,I.ok.frames, .inl rfl,λb z=>⟨B1 (hb b z),λx c e=> ?_⟩,I.bs,
  C1 I.ok.bsz I.sz,λb o e z=> ?_,λb z=> ?_,I.stack,I.stkFree⟩,ho, ?_,Un.kept hk,⟨_,hn,λi x v h1 h2 h3=> ?_⟩,λx c e=> ?_,I.fresh,λx c e=> ?_,λp hp=> ?_,I.hok.kept hk, ?_⟩
 .have hx:(relabel scope X.env).names.lookup x=some .cell\/(relabel scope X.env).names.lookup x=some .free:=hx
  rcases z0p hx with q|q
  .have m:(x,NameKind.free)∈scope.names:=PySem.mem_of_lookup q
   obtain⟨c,hc⟩:=I.ok.has x (S.fr _ m rfl)
   obtain⟨c',hc'⟩:=z2T (env:=X.env) scope.names [] (.inr ⟨m,c,hc⟩)
   cases e:(bt (s.heap.objs.size+1) scope.names []).lookup x with
   |some d=>exact⟨d,z3F e⟩
   |none=>exact⟨c',z3G e hc'⟩
  .obtain⟨c,hc⟩:=z0C scope.names (s.heap.objs.size+1) [] x (.inr (PySem.mem_of_lookup q))
   exact⟨c,z3F hc⟩
 .have e:(z0c X scope (s.heap.objs.size+1)).lookup x=some c:=e
  have z:x∈own:=by
   have z:own.contains x=true:=z
   simpa using z
  rcases z00 e with q|⟨_,q⟩
  .exact F4 (nw _ _ q).2
  .exact absurd z (S.owf _ (clos _ _ q).2 rfl)
 .have e:(z0c X scope (s.heap.objs.size+1)).lookup x=some c:=e
  rcases z00 e with q|⟨_,q⟩
  .exact O8 (t7 (hb b z) (F4 (nw _ _ q).2))
  .exact(hf b z).2.2.2.2.1 x c (clos x c q).1
 .rcases(hf b z).2.2.2.1 with q|q
  .exact I.ok.noex b o e q
  .exact absurd (Heap.lt_size (I.ok.bs b o e).1) (P4.mpr q)
 .intro q
  rcases l6.mp (I.stkSub b q) with r|r
  .exact(hf b z).2.1 r
  .exact(hf b z).2.2.1 r
 .rw[hg];exact I.bare
 .have h2:(z1E own.length ix σ)[i]? =some (some v):=h2
  have h1:(own++qj)[i]? =some x:=h1
  delta z1E at h2
  by_cases hi:i<own.length
  .rw[List.getElem?_append_left (by simpa using hi),List.getElem?_replicate] at h2
   rw[qw hi] at h2
   cases h2
  .have hi:own.length<=i:=P4.mp hi
   rw[List.getElem?_append_right (by simpa using hi),S4,List.getElem?_map] at h2
   rw[List.getElem?_append_right hi] at h1
   cases e:ix[i -own.length]? with
   |none=>rw[e] at h2;cases h2
   |some j=>
    rw[e] at h2
    have h2:some ((σ[j]?).getD none)=some (some v):=h2
    have hσ:σ[j]? =some (some v):=by
     cases q:σ[j]? with
     |none=>rw[q] at h2;cases h2
     |some z=>rw[q] at h2;exact h2
    have hN:X.N[j]? =some x:=by
     have:=congrArg (λl:List (Option Str)=>l[i -own.length]?) S.ixs
     erw[List.getElem?_map,e,h1,l7] at this
     exact Option.some.inj this
    have mf:x∈qj:=List.mem_of_getElem? h1
    have lf:=S.frl x mf
    have m:(x,NameKind.free)∈scope.names:=PySem.mem_of_lookup lf
    have hos:=S.fr _ m rfl
    obtain⟨mm,hns,hl⟩:=I.loc
    obtain⟨u,ru,look⟩:=hl j x v hN hσ (hos.elim (λq=> .inr (.inl q)) λq=> .inr (.inr q))
    refine⟨u,ru, ?_⟩
    rcases look with⟨kk,_⟩|⟨kk,c,hc,ic⟩
    .have kk:X.env.scope.names.lookup x=some .local:=kk
     have hos:X.env.scope.names.lookup x=some .cell\/X.env.scope.names.lookup x=some .free:=hos
     rw[kk] at hos
     rcases hos with q|q<;>cases q
    .obtain⟨c',hc'⟩:=z2T (env:=X.env) scope.names [] (.inr ⟨m,c,hc⟩)
     have e2:=(clos x c' hc').1
     rw[hc] at e2
     cases e2
     have e3:(bt (s.heap.objs.size+1) scope.names []).lookup x=none:=by
      cases e4:(bt (s.heap.objs.size+1) scope.names []).lookup x with
      |none=>rfl
      |some d=>
       rcases z0B _ _ _ _ _ (PySem.mem_of_lookup e4) with q|q
       .cases q
       .exact absurd mf (S.frc _ q rfl)
     refine .inr ⟨K8 lf,c,z3G e3 hc', ?_⟩
     obtain⟨o,q1,q2⟩:=ic
     exact⟨o,hk _ _ q1,q2⟩
 .have e:(z0c X scope (s.heap.objs.size+1)).lookup x=some c:=e
  rcases z00 e with q|⟨_,q⟩
  .exact⟨none,(nw _ _ q).1⟩
  .obtain⟨v,o,q1,q2⟩:=I.cell x c (clos x c q).1
   exact⟨v,o,hk _ _ q1,q2⟩
 .have e:(z0c X scope (s.heap.objs.size+1)).lookup x=some c:=e
  rcases z00 e with q|⟨_,q⟩
  .exact I.hok.fresh (F4 (nw _ _ q).2)
  .exact I.freeC x c (clos x c q).1
 .have hp:p∈(X.pn++qx)++[]:=hp
  rw[l4] at hp
  obtain⟨e,n,ne,nf,d⟩:=I.pin p hp
  refine⟨hk _ _ e,n,B1 (Heap.lt_size e),λq=> ?_,d⟩
  rcases l6.mp (I.stkSub p.1 q) with r|r
  .exact ne r
  .exact nf r
 .show(z1E own.length ix σ).length=(own++qj).length
  rw[z7j,hlen,l8]
end
def Inv.turnedL{X:Cx}{qx:List (Addr×bE)}{σ:List (Option V)}{H:Hp}{s:bf}{h':Heap}{t':Nat}{fp:List Addr}(I:Inv X qx σ H s)(k: ∀b o,b∉fp->s.heap.get? b=some o->h'.get? b=some o)(hf: ∀b∈fp,z76 X qx H b):Inv X qx σ H {s with heap:=h',toks:=t'}:=by
 have nit: ∀b u,H b=some u->b∉fp:=λb u e z=>by rw[(hf b z).1] at e;cases e
 refine I.step (g':=s.gens) (d':=s.drawn) (ch:=fp) (λb hb=> ?_) (λb o _ _ hc e _=>k b o hc e) (λb o _ _ hc e _=>⟨o.slots,k b o hc e⟩) (λ_ _ _ _ n=>n)
  (λb o hc e=>⟨o,k b o hc e⟩) (λ_ _ e=>e) (λ_ _ _ e=>e) (λb ps e=>⟨#[],by rw[e];simp⟩) (λm hm=> ?_) (λb u e=> ?_) I.bare
 .obtain⟨f0,f1,f2,f3,f4,f5⟩:=hf b hb
  exact⟨f3,f1,f4,f5⟩
 .obtain⟨o,es,ep,ho,r⟩:=hm
  exact⟨o,es,ep,k _ o (λz=>(hf _ z).2.1 rfl) ho,r⟩
 .refine(I.hok b u e).stay (λc v hc q=>k c v ?_ q) (λ_ q=>q) λ_ _ q=>q
  rcases hc with z|z
  .rw[z];exact nit b u e
  .exact nit c _ z
section
variable{X:Cx}
noncomputable def z8p(K:W.Frag)(tk tv:TE):TE:=λ σ H Q=> ∀p,H p=none->(∀a o,K.lookup a=some o->upd H p (.dT []) a=none)->z89 [(tk,tv)] σ (upd H p (.dT [])) λps H2=> ∃b y ks,ps=[(.ref b,y)]/\H2 p=some (.dT [])/\TK H2 ks b/\Q (.ref p) (upd H2 p (.dT [(ks,y)]))
def z8q{k v:bh}{pos:bT}{tk tv:TE}(hu:X.A.units+2<cLine)(hk:PE X k tk)(hv:PE X v tv):PE X (.Dict [some k] [v] pos) (z8p X.K tk tv):=by
 intro qx s σ H Q I q
 have hn:=I.hok.fresh (i8 s.heap.objs.size)
 have I1:=I.laid (a:=s.heap.objs.size) (o:= .dT []) (h':=s.heap.push {cls:= .type "dict",data:= .dict #[]}) (t':=s.toks) (λ_ _ q=>Heap.get?_push_of_some _ q) (i8 _) (z6x s.heap I.big)
 have hall:([some k]:List (Option bh)).all (·.isSome)=true:=rfl
 have hshape:=zip_pairTrees [some k] [v] X.env pos hall rfl
 rw[arm_eval_Dict,hshape,dictDisplay_pairs (pairTrees [some k] [v] X.env pos) (by intro z;exact nomatch z) (by show 1<17;decide)]
 refine ba (cn (ba ?_))
 unfold subDict
 refine ba (wpAny_alloc ?_)
 refine ba (br ?_)
 rw[qw (by show 1<=15;decide)]
 refine ba (thn (za7 hk hv zcF qx _ σ _ _ I1 (q _ hn λa o e=>(I1.bs a o (I1.ok.mod.kin a o e)).2)) ?_)
 rintro ws s2 ⟨ps,H2,I2,rel,hD⟩
 obtain⟨b,y,ks,rfl,hp,hb,q2⟩:=hD
 cases rel with
 | @cons _ w1 _ _ r1 r2=>
  cases r2
  obtain⟨kv,vv⟩:=w1
  obtain⟨rk,rv⟩:=r1
  cases(show kv=Value.ref b from rk)
  refine br ?_
  obtain⟨z,hd,xs,rel,dd⟩:=zeU I2.hok hp
  cases rel
  show bg _ _ (forIn [(Value.ref b,vv)] PUnit.unit _>>=_) _ _ _
  rw[u0h]
  refine ba (ba (ba (wpAny_dictSet_heap (hsz:=B7 _) (show X.A.units+1<cLine by lia) (z4Z I2.hok hb) dd λh' dd' hs=>be ?_)))
  refine be (a:=PUnit.unit) (be (be (be ?_)))
  obtain⟨o,es,ep,hq,h2,h3,h4,_,h5⟩:=dd'
  refine⟨.ref s.heap.objs.size,_,z5J (ob:= .dT [(ks,y)]) I2 (by rw[hp];exact True.intro) hs ⟨o,hq⟩ ⟨?_,hd,_,((KT.put (k:=ks) (H:=H2) (kvs:=[]) .nil hb rv)).keeps λc ys ec=> ?_,o,es,ep,hq,h2,h3,h4,h5⟩,rfl,q2⟩
  .rw[cB,E6];decide
  .rw[Z7 (z0j ec hp (λz=>nomatch z))]
   exact ec
noncomputable def zcS(ds:List PyData)(i j:Nat):Bool:=(So.ltD (ds.getD i .none) (ds.getD j .none)).getD false
noncomputable def z8r(ds:List PyData):Bool:=ds.all (λd=>So.hdI d&&d.canLay0&&decide (d.depth<=60))&&ds.all λd=>ds.all λe=>(So.ltD d e).isSome
theorem z8s{h:Heap}: ∀{its:List bb} {ds:List PyData} {as:List Addr},cU h its ds as->(∀d∈ds,So.hdI d=true)->∃fs:List bb,W.KatTups h its fs/\fs.length=ds.length/\∀f∈fs,∃i t,f=Value.int i t
 |[],_,_, .nil,_=>⟨[], .nil,rfl,by simp⟩
 |v::its,d::ds,_, .cons r rs,hd=>by
  obtain⟨fs,t,hl,hf⟩:=z8s rs λd hd'=>hd d (i5 _ hd')
  obtain⟨i,xs,rfl⟩:=So.hd_int (hd _ l5)
  cases r with
  | @tuple l o vs n _ as₁ h1 h2 h3 h4=>
   generalize hv:vs.toList=us at h4
   cases h4 with
   |cons r1 r2=>
    cases r1 with
    |int _ tk=>
     refine⟨Value.int i tk::fs, .cons h1 h2 h3 ?_ t,by simp[hl],λf hf'=> ?_⟩
     .rw[<-Array.getElem?_toList,hv];rfl
     .rcases l6.mp hf' with rfl|hf'
      .exact⟨_,_,rfl⟩
      .exact hf f hf'
theorem z0X{h:Heap}: ∀{its:List bb} {ds:List PyData} {as:List Addr},cU h its ds as->∀i (hi:i<its.length),∃bs,fA h its[i] (ds.getD i .none) bs/\ds.getD i .none∈ds
 |v::its,d::ds,_, .cons r rs,0,_=>⟨_,r,by simp⟩
 |v::its,d::ds,_, .cons r rs,i+1,hi=>by
  obtain⟨bs,h1,h2⟩:=z0X rs i (by simpa using hi)
  exact⟨bs,by simpa using h1,by simpa using Or.inr h2⟩
noncomputable def zfr(K:W.Frag):List V->Hp->VK->Prop:=λxs H Q=> ∃p ys ds,xs=[.ref p]/\SqL K H p ys/\DpAll K H ds ys/\z8r ds=true/\∀l,H l=none->Q (.ref l) (upd H l (.lst ((So.perm ys.length (zcS ds)).map λi=>ys.getD i .non)))
theorem z58{ys:List V}{its:List bb}(h:U0 ys its): ∀(q:List Nat),(∀i∈q,i<its.length)->U0 (q.map λi=>ys.getD i .non) (q.map λi=>its.getD i Value.none)
 |[],_=> .nil
 |i::q,hq=>by
  refine .cons ?_ (z58 h q λj hj=>hq j (i5 _ hj))
  have hi:=hq i l5
  clear hq
  induction h generalizing i with
  |nil=>simp at hi
  |cons r t ih=>
   cases i with
   |zero=>simpa using r
   |succ i=>simpa using ih i (by simpa using hi)
def zah(hu:X.A.units+64<cLine):CallR X (.builtin "sorted") (zfr X.K):=by
 intro qx s σ H xs us Q I r h
 obtain⟨p,ys,ds,rfl,hs,hd,ok,q⟩:=h
 obtain⟨u,rfl,ru⟩:=z3Z r
 cases ru
 obtain⟨its,rv,pl,hz⟩:=I.list hs
 have hl:its.length=ys.length:=(Paired.length rv).symm
 delta z8r at ok
 erw[A3,N5,decide_eq_true_eq] at ok
 obtain⟨ok1,ok2⟩:=ok
 refine So.call_sorted (cmp:=zcS ds) pl.isList ⋯ (λh' kp h2=> ?_) λh' D e1 kp hD hget=> ?_
 .have I':Inv X qx σ H {s with heap:=h'}:=I.kept (t':=s.toks) kp
  obtain⟨as,ra⟩:=DpAll.reads I' ds ys its hd rv
  refine⟨tuples' true,λQ E hq=> ?_,λi j hi hj C hC=> ?_⟩
  .obtain⟨fs,t,hfl,hf⟩:=z8s ra λd hd'=>(ok1 d hd').1.1
   have hdl:=SeqAt.ReadsAll.length _ _ _ ra
   refine W.kat_kind (T:= .type "int") t ⋯ (λv hv=> ?_) rfl hq
   obtain⟨i,tk,rfl⟩:=hf v hv
   exact W.Looks.of_pure rfl
  .obtain⟨bs,r1,m1⟩:=z0X ra i hi
   obtain⟨cs,r2,m2⟩:=z0X ra j hj
   obtain⟨b,hb⟩:=P8.mp (ok2 _ m1 _ m2)
   have o1:=ok1 _ m1
   have o2:=ok1 _ m2
   refine So.key_lt r1 r2 o1.1.2 o2.1.2 o1.1.1 o2.1.1 ?_ hb ?_
   .show X.A.units+1+1+_<_
    have:=u0i (ds.getD i .none).depth (ds.getD j .none).depth
    lia
   .have:zcS ds i j=b:=by delta zcS;rw[hb];rfl
    rw[<-this];exact hC
 .refine⟨.ref D,_,I.laid (t':=s.toks) (o:= .lst ((So.perm ys.length (zcS ds)).map λi=>ys.getD i .non)) kp hD ⟨by rw[l0,So.perm_len];exact hz,_,e1,z58 rv _ λi hi=> ?_, ?_⟩,rfl,q _ (I.hok.fresh hD)⟩
  .rw[hl];exact So.perm_lt i hi
  .rw[hl] at hget;exact hget
end
end L2
namespace PySem
section
variable{prog:bm}{w:bo}{A:bq}{E:bb->bf->Prop}{s:bf}
def z8t{d:Addr}{Q:bb->bf->Prop}(hd:(d==bz)=false)(hT:s.TypeIs (.ref d) "dict")(hQ: ∀h',h'.IsItemsView s.heap.objs.size d->(∀b o,s.heap.get? b=some o->h'.get? b=some o)->Q (.ref s.heap.objs.size) {s with heap:=h'}):bg (bi prog w) A (call (.builtin "dict.items") [.ref d]) Q E s:=by
 refine bu F.slot_dict_items hT F.entry_dict_items ?_ (F.args_dict_items_1 _)
 delta Builtin.«dict.items» Builtin.Dict.noArgs
 refine ba (ba (cP hT (show bg _ _ (pure d) _ _ s from be ?_)))
 delta Builtin.Dict.showsAll
 rw[qy (by rw[hd];exact A5)]
 exact ba (be (ba (bp (be ⟨_,rfl,hQ _ ⟨_,Heap.get?_push_size _ rfl,rfl,rfl⟩ λ_ _ q=>Heap.get?_push_of_some _ q⟩))))
def z8u{v d:Addr}{o:bE}{es:Array bR}{ep:Nat}{Q:bb->bf->Prop}(hv:s.heap.IsItemsView v d)(ho:s.heap.get? d=some o)(hdat:o.data= .dict es ep)
 (hQ: ∀h',bU h' s.heap.objs.size d 0 es.size ep .none .none->(∀b o,s.heap.get? b=some o->h'.get? b=some o)->Q (.ref s.heap.objs.size) {s with heap:=h'}):bg (bi prog w) A (fc (.ref v)) Q E s:=by
 obtain⟨ov,hov,hcv,hdv⟩:=id hv
 have hown:Builtin.Dict_items.ownsTuple "dict_itemiterator" =true:=by decide
 refine dJ hv.typeIs F.slot_dict_items_iter (bu F.slot_dict_items_iter hv.typeIs F.entry_dict_items_iter ?_ (F.args_dict_items_iter_1 _))
 delta Builtin.«dict_items.__iter__» Builtin.Dict_items.dictOf Builtin.Dict_items.newIterator
 refine ba (be (ba (ba (cf hov hdv (x:= .ref d) rfl ?_))))
 refine be (ba (ba (bM ho hdat (ba (bX ho hdat ?_)))))
 erw[hown,if_true]
 refine bp (be ?_) (by erw[sizeOk,Builtin.Dict_items.ownedTupleFields,l9,l8,o0,C0,cB];lia)
 refine⟨_,rfl, "dict_itemiterator",_,⟨_,Heap.get?_push_size _ rfl,rfl⟩,F.slot_dict_itemiterator_next.lookup,hQ _ ?_ λ_ _ q=>Heap.get?_push_of_some _ q⟩
 have:=Heap.get?_push_size s.heap (o:={cls:= .type "dict_itemiterator",data:= .fields #[.none, .bool false, .ref d, .int 0 0, .int es.size 0, .int ep 0, .none, .none]}) rfl
 delta bU
 simpa[cS,Builtin.Dict_items.ownedTupleFields] using this
def z8v{it d:Addr}{i ep:Nat}{od:bE}{es:Array bR}{en:bR}{ok ov:bb}{Q:Option bb->bf->Prop}(hit:bU s.heap it d i es.size ep ok ov)(hod:s.heap.get? d=some od)(hdd:od.data= .dict es ep)(hx:es[i]? =some en)
 (hQ: ∀h',dk h' it d (i+1) es.size ep en.key en.val s.heap.objs.size->h'.get? s.heap.objs.size=some {cls:= .type "tuple",data:= .seq #[en.key,en.val]}->(∀b o,b≠it->s.heap.get? b=some o->h'.get? b=some o)->Q (some (.ref s.heap.objs.size)) {s with heap:=h'}):
 bg (bi prog w) A (cm (.ref it)) Q E s:=by
 obtain⟨hp,g,dr,tk,os⟩:=s
 have hT:Shared.TypeIs ⟨hp,g,dr,tk,os⟩ (.ref it) "dict_itemiterator" :=⟨_,hit,rfl⟩
 have hown:Builtin.Dict_items.ownsTuple "dict_itemiterator" =true:=by decide
 have hlt:i<es.size:=by
  rcases R8 i es.size with h|h
  .exact h
  .simp[Array.getElem?_eq_none h] at hx
 have hen:es[i]=en:=by rw[Array.getElem?_eq_getElem hlt] at hx;exact Option.some.inj hx
 delta cm
 refine ba (cp (wpAny_callSpecial?_slot (name:=Str.ofString "__next__") hT F.slot_dict_itemiterator_next (bu F.slot_dict_itemiterator_next hT F.entry_dict_itemiterator_next ?_ (F.args_dict_itemiterator_next_1 _))))
 refine ba (be (ba (ba ?_)))
 first|refine ba (bC hT (be (ba (bZ hit rfl ?_))))|refine ba (bK hT (be (ba (bZ hit rfl ?_))))
 erw[hown,if_true]
 show bg _ _ (if(Value.ref d==Value.none)=true then _ else _) _ _ _
 rw[qy (show ¬((Value.ref d==Value.none)=true) from A5)]
 refine ba (be (ba (bM hod hdd ?_)))
 rw[qy (by simp)]
 refine ba (be (ba (bX hod hdd ?_)))
 rw[qy (by simp)]
 refine be ?_
 erw[show ¬((i:Int)<0) from by lia,if_false,L7,Array.getElem?_eq_getElem hlt,hen]
 refine ba ?_
 first|refine ba (bC hT (be (ba (bV hT ?_))))|refine ba (bK hT (be (ba (bV hT ?_))))
 show bg _ _ (fk (.ref it) 3 (cS ((i:Int)+1))>>=_) _ _ ⟨hp,g,dr,tk,os⟩
 refine ba (bW hit (by simp) λk1 f1 t1=> ?_)
 have t1:Heap.SameBut it hp k1:=t1
 have f1:bU k1 it d (i+1) es.size ep ok ov:=by
  have e:((i+1:Nat):Int)=(i:Int)+1:=by lia
  delta bU;rw[e];simpa[cS] using f1
 have hT1:Shared.TypeIs ⟨k1,g,dr,tk,os⟩ (.ref it) "dict_itemiterator" :=⟨_,f1,rfl⟩
 refine ba (br (ba (bV hT1 (ba (bV hT1 ?_)))))
 show bg _ _ (Builtin.Dict_items.pairFromOwner (.ref it) 6 en.key en.val) _ _ ⟨k1,g,dr,tk,os⟩
 delta Builtin.Dict_items.pairFromOwner
 refine ba (wpAny_newTuple ?_)
 have z1:k1.objs.size=hp.objs.size:=t1.1
 have hil:it<hp.objs.size:=Heap.lt_size hit
 have f2:bU (k1.push {cls:= .type "tuple",data:= .seq #[en.key,en.val]}) it d (i+1) es.size ep ok ov:=Heap.get?_push_of_some _ f1
 generalize hk2:k1.push {cls:= .type "tuple",data:= .seq #[en.key,en.val]}=k2 at f2
 have p2:k2.get? hp.objs.size=some {cls:= .type "tuple",data:= .seq #[en.key,en.val]}:=by rw[<-hk2,<-z1];exact Heap.get?_push_size _ rfl
 have o2: ∀b o,b≠it->hp.get? b=some o->k2.get? b=some o:=λb o hb e=>by rw[<-hk2];exact Heap.get?_push_of_some _ (t1.extBut b o hb e)
 show bg _ _ (Builtin.Dict_items.ownedTupleIsFree (.ref it)>>=_) _ _ ⟨k2,g,dr,tk,os⟩
 rw[z1]
 delta Builtin.Dict_items.ownedTupleIsFree
 refine ba (ba (cf f2 rfl (x:= .none) rfl (be ?_)))
 erw[if_true]
 refine ba (cf f2 rfl (x:=ok) rfl (ba (cf f2 rfl (x:=ov) rfl (ba (bW f2 (by simp) λk3 f3 t3=> ?_)))))
 have t3:Heap.SameBut it k2 k3:=t3
 have f3:bU k3 it d (i+1) es.size ep en.key ov:=f3
 refine ba (bW f3 (by simp) λk4 f4 t4=> ?_)
 have t4:Heap.SameBut it k3 k4:=t4
 have f4:bU k4 it d (i+1) es.size ep en.key en.val:=f4
 refine ba (bW f4 (by simp) λk5 f5 t5=> ?_)
 have t5:Heap.SameBut it k4 k5:=t5
 have f5:dk k5 it d (i+1) es.size ep en.key en.val hp.objs.size:=f5
 refine ba (bW f5 (by simp) λk6 f6 t6=> ?_)
 have t6:Heap.SameBut it k5 k6:=t6
 have f6:dk k6 it d (i+1) es.size ep en.key en.val hp.objs.size:=f6
 have on: ∀b o,b≠it->k2.get? b=some o->k6.get? b=some o:=λb o hb e=>t6.extBut b o hb (t5.extBut b o hb (t4.extBut b o hb (t3.extBut b o hb e)))
 exact ba (wpAny_letGo (be (be ⟨_,rfl,be (hQ k6 f6 (on _ _ (O8 hil) p2) λb o hb e=>on b o hb (o2 b o hb e))⟩)))
def zai{it d:Addr}{i ep:Nat}{od:bE}{es:Array bR}{ok ov:bb}{Q:Option bb->bf->Prop}(hh:A.handled=none)(hit:bU s.heap it d i es.size ep ok ov)(hod:s.heap.get? d=some od)(hdd:od.data= .dict es ep)(hge:es.size<=i)
 (hQ: ∀h',Heap.ExtBut it s.heap h'->Q none {s with heap:=h'}):bg (bi prog w) A (cm (.ref it)) Q E s:=by
 have hT:s.TypeIs (.ref it) "dict_itemiterator" :=⟨_,hit,rfl⟩
 have hown:Builtin.Dict_items.ownsTuple "dict_itemiterator" =true:=by decide
 delta cm
 refine ba (cp (wpAny_callSpecial?_slot (name:=Str.ofString "__next__") hT F.slot_dict_itemiterator_next (bu F.slot_dict_itemiterator_next hT F.entry_dict_itemiterator_next ?_ (F.args_dict_itemiterator_next_1 _))))
 refine ba (be (ba (ba ?_)))
 first|refine ba (bC hT (be (ba (bZ hit rfl ?_))))|refine ba (bK hT (be (ba (bZ hit rfl ?_))))
 erw[hown,if_true]
 show bg _ _ (if(Value.ref d==Value.none)=true then _ else _) _ _ s
 rw[qy (show ¬((Value.ref d==Value.none)=true) from A5)]
 refine ba (be (ba (bM hod hdd ?_)))
 rw[qy (by simp)]
 refine ba (be (ba (bX hod hdd ?_)))
 rw[qy (by simp)]
 refine be ?_
 erw[show ¬((i:Int)<0) from by lia,if_false,L7,Array.getElem?_eq_none hge]
 refine ba ?_
 first|refine ba (bC hT (be ?_))|refine ba (bK hT (be ?_))
 show bg _ _ (fk (.ref it) 2 .none>>=_) _ _ s
 refine ba (cW hit rfl (by simp) ?_)
 show bg _ _ (newExc (.type "StopIteration") []>>=_) _ _ _
 erw[newExc,newTuple]
 refine ba (ba (bp (ba (m:=cz _ _) (wpAny_of_eq (a:=Value.none) (by first|rfl|(erw[cz];rfl)) (bp ?_ (by size_fits)))) (by size_fits)))
 erw[raiseNew]
 refine ba (wpAny_handled ?_)
 rw[show A.in1.handled=none from hh]
 refine ba (be (wpAny_throw ?_))
 refine ba (cF (T:= "StopIteration") (b:=true) ⟨_,Heap.get?_push_size _ rfl,rfl⟩ isSubtype_stop (be (hQ _ ?_)))
 exact((Heap.SameBut.update ..).extBut.push _).push _
end
end PySem
namespace L2
open PySem PySem.Spec PyProof.Rows
noncomputable def zef(K:W.Frag)(a:Addr)(o:bE)(kvs:List (NK×V)):It:=
 ⟨λi H=>i<kvs.length/\H a=some (.frz o (.dT kvs)),λi H x H'=> ∃p b k v,H p=none/\x= .ref p/\H'=upd H p (.tup [.ref b,v])/\kvs[i]? =some (k,v)/\TK H k b/\∀c ob,K.lookup c=some ob->H' c=none,λi H=>kvs.length<=i/\H a=some (.frz o (.dT kvs))⟩
def z8w{P:bm}{w:bo}{H:Hp}{h:Heap}{a:Addr}{o:bE}{kvs:List (NK×V)}(ok:HOk P w H h)(e:H a=some (.frz o (.dT kvs))):
 h.get? a=some o/\∃es ep,o.data= .dict es ep/\es.size=kvs.length/\
  ∀(i:Nat) (k:NK) (v:V),kvs[i]? =some (k,v)->∃en b,es[i]? =some en/\en.key= .ref b/\TK H k b/\RelV v en.val:=by
 obtain⟨ho,z,y,xs,r,o',es,ep,e',c,d,l,nd⟩:=ok a _ e
 rw[ho] at e'
 cases e'
 have hl:kvs.length=xs.length:=Paired.length r
 have hs:es.size=xs.length:=cM l
 refine⟨ho,es,ep,d,⋯,λi k v q=> ?_⟩
 obtain⟨⟨k',b,u⟩,q1,q2,q3,q4⟩:=Paired.get r i _ q
 have q2:k=k':=q2
 subst q2
 have hi:=entry_at l i
 rw[q1] at hi
 exact⟨_,b,hi,rfl,q3,q4⟩
def z8x{P:bm}{w:bo}{K:W.Frag}{elts:List bh}{x1:Nat}{tpos:bT}(a it:Addr)(o:bE)(es:Array bR)(ep:Nat)(hd:o.data= .dict es ep)(kvs:List (NK×V)):
 zcm P w K (.Tuple elts x1 tpos) (zef K a o kvs) [it] it (λi h=> ∃ok ov,bU h it a i es.size ep ok ov) where
 mem:=by simp
 obj:=λi h st b hb=>by
  have e:b=it:=by simpa using hb
  subst e
  obtain⟨_,_,st⟩:=st
  exact⟨_,st,λv z=>by
   have z':Data.fields _=Data.cell v:=z
   cases z'⟩
 keep:=λi h h' st k=>by
  obtain⟨ok,ov,st⟩:=st
  exact⟨ok,ov,k it (by simp) _ st⟩
 item:=by
  intro X hP hw hK hc i qx s σ H E I hf st hg
  subst hP hw hK
  obtain⟨hi,hq⟩:=hg
  obtain⟨ok,ov,st⟩:=st
  obtain⟨ho,es',ep',hd',hsz,hat⟩:=z8w I.hok hq
  rw[hd] at hd'
  cases hd'
  obtain⟨⟨k,v⟩,hk⟩: ∃p,kvs[i]? =some p:=⟨kvs[i],by simp[hi]⟩
  obtain⟨en,b,he,hb,hB,hv⟩:=hat i k v hk
  refine z8v st ho hd he λh1 f1 p1 k1=>⟨_,rfl,wpAny_letOwnedTupleGo_items f1 λh2 f2 t2=> ?_⟩
  have t2:Heap.SameBut it h1 h2:=t2
  have hil:it<s.heap.objs.size:=Heap.lt_size st
  have p2:h2.get? s.heap.objs.size=some {cls:= .type "tuple",data:= .seq #[en.key,en.val]}:=(t2.2 _ (O8 hil)).trans p1
  have fr: ∀c∈[it],c≠s.heap.objs.size:=λc hc=>by
   have hc:c=it:=by simpa using hc
   subst hc;exact B1 hil
  have I1:Inv X qx σ (upd H s.heap.objs.size (.tup [.ref b,v])) {s with heap:=s.heap.push {cls:= .type "tuple",data:= .seq #[en.key,en.val]},toks:=s.toks}:=I.laid (t':=s.toks) (o:= .tup [.ref b,v]) (λb ob q=>Heap.get?_push_of_some _ q) (i8 _) ⟨by show 2<=qh;decide,[en.key,en.val], .cons hb (.cons hv .nil),IsTup.new _ _⟩
  have f3: ∀c∈[it],z76 X qx (upd H s.heap.objs.size (.tup [.ref b,v])) c:=λc hc=>⟨by rw[Z7 (fr c hc)];exact(hf c hc).1,(hf c hc).2⟩
  have I2:=I1.turnedL (h':=h2) (t':=s.toks) (λc ob hc q=>by
   have hc:c≠it:=by simpa using hc
   rcases Heap.get?_push_cases (show(s.heap.push {cls:= .type "tuple",data:= .seq #[en.key,en.val]}).get? c=some ob from q) with⟨rfl,rfl⟩|q'
   .exact p2
   .exact(t2.2 c hc).trans (k1 c ob hc q')) f3
  exact⟨.ref s.heap.objs.size,_,I2,rfl,⟨_,b,k,v,I.hok.fresh (i8 _),rfl,rfl,hk,hB,λc ob q=>(I2.bs c ob (I2.ok.mod.kin c ob q)).2⟩,⟨_,_,f2⟩,λc hc=>(f3 c hc).1⟩
 done:=by
  intro X hP hw hK hc i qx s σ H E I hf st hg
  subst hP hw hK
  obtain⟨hi,hq⟩:=hg
  obtain⟨ok,ov,st⟩:=st
  obtain⟨ho,es',ep',hd',hsz,hat⟩:=z8w I.hok hq
  rw[hd] at hd'
  cases hd'
  exact zai (I.ok.hd hc) st ho hd ⋯ λh' eb=>⟨rfl,I.turnedL (t':=s.toks) (λc ob hb q=>eb c ob (by simpa using hb) q) hf⟩
 self:=λA i s Q E st h=>by
  obtain⟨_,_,st⟩:=st
  exact W.kcp_self st h
section
variable{X:Cx}
noncomputable def zfs(K:W.Frag)(td:TE):TI:=λ σ H R=>td σ H λx H1=> ∃a kvs,x= .ref a/\H1 a=some (.dT kvs)/\∀o,R (zef K a o kvs) (upd H1 a (.frz o (.dT kvs)))
def zcT{l:bh}{tl:TE}{elts:List bh}{x1:Nat}{tpos apos cpos:bT}(hl:PE X l tl)(hbase:bP l "items" X.env (bF l X.env)=bF l X.env:=by rfl)
 (hfew:((bN cpos (bj [] X.env)).all (λx=> !x.1)&&(dH cpos (cC [] X.env)).all (λx=>x.1.isSome)&&decide (([]:List bh).length+([]:List cx).length+(if([]:List cx).isEmpty then 0 else 1)<30))=true:=by rfl)
 (hline:(apos.endLine==cpos.line)=true:=by rfl):PI X (.Tuple elts x1 tpos) (.Call (.Attribute l "items" apos) [] [] cpos) (zfs X.K tl):=by
 intro qx s σ H R I h
 refine wpAny_Call_method hbase hfew hline PySem.F.plainAttrs_dict PySem.F.slot_dict_items PySem.F.type_dict_items (thn (hl qx s σ H _ I h) ?_)
 rintro u s1 ⟨x,H1,I1,rx,a,kvs,ex,ha,q⟩
 subst ex
 obtain rfl:u=Value.ref a:=rx
 obtain⟨t1,t2,_⟩:=zeY I1 (.inr ⟨kvs, .inl ha⟩)
 refine⟨t1,t2,PyProof.Rows.callWith_method0 ?_⟩
 obtain⟨o,es,ep,ho,hc,hd,hy,hsz,I2⟩:=I1.freeze ha
 refine z8t hy t1 λh1 hv k1=> ?_
 refine z8u hv (k1 _ _ ho) hd λh2 f2 k2=> ?_
 have I3:Inv X qx σ (upd H1 a (.frz o (.dT kvs))) {s1 with heap:=h1}:=I2.kept (t':=s1.toks) k1
 have I4:Inv X qx σ (upd H1 a (.frz o (.dT kvs))) {s1 with heap:=h2}:=I3.kept (t':=s1.toks) k2
 refine⟨h1.objs.size,[h1.objs.size],_,zef X.K a o kvs,_,rfl,I4,z8x a _ o es ep hd kvs,⟨_,_,f2⟩,λb hb=> ?_,q o⟩
 have e:b=h1.objs.size:=by simpa using hb
 subst e
 exact I3.fpOk (i8 _) I3.fresh
end
end L2
namespace Se
open PySem PySem.SetTable
variable{α:Type}
end Se
namespace L2
open PySem PySem.Spec PyProof.Rows
section
variable{X:Cx}{tg iter:bh}{ifs:List bh}{pos:bT}{scope:Scope}{own qj:List Str}{ix:List Nat}{wi:TI}{g:TG}
structure Blk(X Y:Cx)(qx:List (Addr×bE))(σ:St)(tg:bh)(J:It)(fp:List Addr)(it C:Addr)(tn:Nat->Heap->Prop)(σ0:St)(H0:Hp)(s0:bf):Prop where
 calm:Y.calm=true
 xe:Y.xe=λ_ _=>False
 turn:zcm Y.prog Y.w Y.K tg J fp it tn
 fps: ∀H',(∀b∈fp,H' b=none)->∀b∈fp,z76 Y [] H' b
 inv:Inv Y [] σ0 H0 s0
 st:tn 0 s0.heap
 fr: ∀b∈fp,H0 b=none
 fin: ∀σ' H' s' h',Inv Y [] σ' H' s'->Heap.SameBut C s'.heap h'->Inv X qx σ H' {s' with heap:=h'}
 loc: ∀σ' H' s',Inv Y [] σ' H' s'->(∃m,s'.heap.Ns C m)/\z76 X qx H' C
def z59{ce:bh}{use:Option (bb->cN Unit)}{QV:bb->bf->Prop}{newAcc:cN bb}{u:HO}{no:bE}{Z:Addr->It->Hp->Prop}{qx:List (Addr×bE)}{s:bf}{σ:St}{H:Hp}
 (hc:X.calm=true) (S:z0q X.env.scope scope own qj X.N ix) (hi:PI X tg iter wi) (hs: ∀x,bw iter X.env x=pure x) (hcl:clausesOf ce=[⟨tg,iter,ifs,0⟩])
 (hnew: ∀Q (s:bf),Q (.ref s.heap.objs.size) {s with heap:=s.heap.push no}->bg (bi X.prog X.w) X.A newAcc Q X.xe s)
 (hnI: ∀H (s:bf),Inv X qx σ H s->Inv X qx σ (upd H s.heap.objs.size u) {s with heap:=s.heap.push no})
 (hst: ∀{R s it acc env},cu (bi X.prog X.w) X.A (.compLoop ce 0 it acc env) R s->bg (bi X.prog X.w) X.A (fc it) (λit' s'=>cu (bi X.prog X.w) X.A (.compLoop ce 0 it' acc env) R s') (notedBy (bi X.prog X.w) X.A env λx s'=>R (.error x) s') s->cu (bi X.prog X.w) X.A (.compStart ce 0 it acc env) R s)
 (I:Inv X qx σ H s) (h:wi σ H λJ H1=> ∀D,H1 D=none->(∀a o,X.K.lookup a=some o->upd H1 D u a=none)->Z D J H1)
 (hloop: ∀cl C s₀ H₀ fp pn it tn J H2 D s4,Z D J H2->Blk X (j6 X scope own qj cl C s₀ H₀ fp pn) qx σ tg J fp it C tn (z1E own.length ix σ) (upd H2 D u) s4->
  cu (bi X.prog X.w) X.A (.compLoop ce 0 (.ref it) (.ref D) (compEnvC scope cl C X.env)) (compPost (bi X.prog X.w) X.A X.xe use QV (.ref D) C) s4):
 bg (bi X.prog X.w) X.A (comprehension ce scope X.env pos newAcc false (bF iter X.env) use) QV X.xe s:=by
 have hclos:closureFor scope X.env=pure (z2S X.env scope.names []):=z46 λy hy e=>I.ok.has y.1 (S.fr y hy e)
 refine wpAny_comprehension_free hcl hs hclos S.kind S.names (thn (hi qx s σ H _ I h) λv s1 h1=>thn h1 λitv s2 h2=> ?_)
 obtain⟨it,fp,tn,J,H2,e,I2,T,st2,f2,hD⟩:=h2
 subst e
 refine hnew _ _ ?_
 have I3:=hnI _ _ I2
 have z:=hD _ I2.fresh λa o e=>(I3.bs a o (I3.ok.mod.kin a o e)).2
 have fpl: ∀b∈fp,b<s2.heap.objs.size:=λb z=>by
  obtain⟨o,q,_⟩:=T.obj _ _ st2 b z
  exact Heap.lt_size q
 generalize hs3:({s2 with heap:=s2.heap.push no}:bf)=s3 at I3
 have hpush: ∀b o,s2.heap.get? b=some o->s3.heap.get? b=some o:=λb o q=>by rw[<-hs3];exact Heap.get?_push_of_some _ q
 have hsz3:s2.heap.objs.size<s3.heap.objs.size:=by rw[<-hs3];show _<(s2.heap.push _).objs.size;rw[Heap.size_push];exact B0 _
 have f3: ∀b∈fp,z76 X qx (upd H2 s2.heap.objs.size u) b:=λb z=>⟨by rw[Z7 (B1 (fpl b z))];exact(f2 b z).1,(f2 b z).2⟩
 have st3:tn 0 s3.heap:=T.keep _ _ _ st2 λb _ o q=>hpush b o q
 generalize s2.heap.objs.size=D at*
 refine z0l (λh1 hns keep4 hcl=> ?_)
 have fpl3: ∀b∈fp,b<s3.heap.objs.size:=λb z=>u0n (fpl b z) hsz3
 have I4:=z5O (s1:={s3 with heap:=h1}) S I3 f3 fpl3 rfl rfl keep4 hns hcl
 have st4:tn 0 h1:=T.keep _ _ _ st3 λb _ o q=>keep4 b o q
 have loop:=hloop _ _ _ _ _ _ it tn J H2 D _ z ⟨hc,rfl,T,λH' hn b hb=>by
  obtain⟨g1,g2,g3,g4,g5,g6⟩:=f3 b hb
  refine⟨hn b hb,B1 (fpl3 b hb),λq=> ?_, .inl hb,λx c e=> ?_,λp hp=> ?_⟩
  .rcases l6.mp (I3.stkSub b q) with r|r
   .exact g2 r
   .exact g3 r
  .have e:(z0c X scope (s3.heap.objs.size+1)).lookup x=some c:=e
   rcases z00 e with q|⟨_,q⟩
   .exact O8 (t7 (fpl3 b hb) (F4 (hcl.empty x c (PySem.mem_of_lookup q)).2))
   .rcases z47 _ _ q with q|q
    .exact nomatch q
    .exact g5 x c q.1
  .have hp:p∈(X.pn++qx)++[]:=hp
   rw[l4] at hp
   exact g6 p hp,I4,st4,λb hb=>(f3 b hb).1,λ σ' H' s' h' J' q=>zaf I3 f3 (i8 _) J'.ofC q,λ σ' H' s' J'=>⟨J'.loc.imp λ_ q=>q.1,I3.fpOk (i8 _) J'.free⟩⟩
 exact hst loop (T.self _ 0 _ _ _ st4 loop)
def Blk.out{Y:Cx}{qx:List (Addr×bE)}{σ σ0 σ':St}{J:It}{fp:List Addr}{it C D:Addr}{tn:Nat->Heap->Prop}{H0 H':Hp}{s0 s':bf}{Q:VK}(B:Blk X Y qx σ tg J fp it C tn σ0 H0 s0)(I:Inv Y [] σ' H' s')(q:Q (.ref D) H'):
 compPost (bi X.prog X.w) X.A X.xe none (EP X qx σ Q) (.ref D) C (.ok .next) s':=by
 obtain⟨⟨m,n⟩,_⟩:=B.loc _ _ _ I
 exact⟨m,n,λh'' hs''=>⟨.ref D,H',B.fin _ _ _ _ I hs'',rfl,q⟩⟩
def Blk.put{Y:Cx}{y:Str}{py:bT}{i:Nat}{qx:List (Addr×bE)}{σ σ0 σ':St}{J:It}{fp:List Addr}{it C D:Addr}{tn:Nat->Heap->Prop}{H0 H':Hp}{s0 s':bf}{Dd:Ends}(B:Blk X Y qx σ tg J fp it C tn σ0 H0 s0)(I:Inv Y [] σ' H' s')
 (hN:X.N.Nodup) (hy:X.N[i]? =some y) (hx:Loc X.env.scope y) (hfn:X.fn y=true\/X.env.scope.names.lookup y=some .local) (q:Dd.nx (σ.set i (some (.ref D))) H'):
 compPost (bi X.prog X.w) X.A X.xe (some (cr (.Name y py) X.env)) (λ_ s'=>SP X qx Dd .next s') (.ref D) C (.ok .next) s':=by
 obtain⟨⟨m6,n6⟩,fC⟩:=B.loc _ _ _ I
 obtain⟨oC,eC,dC⟩: ∃o,s'.heap.get? C=some o/\∀v,o.data≠ .cell v:=by
  obtain⟨o,es,ep,e1,e2,e3⟩:=n6
  exact⟨o,e1,λv z=>by simp_all⟩
 have I8:=(B.fin _ _ _ s'.heap I (Heap.SameBut.refl _ _)).pinned (fp:=[C]) (λb hb=>by rw[m4.mp hb];exact fC) (λb hb=>by rw[m4.mp hb];exact⟨oC,eC,dC⟩)
 show bg _ _ (cr (.Name y py) X.env (.ref D)) _ _ s'
 refine dz (z2y (v:= .ref D) I8 hN hy hx rfl (λs7 I9=> ?_) hfn)
 have e7:s7.heap.get? C=some oC:=(I9.pin (C,oC) (i4 _ (i4 _ (z0o (by simp) eC)))).1
 refine⟨m6,n6.at' λo e=>by rw[eC] at e;cases e;exact e7,λh3 hs3=>⟨_,H', ?_,q⟩⟩
 exact I9.unpinned.turned (t':=s7.toks) (λb o hb e=>(hs3.2 b hb).trans e) fC.1 fC.2.1 fC.2.2.2.1 fC.2.2.2.2.1 fC.2.2.2.2.2
def Blk.item{Y:Cx}{qx:List (Addr×bE)}{σ σ0 σ':St}{J:It}{fp:List Addr}{it C:Addr}{tn:Nat->Heap->Prop}{H0 H':Hp}{s0 s':bf}{i:Nat}{gz:V->Hp->St->Hp->Prop}(B:Blk X Y qx σ tg J fp it C tn σ0 H0 s0)(gY:PG Y tg g)(I:Inv Y [] σ' H' s')(st:tn i s'.heap)(fr: ∀b∈fp,H' b=none)(go:J.go i H')
 {R:Option bb->bf->Prop} {F:bf->Prop} (step: ∀x H2,J.yld i H' x H2->g x σ' H2 λ σ2 H3=>gz x H2 σ2 H3) (hR: ∀v s1,bg (bi Y.prog Y.w) Y.A (cc tg (.ref it) v) (λ_ s2=>bg (bi Y.prog Y.w) Y.A (cr tg Y.env v) (λ_ s3=>F s3) (λ_ _=>False) s2) (λ_ _=>False) s1->R (some v) s1)
 (hF: ∀x H2 σ2 H3 s3 ps,Inv Y ps σ2 H3 s3->gz x H2 σ2 H3->(∀σ4 H4 s4,Inv Y ps σ4 H4 s4->Inv Y [] σ4 H4 s4/\tn (i+1) s4.heap/\∀b∈fp,H4 b=none)->F s3):bg (bi Y.prog Y.w) Y.A (cm (.ref it)) R (λ_ _=>False) s':=by
 have T:=B.turn
 refine thn (T.item Y rfl rfl rfl B.calm i [] s' σ' H' (λ_ _=>False) I (B.fps _ fr) st go) ?_
 rintro r s6 ⟨u,hr,h6⟩
 subst hr
 refine hR _ _ (thn h6 ?_)
 rintro _ s7 ⟨x,H7,I7,r7,y7,st7,fr7⟩
 have e1:=gY _ s7 σ' H7 x u _ (I7.pinned (B.fps _ fr7) (T.obj _ _ st7)) r7 (step x H7 y7)
 rw[B.xe] at e1
 refine thn e1 λ_ s8 ⟨σ8,H8,I8,q8⟩=>hF x H7 σ8 H8 s8 _ I8 q8 λ σ4 H4 s4 I4=>⟨I4.unpinned,T.keep _ _ _ st7 λb hb o e=> ?_,λb hb=> ?_⟩
 .exact(I4.pin (b,o) (i4 _ (i4 _ (z0o hb e)))).1
 .obtain⟨o,e,d⟩:=T.obj _ _ st7 b hb
  exact(I4.pin (b,o) (i4 _ (i4 _ (z0o hb e)))).2.1
def Blk.done{Y:Cx}{qx:List (Addr×bE)}{σ σ0 σ':St}{J:It}{fp:List Addr}{it C:Addr}{tn:Nat->Heap->Prop}{H0 H':Hp}{s0 s':bf}{i:Nat}{R:Option bb->bf->Prop}(B:Blk X Y qx σ tg J fp it C tn σ0 H0 s0)(I:Inv Y [] σ' H' s')(st:tn i s'.heap)(fr: ∀b∈fp,H' b=none)(stop:J.stop i H')(h: ∀s6,Inv Y [] σ' H' s6->R none s6):
 bg (bi Y.prog Y.w) Y.A (cm (.ref it)) R (λ_ _=>False) s':=by
 refine thn (B.turn.done Y rfl rfl rfl B.calm i [] s' σ' H' (λ_ _=>False) I (B.fps _ fr) st stop) ?_
 rintro r s6 ⟨hr,I6⟩
 subst hr
 exact h _ I6
section
variable{elt:bh}{tt:TT}{te:TE}
def z5a{Y:Cx}{qx:List (Addr×bE)}{σ σ0:St}{J:It}{fp:List Addr}{it C D:Addr}{tn:Nat->Heap->Prop}{H0:Hp}{s0:bf}{R:Result->bf->Prop}{Qn:Hp->Prop}(B:Blk X Y qx σ tg J fp it C tn σ0 H0 s0)(gY:PG Y tg g)(sY:PTs Y ifs tt)(tY:PE Y elt te)
 (h: ∃W:Nat->Nat->List V->St->Hp->Prop,(∃m,W 0 m [] σ0 H0)/\
  ∀i m ys σ' H',W i m ys σ' H'->H' D=some (.lst ys)/\((J.stop i H'/\Qn H')\/
  (J.go i H'/\∀x H2,J.yld i H' x H2->g x σ' H2 λ σ2 H3=>tt σ2 H3 λok H3=>if ok=true then te σ2 H3 λy H4=>H4 D=some (.lst ys)/\ys.length<qh/\∃m',m'<m/\W (i+1) m' (ys++[y]) σ2 (upd H4 D (.lst (ys++[y])))
   else ∃m',m'<m/\W (i+1) m' ys σ2 H3)))
 (hR: ∀σ' H' s',Inv Y [] σ' H' s'->Qn H'->R (.ok .next) s'):cu (bi Y.prog Y.w) Y.A (.compLoop (.ListComp elt [⟨tg,iter,ifs,0⟩] scope pos) 0 (.ref it) (.ref D) Y.env) R s0:=by
 obtain⟨W,⟨m0,w0⟩,turn⟩:=h
 refine z1m (λn s'=> ∃i ys σ' H',Inv Y [] σ' H' s'/\tn i s'.heap/\(∀b∈fp,H' b=none)/\W i n ys σ' H') ?_ m0 ⟨0,[],_,_,B.inv,B.st,B.fr,w0⟩
 rintro n s5 ⟨i,ys,σ5,H5,I5,st5,fr5,w5⟩
 obtain⟨hD5,alt⟩:=turn i n ys σ5 H5 w5
 rcases alt with⟨stop,qn⟩|⟨go,step⟩
 .exact B.done I5 st5 fr5 stop λs6 I6=>hR _ _ _ I6 qn
 .refine B.item gY I5 st5 fr5 go step (λv s1 h=>h) λx H2 σ8 H8 s8 ps I8 q8 back=> ?_
  have e1':=sY _ s8 σ8 H8 _ I8 q8
  rw[B.xe] at e1'
  refine thn e1' ?_
  rintro ok s8 ⟨H8,I8,q8⟩
  cases ok with
  |false=>
   rw[qy A5] at q8⊢
   obtain⟨m',hm',w9⟩:=q8
   obtain⟨b1,b2,b3⟩:=back _ _ _ I8
   exact⟨m',hm',i+1,_,σ8,_,b1,b2,b3,w9⟩
  |true=>
   rw[qw rfl] at q8⊢
   have e2:=tY _ s8 σ8 H8 _ I8 q8
   rw[B.xe] at e2
   refine thn e2 ?_
   rintro yv s9 ⟨y,H9,I9,r9,hD9,hz9,m',hm',w9⟩
   have e3:=z4X (X:=Y) _ s9 σ8 H9 (.ref D) [y] (.ref D) [yv] (λv H'=>v= .non/\H'=upd H9 D (.lst (ys++[y]))) I9 rfl (.cons r9 .nil) ⟨D,ys,y,rfl,rfl,hD9,hz9,rfl,rfl⟩
   rw[B.xe] at e3
   refine thn e3 ?_
   rintro _ s10 ⟨v10,H10,I10,r10,_,e10⟩
   subst e10
   obtain⟨b1,b2,b3⟩:=back _ _ _ I10
   exact⟨m',hm',i+1,_,σ8,_,b1,b2,b3,w9⟩
def z8y(hc:X.calm=true)(S:z0q X.env.scope scope own qj X.N ix)(hi:PI X tg iter wi)
 (hg: ∀cl C s₀ H₀ fp pn,PG (j6 X scope own qj cl C s₀ H₀ fp pn) tg g) (ht: ∀cl C s₀ H₀ fp pn,PTs (j6 X scope own qj cl C s₀ H₀ fp pn) ifs tt) (he: ∀cl C s₀ H₀ fp pn,PE (j6 X scope own qj cl C s₀ H₀ fp pn) elt te)
 (hs: ∀x,bw iter X.env x=pure x:=by intro _;rfl):
 PE X (.ListComp elt [⟨tg,iter,ifs,0⟩] scope pos) (z57 X.K wi g tt te own.length ix):=by
 intro qx s σ H Q I h
 rw[eval_ListComp]
 exact z59 (u:= .lst []) (no:={cls:= .type "list",data:= .seq ([]:List bb).toArray}) hc S hi hs rfl (λQ s h=>bp h) (λH s I=>I.lnew (t':=s.toks) .nil (B7 _)) (λh0 h=>cL h0 h) I h
  λcl C s₀ H₀ fp pn it tn J H2 D s4 z B=>z5a B (hg _ _ _ _ _ _) (ht _ _ _ _ _ _) (he _ _ _ _ _ _) z λ σ' H' s' I' q=>B.out I' q
def zft{y:Str}{py spos:bT}{i:Nat}(hN:X.N.Nodup)(hy:X.N[i]? =some y)(hx:Loc X.env.scope y)(hfn:X.fn y=true\/X.env.scope.names.lookup y=some .local)(hsw:ca (.ListComp elt [⟨tg,iter,ifs,0⟩] scope pos) (some (.Name y py)) spos.line X.env=pure true)(hc:X.calm=true)(S:z0q X.env.scope scope own qj X.N ix)(hi:PI X tg iter wi)
 (hg: ∀cl C s₀ H₀ fp pn,PG (j6 X scope own qj cl C s₀ H₀ fp pn) tg g) (ht: ∀cl C s₀ H₀ fp pn,PTs (j6 X scope own qj cl C s₀ H₀ fp pn) ifs tt) (he: ∀cl C s₀ H₀ fp pn,PE (j6 X scope own qj cl C s₀ H₀ fp pn) elt te)
 (hs: ∀x,bw iter X.env x=pure x:=by intro _;rfl):
 PS X (.Assign [.Name y py] (.ListComp elt [⟨tg,iter,ifs,0⟩] scope pos) spos) (λDd σ H=>z57 X.K wi g tt te own.length ix σ H λv H'=>Dd.nx (σ.set i (some v)) H'):=by
 intro qx s σ H Dd I h
 rw[exec_Assign_Name_used _ _ _ _ hsw]
 refine ba (cn (ba ?_))
 show bg _ X.A (do let _<-comprehension (.ListComp elt [⟨tg,iter,ifs,0⟩] scope pos) scope X.env _ (newList []) false (bF iter X.env) (some (cr (.Name y py) X.env))) _ _ s
 refine ba (bA (z59 (QV:=λ_ s'=>SP X qx Dd .next s') (u:= .lst []) (no:={cls:= .type "list",data:= .seq ([]:List bb).toArray}) hc S hi hs rfl (λQ s h=>bp h) (λH s I=>I.lnew (t':=s.toks) .nil (B7 _)) (λh0 h=>cL h0 h) I h
  λcl C s₀ H₀ fp pn it tn J H2 D s4 z B=>z5a B (hg _ _ _ _ _ _) (ht _ _ _ _ _ _) (he _ _ _ _ _ _) z λ σ' H' s' I' q=>B.put I' hN hy hx hfn q) (λ_ s' hq=>be (be hq)) λ_ _ e=>e)
end
end
end L2
namespace Mi
open PySem L2
inductive D where
 |non|bool (b:Bool)|int (i:Int)|str (x:Str)
 |tup (ds:List D)|ro (ds:List D)|lst (l:Nat) (ds:List D)
 |dct (l:Nat) (ks vs:List D)|obj (l:Nat) (c:Str) (ns:List Str) (vs:List D)
 |exc (c:Str)|fn (c:Str)|fdc (ks vs:List D)
deriving Inhabited
mutual
noncomputable def labs:D->List Nat
 | .tup ds=>qq ds
 | .ro ds=>qq ds
 | .fdc _ vs=>qq vs
 | .lst l ds=>l::qq ds
 | .dct l ks vs=>l::(qq ks++qq vs)
 | .obj l _ _ vs=>l::qq vs
 | .non=>[]| .bool _=>[]| .int _=>[]| .str _=>[]| .exc _=>[]| .fn _=>[]
noncomputable def qq:List D->List Nat
 |[]=>[]
 |d::ds=>labs d++qq ds
end
abbrev Qq:=List (Option D)
noncomputable def Y6:Qq->List Nat
 |[]=>[]
 |none::r=>Y6 r
 |some d::r=>labs d++Y6 r
structure Gx where
 K:W.Frag
 cl:Str->Option Addr
 ci: ∀c c' a,cl c=some a->cl c'=some a->c=c'
 ck: ∀c a,cl c=some a->∃o,K.lookup a=some o/\∀its n,o.data≠ .seq its n
noncomputable def z1k:Key->D
 | .inl i=> .int i
 | .inr x=> .str x
noncomputable def nkD:Key⊕List Key->D
 | .inl k=>z1k k
 | .inr ks=> .tup (ks.map z1k)
noncomputable def dkD(k:NK):D:= .tup (k.map nkD)
noncomputable def FzD(u:HO)(ks:List D)(xs:List V):Prop:=(∃kvs:List (Key×V),u= .dK kvs/\ks= .non::kvs.map (λp=>z1k p.1)/\xs=kvs.map (·.2))\/∃kvs:List (NK×V),u= .dT kvs/\ks=kvs.map (λp=>dkD p.1)/\xs=kvs.map (·.2)
def FzD.one{u:HO}{ks ks':List D}{xs xs':List V}(h:FzD u ks xs)(h':FzD u ks' xs'):ks=ks'/\xs=xs':=by
 obtain⟨a,e,k,x⟩|⟨a,e,k,x⟩:=h<;>obtain⟨b,e',k',x'⟩|⟨b,e',k',x'⟩:=h'
 .rw[e] at e';cases e';exact⟨k.trans k'.symm,x.trans x'.symm⟩
 .rw[e] at e';cases e'
 .rw[e] at e';cases e'
 .rw[e] at e';cases e';exact⟨k.trans k'.symm,x.trans x'.symm⟩
noncomputable def RoL(K:W.Frag)(H:Hp)(a:Addr)(xs:List V):Prop:=
 (∃o,H a=some (.frz o (.lst xs)))\/∃(o:bE) (its:Array bb) (n:Nat),K.lookup a=some o/\o.cls= .type "list" /\o.dict=none/\o.data= .seq its n/\its.size<=qh/\U0 xs its.toList
def RoL.sq{K:W.Frag}{H:Hp}{a:Addr}{xs:List V}(h:RoL K H a xs):SqL K H a xs:=by
 rcases h with⟨o,h⟩|h
 .exact .inl (.inr ⟨o,h⟩)
 .exact .inr h
mutual
noncomputable def RD(G:Gx)(ρ:Nat->Addr)(H:Hp):D->V->Prop
 | .non,v=>v= .non
 | .bool b,v=>v= .bl b
 | .int i,v=>v= .int i
 | .str x,v=>v= .str x
 | .exc c,v=> ∃a o C,v= .ref a/\G.cl c=some C/\o.cls= .ref C/\(∃vs,o.data= .fields vs)/\H a=some (.frz o (.ext λ_=>True))
 | .fn c,v=> ∃a,v= .ref a/\G.cl c=some a
 | .tup ds,v=> ∃a xs,v= .ref a/\H a=some (.tup xs)/\RDs G ρ H ds xs
 | .ro ds,v=> ∃a xs,v= .ref a/\RoL G.K H a xs/\RDs G ρ H ds xs
 | .fdc ks vs,v=> ∃(a:Addr) (o:bE) (u:HO) (xs:List V),v= .ref a/\H a=some (.frz o u)/\FzD u ks xs/\RDs G ρ H vs xs
 | .lst l ds,v=>v= .ref (ρ l)/\∃xs,H (ρ l)=some (.lst xs)/\RDs G ρ H ds xs
 | .dct l ks vs,v=>v= .ref (ρ l)/\((∃kvs:List (Key×V),H (ρ l)=some (.dK kvs)/\ks=D.non::kvs.map (λp=>z1k p.1)/\RDs G ρ H vs (kvs.map (·.2)))\/
  (∃kvs:List (NK×V),H (ρ l)=some (.dT kvs)/\ks=kvs.map (λp=>dkD p.1)/\RDs G ρ H vs (kvs.map (·.2))))
 | .obj l c ns vs,v=>v= .ref (ρ l)/\∃C dx fs,G.cl c=some C/\H (ρ l)=some (.ins C dx fs)/\ns=fs.map (·.1)/\RDs G ρ H vs (fs.map (·.2))
noncomputable def RDs(G:Gx)(ρ:Nat->Addr)(H:Hp):List D->List V->Prop
 |[],xs=>xs=[]
 |d::ds,xs=> ∃x r,xs=x::r/\RD G ρ H d x/\RDs G ρ H ds r
end
structure v6(H H':Hp):Prop where
 t: ∀b xs,H b=some (.tup xs)->H' b=some (.tup xs)
 f: ∀b o u,H b=some (.frz o u)->H' b=some (.frz o u)
def v6.refl(H:Hp):v6 H H:=⟨λ_ _ h=>h,λ_ _ _ h=>h⟩
def v6.of{H H':Hp}(h:z3s H H'):v6 H H':=⟨λ_ _ e=>h _ _ e,λ_ _ _ e=>h _ _ e⟩
def v6.ro{K:W.Frag}{H H':Hp}(t:v6 H H'){a:Addr}{xs:List V}(h:RoL K H a xs):RoL K H' a xs:=by
 rcases h with⟨o,h⟩|h
 .exact .inl ⟨o,t.f _ _ _ h⟩
 .exact .inr h
section
variable{G:Gx}{ρ ρ':Nat->Addr}{H H':Hp}
mutual
theorem RD.stay(ts:v6 H H'): ∀(t:D) (v:V),RD G ρ H t v->(∀l∈labs t,ρ' l=ρ l/\∀o,H (ρ l)=some o->H' (ρ l)=some o)->RD G ρ' H' t v
 | .non,v,h,_=>by erw[RD] at h⊢;exact h
 | .bool b,v,h,_=>by erw[RD] at h⊢;exact h
 | .int b,v,h,_=>by erw[RD] at h⊢;exact h
 | .str b,v,h,_=>by erw[RD] at h⊢;exact h
 | .exc b,v,h,_=>by
  erw[RD] at h⊢
  obtain⟨a,o,C,e,h1,h2,h3,h5⟩:=h
  exact⟨a,o,C,e,h1,h2,h3,ts.f _ _ _ h5⟩
 | .fn b,v,h,_=>by erw[RD] at h⊢;exact h
 | .tup ds,v,h,hl=>by
  erw[RD,labs] at h hl⊢
  obtain⟨a,xs,e,s,r⟩:=h
  exact⟨a,xs,e,ts.t _ _ s,RDs.stay ts ds xs r hl⟩
 | .ro ds,v,h,hl=>by
  erw[RD,labs] at h hl⊢
  obtain⟨a,xs,e,s,r⟩:=h
  exact⟨a,xs,e,ts.ro s,RDs.stay ts ds xs r hl⟩
 | .fdc ks vs,v,h,hl=>by
  erw[RD,labs] at h hl⊢
  obtain⟨a,o,u,xs,e,s,s2,r⟩:=h
  exact⟨a,o,u,xs,e,ts.f _ _ _ s,s2,RDs.stay ts vs _ r hl⟩
 | .lst l ds,v,h,hl=>by
  erw[RD,labs] at h hl⊢
  obtain⟨e,xs,s,r⟩:=h
  obtain⟨e1,e2⟩:=hl l (l5 ..)
  rw[e1]
  exact⟨e,xs,e2 _ s,RDs.stay ts ds xs r λk hk=>hl k (i5 _ hk)⟩
 | .dct l ks vs,v,h,hl=>by
  erw[RD,labs] at h hl⊢
  obtain⟨e,s⟩:=h
  obtain⟨e1,e2⟩:=hl l (l5 ..)
  rw[e1]
  refine⟨e, ?_⟩
  rcases s with⟨kvs,s,s2,r⟩|⟨kvs,s,s2,r⟩
  .exact .inl ⟨kvs,e2 _ s,s2,RDs.stay ts vs _ r λk hk=>hl k (i5 _ (i4 _ hk))⟩
  .exact .inr ⟨kvs,e2 _ s,s2,RDs.stay ts vs _ r λk hk=>hl k (i5 _ (i4 _ hk))⟩
 | .obj l c ns vs,v,h,hl=>by
  erw[RD,labs] at h hl⊢
  obtain⟨e,C,dx,fs,hC,s,s2,r⟩:=h
  obtain⟨e1,e2⟩:=hl l (l5 ..)
  rw[e1]
  exact⟨e,C,dx,fs,hC,e2 _ s,s2,RDs.stay ts vs _ r λk hk=>hl k (i5 _ hk)⟩
theorem RDs.stay(ts:v6 H H'): ∀(t:List D) (v:List V),RDs G ρ H t v->(∀l∈qq t,ρ' l=ρ l/\∀o,H (ρ l)=some o->H' (ρ l)=some o)->RDs G ρ' H' t v
 |[],v,h,_=>by erw[RDs] at h⊢;exact h
 |d::ds,v,h,hl=>by
  erw[RDs,qq] at h hl⊢
  obtain⟨x,r,e,h1,h2⟩:=h
  exact⟨x,r,e,RD.stay ts d x h1 λl hk=>hl l (i7 _ hk),RDs.stay ts ds r h2 λl hk=>hl l (i4 _ hk)⟩
end
end
mutual
noncomputable def rp(f:Nat->Option D):D->D
 | .tup ds=> .tup (rpL f ds)
 | .ro ds=> .ro (rpL f ds)
 | .fdc ks vs=> .fdc ks (rpL f vs)
 | .lst l ds=>match f l with|some d=>d|none=> .lst l (rpL f ds)
 | .dct l ks vs=>match f l with|some d=>d|none=> .dct l ks (rpL f vs)
 | .obj l c ns vs=>match f l with|some d=>d|none=> .obj l c ns (rpL f vs)
 | .non=> .non| .bool b=> .bool b| .int i=> .int i| .str x=> .str x| .exc x=> .exc x| .fn x=> .fn x
noncomputable def rpL(f:Nat->Option D):List D->List D
 |[]=>[]
 |d::ds=>rp f d::rpL f ds
end
noncomputable def rpO(f:Nat->Option D):Qq->Qq
 |[]=>[]
 |none::r=>none::rpO f r
 |some d::r=>some (rp f d)::rpO f r
section
variable{f:Nat->Option D}
mutual
theorem z8z: ∀t:D,(∀l∈labs t,f l=none)->rp f t=t
 | .non,_=>rfl
 | .bool b,_=>rfl
 | .int b,_=>rfl
 | .str b,_=>rfl
 | .exc b,_=>rfl
 | .fn b,_=>rfl
 | .tup ds,h=>by erw[rp,labs] at h⊢;rw[rpL_id ds h]
 | .ro ds,h=>by erw[rp,labs] at h⊢;rw[rpL_id ds h]
 | .fdc ks vs,h=>by erw[rp,labs] at h⊢;rw[rpL_id vs h]
 | .lst l ds,h=>by
  erw[rp,labs] at h⊢
  rw[h l (l5 ..),rpL_id ds λk hk=>h k (i5 _ hk)]
 | .dct l ks vs,h=>by
  erw[rp,labs] at h⊢
  rw[h l (l5 ..),rpL_id vs λk hk=>h k (i5 _ (i4 _ hk))]
 | .obj l c ns vs,h=>by
  erw[rp,labs] at h⊢
  rw[h l (l5 ..),rpL_id vs λk hk=>h k (i5 _ hk)]
theorem rpL_id: ∀t:List D,(∀l∈qq t,f l=none)->rpL f t=t
 |[],_=>rfl
 |d::ds,h=>by
  erw[rpL,qq] at h⊢
  rw[z8z d λl hk=>h l (i7 _ hk),rpL_id ds λl hk=>h l (i4 _ hk)]
end
theorem z8A: ∀t:Qq,(∀l∈Y6 t,f l=none)->rpO f t=t
 |[],_=>rfl
 |none::r,h=>by erw[rpO,Y6] at h⊢;rw[z8A r h]
 |some d::r,h=>by
  erw[rpO,Y6] at h⊢
  rw[z8z d λl hk=>h l (i7 _ hk),z8A r λl hk=>h l (i4 _ hk)]
variable{G:Gx}{ρ ρ':Nat->Addr}{H H':Hp}
mutual
theorem RD.rp(ts:v6 H H'): ∀(t:D) (v:V),RD G ρ H t v->(∀l∈labs t,ρ' l=ρ l/\(match f l with|some d=>RD G ρ' H' d (.ref (ρ l))|none=> ∀o,H (ρ l)=some o->H' (ρ l)=some o))->RD G ρ' H' (rp f t) v
 | .non,v,h,_=>by erw[Mi.rp,RD] at h⊢;exact h
 | .bool b,v,h,_=>by erw[Mi.rp,RD] at h⊢;exact h
 | .int b,v,h,_=>by erw[Mi.rp,RD] at h⊢;exact h
 | .str b,v,h,_=>by erw[Mi.rp,RD] at h⊢;exact h
 | .exc b,v,h,_=>by
  erw[Mi.rp,RD] at h⊢
  obtain⟨a,o,C,e,h1,h2,h3,h5⟩:=h
  exact⟨a,o,C,e,h1,h2,h3,ts.f _ _ _ h5⟩
 | .fn b,v,h,_=>by erw[Mi.rp,RD] at h⊢;exact h
 | .tup ds,v,h,hl=>by
  erw[Mi.rp,RD,labs] at h hl⊢
  obtain⟨a,xs,e,s,r⟩:=h
  exact⟨a,xs,e,ts.t _ _ s,RDs.rp ts ds xs r hl⟩
 | .ro ds,v,h,hl=>by
  erw[Mi.rp,RD,labs] at h hl⊢
  obtain⟨a,xs,e,s,r⟩:=h
  exact⟨a,xs,e,ts.ro s,RDs.rp ts ds xs r hl⟩
 | .fdc ks vs,v,h,hl=>by
  erw[Mi.rp,RD,labs] at h hl⊢
  obtain⟨a,o,u,xs,e,s,s2,r⟩:=h
  exact⟨a,o,u,xs,e,ts.f _ _ _ s,s2,RDs.rp ts vs _ r hl⟩
 | .lst l ds,v,h,hl=>by
  erw[Mi.rp,RD,labs] at h hl⊢
  obtain⟨e,xs,s,r⟩:=h
  obtain⟨e1,e2⟩:=hl l (l5 ..)
  cases ef:f l with
  |some d=>rw[ef] at e2;subst e;exact e2
  |none=>
   rw[ef] at e2
   erw[RD]
   rw[e1]
   exact⟨e,xs,e2 _ s,RDs.rp ts ds xs r λk hk=>hl k (i5 _ hk)⟩
 | .dct l ks vs,v,h,hl=>by
  erw[Mi.rp,RD,labs] at h hl⊢
  obtain⟨e,s⟩:=h
  obtain⟨e1,e2⟩:=hl l (l5 ..)
  cases ef:f l with
  |some d=>rw[ef] at e2;subst e;exact e2
  |none=>
   rw[ef] at e2
   erw[RD]
   rw[e1]
   refine⟨e, ?_⟩
   rcases s with⟨kvs,s,s2,r⟩|⟨kvs,s,s2,r⟩
   .exact .inl ⟨kvs,e2 _ s,s2,RDs.rp ts vs _ r λk hk=>hl k (i5 _ (i4 _ hk))⟩
   .exact .inr ⟨kvs,e2 _ s,s2,RDs.rp ts vs _ r λk hk=>hl k (i5 _ (i4 _ hk))⟩
 | .obj l c ns vs,v,h,hl=>by
  erw[Mi.rp,RD,labs] at h hl⊢
  obtain⟨e,C,dx,fs,hC,s,s2,r⟩:=h
  obtain⟨e1,e2⟩:=hl l (l5 ..)
  cases ef:f l with
  |some d=>rw[ef] at e2;subst e;exact e2
  |none=>
   rw[ef] at e2
   erw[RD]
   rw[e1]
   exact⟨e,C,dx,fs,hC,e2 _ s,s2,RDs.rp ts vs _ r λk hk=>hl k (i5 _ hk)⟩
theorem RDs.rp(ts:v6 H H'): ∀(t:List D) (v:List V),RDs G ρ H t v->(∀l∈qq t,ρ' l=ρ l/\(match f l with|some d=>RD G ρ' H' d (.ref (ρ l))|none=> ∀o,H (ρ l)=some o->H' (ρ l)=some o))->RDs G ρ' H' (rpL f t) v
 |[],v,h,_=>by erw[rpL,RDs] at h⊢;exact h
 |d::ds,v,h,hl=>by
  erw[rpL,RDs,qq] at h hl⊢
  obtain⟨x,r,e,h1,h2⟩:=h
  exact⟨x,r,e,RD.rp ts d x h1 λl hk=>hl l (i7 _ hk),RDs.rp ts ds r h2 λl hk=>hl l (i4 _ hk)⟩
end
mutual
theorem z8B(l:Nat): ∀t:D,l∈labs (rp f t)->l∈labs t\/∃k d,k∈labs t/\f k=some d/\l∈labs d
 | .non,h=>by erw[rp,labs] at h;cases h
 | .bool b,h=>by erw[rp,labs] at h;cases h
 | .int b,h=>by erw[rp,labs] at h;cases h
 | .str b,h=>by erw[rp,labs] at h;cases h
 | .exc b,h=>by erw[rp,labs] at h;cases h
 | .fn b,h=>by erw[rp,labs] at h;cases h
 | .tup ds,h=>by
  erw[rp,labs] at h⊢
  exact labsL_rp l ds h
 | .ro ds,h=>by
  erw[rp,labs] at h⊢
  exact labsL_rp l ds h
 | .fdc ks vs,h=>by
  erw[rp,labs] at h⊢
  exact labsL_rp l vs h
 | .lst k ds,h=>by
  erw[rp] at h
  cases e:f k with
  |some d=>rw[e] at h;exact .inr ⟨k,d,by erw[labs];exact l5 ..,e,h⟩
  |none=>
   rw[e] at h
   erw[labs] at h⊢
   rcases l6.mp h with h|h
   .exact .inl (l6.mpr (.inl h))
   .rcases labsL_rp l ds h with q|⟨k',d,q1,q2,q3⟩
    .exact .inl (i5 _ q)
    .exact .inr ⟨k',d,i5 _ q1,q2,q3⟩
 | .dct k ks vs,h=>by
  erw[rp] at h
  cases e:f k with
  |some d=>rw[e] at h;exact .inr ⟨k,d,by erw[labs];exact l5 ..,e,h⟩
  |none=>
   rw[e] at h
   erw[labs] at h⊢
   rcases l6.mp h with h|h
   .exact .inl (l6.mpr (.inl h))
   .rcases i9.mp h with h|h
    .exact .inl (i5 _ (i7 _ h))
    .rcases labsL_rp l vs h with q|⟨k',d,q1,q2,q3⟩
     .exact .inl (i5 _ (i4 _ q))
     .exact .inr ⟨k',d,i5 _ (i4 _ q1),q2,q3⟩
 | .obj k c ns vs,h=>by
  erw[rp] at h
  cases e:f k with
  |some d=>rw[e] at h;exact .inr ⟨k,d,by erw[labs];exact l5 ..,e,h⟩
  |none=>
   rw[e] at h
   erw[labs] at h⊢
   rcases l6.mp h with h|h
   .exact .inl (l6.mpr (.inl h))
   .rcases labsL_rp l vs h with q|⟨k',d,q1,q2,q3⟩
    .exact .inl (i5 _ q)
    .exact .inr ⟨k',d,i5 _ q1,q2,q3⟩
theorem labsL_rp(l:Nat): ∀t:List D,l∈qq (rpL f t)->l∈qq t\/∃k d,k∈qq t/\f k=some d/\l∈labs d
 |[],h=>by erw[rpL,qq] at h;cases h
 |d::ds,h=>by
  erw[rpL,qq] at h⊢
  rcases i9.mp h with h|h
  .rcases z8B l d h with q|⟨k',d,q1,q2,q3⟩
   .exact .inl (i7 _ q)
   .exact .inr ⟨k',d,i7 _ q1,q2,q3⟩
  .rcases labsL_rp l ds h with q|⟨k',d,q1,q2,q3⟩
   .exact .inl (i4 _ q)
   .exact .inr ⟨k',d,i4 _ q1,q2,q3⟩
end
theorem z2A(l:Nat): ∀t:Qq,l∈Y6 (rpO f t)->l∈Y6 t\/∃k d,k∈Y6 t/\f k=some d/\l∈labs d
 |[],h=>by erw[rpO,Y6] at h;cases h
 |none::r,h=>by erw[rpO,Y6] at h⊢;exact z2A l r h
 |some d::ds,h=>by
  erw[rpO,Y6] at h⊢
  rcases i9.mp h with h|h
  .rcases z8B l d h with q|⟨k',d,q1,q2,q3⟩
   .exact .inl (i7 _ q)
   .exact .inr ⟨k',d,i7 _ q1,q2,q3⟩
  .rcases z2A l ds h with q|⟨k',d,q1,q2,q3⟩
   .exact .inl (i4 _ q)
   .exact .inr ⟨k',d,i4 _ q1,q2,q3⟩
end
structure Stt where
 σ:Qq
 tm:Qq
 n:Nat
structure Fx where
 A0:Addr->Prop
 H0:Hp
 Z:Addr->Prop
 zA: ∀a,Z a->(∃o,H0 a=some o)/\¬A0 a
 aH: ∀a,A0 a->∃o,H0 a=some o
 n0:Nat
 ρ0:Nat->Addr
noncomputable def KD(K:W.Frag)(H:Hp):Prop:= ∀a o,K.lookup a=some o->H a=none
section
variable(G:Gx)(ρ:Nat->Addr)(H:Hp)
noncomputable def Sl:Qq->List (Option V)->Prop
 |[],vs=>vs=[]
 |none::r,vs=> ∃o q,vs=o::q/\Sl r q
 |some d::r,vs=> ∃v q,vs=some v::q/\RD G ρ H d v/\Sl r q
end
noncomputable def V2(s:Stt):List Nat:=Y6 s.σ++Y6 s.tm
structure MR(G:Gx)(F:Fx)(ρ:Nat->Addr)(H:Hp)(σv tv:List (Option V))(s:Stt):Prop where
 sl:Sl G ρ H s.σ σv
 tm:Sl G ρ H s.tm tv
 inj: ∀i j,i<s.n->j<s.n->ρ i=ρ j->i=j
 dom: ∀l,l<s.n->∃o,H (ρ l)=some o
 lab: ∀l∈V2 s,l<s.n
 own: ∀l∈V2 s,F.A0 (ρ l)\/F.H0 (ρ l)=none
 frm: ∀a o,F.H0 a=some o->(∃o',H a=some o')/\(¬F.A0 a->H a=some o)
 kd:KD G.K H
 frb: ∀l,l<s.n->¬F.Z (ρ l)
 bas:F.n0<=s.n/\∀l,l<F.n0->ρ l=F.ρ0 l
noncomputable def Stt.psh(s:Stt)(t:D):Stt:={s with tm:=some t::s.tm}
noncomputable def Stt.nxt(s:Stt):Stt:={s with n:=s.n+1}
section
variable{G:Gx}{F:Fx}{ρ ρ':Nat->Addr}{H H':Hp}{σv tv:List (Option V)}{s:Stt}{t:D}{v:V}
theorem Sl.stay(ts:v6 H H'): ∀{σ:Qq} {σv:List (Option V)},Sl G ρ H σ σv->(∀l∈Y6 σ,ρ' l=ρ l/\∀o,H (ρ l)=some o->H' (ρ l)=some o)->Sl G ρ' H' σ σv
 |[],_,h,_=>h
 |none::r,_,h,hl=>by
  erw[Sl,Y6] at h hl⊢
  obtain⟨o,q,e,h⟩:=h
  exact⟨o,q,e,Sl.stay ts h hl⟩
 |some d::r,_,h,hl=>by
  erw[Sl,Y6] at h hl⊢
  obtain⟨o,q,e,h1,h⟩:=h
  exact⟨o,q,e,RD.stay ts d o h1 λl hk=>hl l (i7 _ hk),Sl.stay ts h λl hk=>hl l (i4 _ hk)⟩
theorem Sl.rp{f:Nat->Option D}(ts:v6 H H'): ∀{σ:Qq} {σv:List (Option V)},Sl G ρ H σ σv->
 (∀l∈Y6 σ,ρ' l=ρ l/\(match f l with|some d=>RD G ρ' H' d (.ref (ρ l))|none=> ∀o,H (ρ l)=some o->H' (ρ l)=some o))->Sl G ρ' H' (rpO f σ) σv
 |[],_,h,_=>h
 |none::r,_,h,hl=>by
  erw[Sl,Y6,rpO] at h hl⊢
  obtain⟨o,q,e,h⟩:=h
  exact⟨o,q,e,Sl.rp ts h hl⟩
 |some d::r,_,h,hl=>by
  erw[Sl,Y6,rpO] at h hl⊢
  obtain⟨o,q,e,h1,h⟩:=h
  exact⟨o,q,e,RD.rp ts d o h1 λl hk=>hl l (i7 _ hk),Sl.rp ts h λl hk=>hl l (i4 _ hk)⟩
theorem Sl.get: ∀{σ:Qq} {σv:List (Option V)},Sl G ρ H σ σv->∀(i:Nat) (d:D),σ[i]? =some (some d)->∃v,σv[i]? =some (some v)/\RD G ρ H d v
 |[],_,_,i,d,e=>by simp at e
 |none::r,_,h,i,d,e=>by
  erw[Sl] at h
  obtain⟨o,q,rfl,h⟩:=h
  cases i with
  |zero=>simp at e
  |succ i=>simpa using Sl.get h i d (by simpa using e)
 |some d'::r,_,h,i,d,e=>by
  erw[Sl] at h
  obtain⟨v,q,rfl,h1,h⟩:=h
  cases i with
  |zero=>simp at e;subst e;exact⟨v,rfl,h1⟩
  |succ i=>simpa using Sl.get h i d (by simpa using e)
theorem Sl.length: ∀{σ:Qq} {σv:List (Option V)},Sl G ρ H σ σv->σ.length=σv.length
 |[],_,h=>by erw[Sl] at h;subst h;rfl
 |none::r,_,h=>by
  erw[Sl] at h
  obtain⟨o,q,rfl,h⟩:=h
  simp[Sl.length h]
 |some d'::r,_,h=>by
  erw[Sl] at h
  obtain⟨v,q,rfl,h1,h⟩:=h
  simp[Sl.length h]
theorem Sl.set: ∀{σ:Qq} {σv:List (Option V)} (i:Nat),Sl G ρ H σ σv->RD G ρ H t v->Sl G ρ H (σ.set i (some t)) (σv.set i (some v))
 |[],_,i,h,_=>by erw[Sl] at h;subst h;simp[Sl]
 |none::r,_,i,h,ht=>by
  erw[Sl] at h
  obtain⟨o,q,rfl,h⟩:=h
  cases i with
  |zero=>erw[D4,Sl];exact⟨_,_,rfl,ht,h⟩
  |succ i=>erw[D5,Sl];exact⟨_,_,rfl,Sl.set i h ht⟩
 |some d'::r,_,i,h,ht=>by
  erw[Sl] at h
  obtain⟨v',q,rfl,h1,h⟩:=h
  cases i with
  |zero=>erw[D4,Sl];exact⟨_,_,rfl,ht,h⟩
  |succ i=>erw[D5,Sl];exact⟨_,_,rfl,h1,Sl.set i h ht⟩
theorem Sl.append: ∀{σ σ':Qq} {σv σv':List (Option V)},Sl G ρ H σ σv->Sl G ρ H σ' σv'->Sl G ρ H (σ++σ') (σv++σv')
 |[],_,_,_,h,h'=>by erw[Sl] at h;subst h;exact h'
 |none::r,_,_,_,h,h'=>by
  erw[Sl] at h
  obtain⟨o,q,rfl,h⟩:=h
  erw[B3,Sl];exact⟨_,_,rfl,Sl.append h h'⟩
 |some d'::r,_,_,_,h,h'=>by
  erw[Sl] at h
  obtain⟨v,q,rfl,h1,h⟩:=h
  erw[B3,Sl];exact⟨_,_,rfl,h1,Sl.append h h'⟩
theorem Sl.split: ∀(σv:List (Option V)) {σ:Qq} {tv:List (Option V)},Sl G ρ H σ (σv++tv)->Sl G ρ H (σ.take σv.length) σv/\Sl G ρ H (σ.drop σv.length) tv
 |[],σ,tv,h=>⟨by simp[Sl],by simpa using h⟩
 |o::σv,[],tv,h=>by simp[Sl] at h
 |o::σv,none::r,tv,h=>by
  erw[B3,Sl] at h
  obtain⟨o',q,e,h⟩:=h
  cases e
  obtain⟨h1,h2⟩:=Sl.split σv h
  erw[o0,F6,O7,Sl]
  exact⟨⟨_,_,rfl,h1⟩,h2⟩
 |o::σv,some d::r,tv,h=>by
  erw[B3,Sl] at h
  obtain⟨o',q,e,h0,h⟩:=h
  cases e
  obtain⟨h1,h2⟩:=Sl.split σv h
  erw[o0,F6,O7,Sl]
  exact⟨⟨_,_,rfl,h0,h1⟩,h2⟩
theorem z1G: ∀{σ:Qq} {i:Nat} {d:D},σ[i]? =some (some d)->∀l∈labs d,l∈Y6 σ
 |[],i,d,e,l,h=>by simp at e
 |none::r,i,d,e,l,h=>by
  erw[Y6]
  cases i with
  |zero=>simp at e
  |succ i=>exact z1G (i:=i) (by simpa using e) l h
 |some d'::r,i,d,e,l,h=>by
  erw[Y6]
  cases i with
  |zero=>simp at e;subst e;exact i7 _ h
  |succ i=>exact i4 _ (z1G (i:=i) (by simpa using e) l h)
theorem z2Y: ∀{σ:Qq} {i:Nat} {d:D} (l:Nat),l∈Y6 (σ.set i (some d))->l∈Y6 σ\/l∈labs d
 |[],i,d,l,h=>by simp[Y6] at h
 |none::r,i,d,l,h=>by
  cases i with
  |zero=>
   erw[D4,Y6] at h⊢
   rcases i9.mp h with h|h
   .exact .inr h
   .exact .inl h
  |succ i=>
   erw[D5,Y6] at h⊢
   exact z2Y l h
 |some d'::r,i,d,l,h=>by
  cases i with
  |zero=>
   erw[D4,Y6] at h⊢
   rcases i9.mp h with h|h
   .exact .inr h
   .exact .inl (i4 _ h)
  |succ i=>
   erw[D5,Y6] at h⊢
   rcases i9.mp h with h|h
   .exact .inl (i7 _ h)
   .rcases z2Y l h with q|q
    .exact .inl (i4 _ q)
    .exact .inr q
theorem Q3: ∀(σ σ':Qq),Y6 (σ++σ')=Y6 σ++Y6 σ'
 |[],_=>rfl
 |none::r,σ'=>by erw[B3,Y6,Q3 r σ']
 |some d::r,σ'=>by erw[B3,Y6,Q3 r σ',m9]
theorem U2: ∀(σ σ':List D),qq (σ++σ')=qq σ++qq σ'
 |[],_=>rfl
 |d::r,σ'=>by erw[B3,qq,U2 r σ',m9]
theorem G5: ∀{ds:List D} {d:D},d∈ds->∀l∈labs d,l∈qq ds
 |_::ds,d,h,l,hl=>by
  erw[qq]
  rcases l6.mp h with rfl|h
  .exact i7 _ hl
  .exact i4 _ (G5 h l hl)
theorem X7: ∀{ds:List D} {l:Nat},l∈qq ds->∃d∈ds,l∈labs d
 |d::ds,l,h=>by
  erw[qq] at h
  rcases i9.mp h with h|h
  .exact⟨d,l5 ..,h⟩
  .obtain⟨x,h1,h2⟩:=X7 h
   exact⟨x,i5 _ h1,h2⟩
theorem RDs.get: ∀{ds:List D} {xs:List V},RDs G ρ H ds xs->∀(i:Nat) (d:D),ds[i]? =some d->∃x,xs[i]? =some x/\RD G ρ H d x
 |[],_,_,i,d,e=>by simp at e
 |d'::r,_,h,i,d,e=>by
  erw[RDs] at h
  obtain⟨x,q,rfl,h1,h2⟩:=h
  cases i with
  |zero=>simp at e;subst e;exact⟨x,rfl,h1⟩
  |succ i=>simpa using RDs.get h2 i d (by simpa using e)
theorem RDs.length: ∀{ds:List D} {xs:List V},RDs G ρ H ds xs->ds.length=xs.length
 |[],_,h=>by erw[RDs] at h;subst h;rfl
 |d'::r,_,h=>by
  erw[RDs] at h
  obtain⟨x,q,rfl,h1,h2⟩:=h
  simp[RDs.length h2]
theorem RDs.append: ∀{ds es:List D} {xs ys:List V},RDs G ρ H ds xs->RDs G ρ H es ys->RDs G ρ H (ds++es) (xs++ys)
 |[],_,_,_,h,h'=>by erw[RDs] at h;subst h;exact h'
 |d'::r,_,_,_,h,h'=>by
  erw[RDs] at h
  obtain⟨x,q,rfl,h1,h2⟩:=h
  erw[B3,RDs]
  exact⟨_,_,rfl,h1,RDs.append h2 h'⟩
def RDs.one{d:D}{x:V}(h:RD G ρ H d x):RDs G ρ H [d] [x]:=by erw[RDs];exact⟨_,_,rfl,h,rfl⟩
theorem RDs.take: ∀{ds:List D} {xs:List V} (k:Nat),RDs G ρ H ds xs->RDs G ρ H (ds.take k) (xs.take k)
 |_,_,0,_=>by simp[RDs]
 |[],_,k+1,h=>by erw[RDs] at h;subst h;simp[RDs]
 |d'::r,_,k+1,h=>by
  erw[RDs] at h
  obtain⟨x,q,rfl,h1,h2⟩:=h
  erw[F6,RDs]
  exact⟨_,_,rfl,h1,RDs.take k h2⟩
theorem RDs.drop: ∀{ds:List D} {xs:List V} (k:Nat),RDs G ρ H ds xs->RDs G ρ H (ds.drop k) (xs.drop k)
 |_,_,0,h=>h
 |[],_,k+1,h=>by erw[RDs] at h;subst h;simp[RDs]
 |d'::r,_,k+1,h=>by
  erw[RDs] at h
  obtain⟨x,q,rfl,h1,h2⟩:=h
  erw[O7]
  exact RDs.drop k h2
theorem RDs.reverse: ∀{ds:List D} {xs:List V},RDs G ρ H ds xs->RDs G ρ H ds.reverse xs.reverse
 |[],_,h=>by erw[RDs] at h;subst h;simp[RDs]
 |d'::r,_,h=>by
  erw[RDs] at h
  obtain⟨x,q,rfl,h1,h2⟩:=h
  rw[A6,A6]
  exact RDs.append (RDs.reverse h2) (RDs.one h1)
theorem RDs.set: ∀{ds:List D} {xs:List V} (k:Nat),RDs G ρ H ds xs->RD G ρ H t v->RDs G ρ H (ds.set k t) (xs.set k v)
 |[],_,k,h,_=>by erw[RDs] at h;subst h;simp[RDs]
 |d'::r,_,0,h,ht=>by
  erw[RDs] at h
  obtain⟨x,q,rfl,h1,h2⟩:=h
  erw[D4,RDs];exact⟨_,_,rfl,ht,h2⟩
 |d'::r,_,k+1,h,ht=>by
  erw[RDs] at h
  obtain⟨x,q,rfl,h1,h2⟩:=h
  erw[D5,RDs];exact⟨_,_,rfl,h1,RDs.set k h2 ht⟩
def MR.pop{o:Option V}{r:Option D}(M:MR G F ρ H σv (o::tv) {s with tm:=r::s.tm}):MR G F ρ H σv tv s where
 sl:=M.sl
 tm:=by
  have h:=M.tm
  cases r with
  |none=>erw[Sl] at h;obtain⟨_,_,e,h⟩:=h;cases e;exact h
  |some t=>erw[Sl] at h;obtain⟨_,_,e,_,h⟩:=h;cases e;exact h
 inj:=M.inj
 dom:=M.dom
 lab:=λl h=>M.lab l (by
  rcases i9.mp h with h|h
  .exact i7 _ h
  .refine i4 _ ?_
   cases r with
   |none=>exact h
   |some t=>exact i4 _ h)
 own:=λl h=>M.own l (by
  rcases i9.mp h with h|h
  .exact i7 _ h
  .refine i4 _ ?_
   cases r with
   |none=>exact h
   |some t=>exact i4 _ h)
 frm:=M.frm
 kd:=M.kd
 frb:=M.frb
 bas:=M.bas
def MR.top(M:MR G F ρ H σv (some v::tv) (s.psh t)):RD G ρ H t v:=by
 have h:=M.tm
 have h:Sl G ρ H (some t::s.tm) (some v::tv):=h
 erw[Sl] at h
 obtain⟨_,_,e,h,_⟩:=h
 cases e
 exact h
def MR.topl(M:MR G F ρ H σv tv (s.psh t)): ∀l∈labs t,l<s.n/\(F.A0 (ρ l)\/F.H0 (ρ l)=none):=λl h=>
 have m:l∈V2 (s.psh t):=i4 _ (i7 _ h)
 ⟨M.lab l m,M.own l m⟩
def MR.same(M:MR G F ρ H σv tv s)(h:z3s H H')(k:KD G.K H'):MR G F ρ H' σv tv s where
 sl:=Sl.stay (v6.of h) M.sl λl _=>⟨rfl,λo e=>h _ _ e⟩
 tm:=Sl.stay (v6.of h) M.tm λl _=>⟨rfl,λo e=>h _ _ e⟩
 inj:=M.inj
 dom:=λl hl=>let⟨o,e⟩:=M.dom l hl;⟨o,h _ _ e⟩
 lab:=M.lab
 own:=M.own
 frm:=λa o e=>let⟨⟨o',e1⟩,e2⟩:=M.frm a o e;⟨⟨o',h _ _ e1⟩,λn=>h _ _ (e2 n)⟩
 kd:=k
 frb:=M.frb
 bas:=M.bas
def RDs.same{ts:List D}{vs:List V}(h:z3s H H')(r:RDs G ρ H ts vs):RDs G ρ H' ts vs:=RDs.stay (v6.of h) ts vs r λl _=>⟨rfl,λo e=>h _ _ e⟩
noncomputable def ext(ρ:Nat->Addr)(n:Nat)(p:Addr):Nat->Addr:=λl=>if l=n then p else ρ l
def j3{n l:Nat}{p:Addr}(h:l<n):ext ρ n p l=ρ l:=by delta ext;rw[qy ⋯]
def G8{n:Nat}{p:Addr}:ext ρ n p n=p:=by delta ext;rw[qw rfl]
def MR.new{p:Addr}{o:HO}(M:MR G F ρ H σv tv s)(hp:H p=none)(k:KD G.K (upd H p o)):MR G F (ext ρ s.n p) (upd H p o) σv tv s.nxt where
 sl:=Sl.stay (v6.of (z3s.new o hp)) M.sl λl hl=>⟨j3 (M.lab l (i7 _ hl)),λo e=>z3s.new _ hp _ _ e⟩
 tm:=Sl.stay (v6.of (z3s.new o hp)) M.tm λl hl=>⟨j3 (M.lab l (i4 _ hl)),λo e=>z3s.new _ hp _ _ e⟩
 inj:=λi j hi hj e=>by
  have hi:i<s.n+1:=hi
  have hj:j<s.n+1:=hj
  have nn: ∀i,i<s.n->ρ i≠p:=λi h e=>by
   obtain⟨o,q⟩:=M.dom i h
   rw[e,hp] at q;cases q
  by_cases h1:i=s.n
  .by_cases h2:j=s.n
   .lia
   .rw[h1,G8,j3 ⋯] at e
    exact absurd e.symm (nn j ⋯)
  .by_cases h2:j=s.n
   .rw[h2,G8,j3 ⋯] at e
    exact absurd e (nn i ⋯)
   .rw[j3 ⋯,j3 ⋯] at e
    exact M.inj i j ⋯ ⋯ e
 dom:=λl hl=>by
  have hl:l<s.n+1:=hl
  by_cases h1:l=s.n
  .subst h1;rw[G8];exact⟨o,Z6⟩
  .rw[j3 ⋯]
   obtain⟨o',e⟩:=M.dom l ⋯
   exact⟨o',z3s.new _ hp _ _ e⟩
 lab:=λl h=>F3 (M.lab l h)
 own:=λl h=>by rw[j3 (M.lab l h)];exact M.own l h
 frm:=λa o e=>let⟨⟨o',e1⟩,e2⟩:=M.frm a o e;⟨⟨o',z3s.new _ hp _ _ e1⟩,λn=>z3s.new _ hp _ _ (e2 n)⟩
 kd:=k
 frb:=λl hl=>by
  have hl:l<s.n+1:=hl
  by_cases h1:l=s.n
  .subst h1;rw[G8]
   intro z
   obtain⟨⟨o,e⟩,_⟩:=F.zA p z
   obtain⟨⟨o',e'⟩,_⟩:=M.frm p o e
   rw[hp] at e';cases e'
  .rw[j3 ⋯]
   exact M.frb l ⋯
 bas:=⟨u06 M.bas.1,λl hl=>by rw[j3 (t7 hl M.bas.1)];exact M.bas.2 l hl⟩
def MR.fresh0{p:Addr}(M:MR G F ρ H σv tv s)(hp:H p=none):F.H0 p=none:=by
 cases q:F.H0 p with
 |none=>rfl
 |some o=>
  obtain⟨⟨o',e⟩,_⟩:=M.frm p o q
  rw[hp] at e;cases e
noncomputable def Stt.put(s:Stt)(l:Nat)(d:D):Stt:={s with σ:=rpO (λk=>if k=l then some d else none) s.σ,tm:=rpO (λk=>if k=l then some d else none) s.tm}
end
inductive Res(α:Type) where
 |ok (a:α) (s:Stt)|ex (d:D) (s:Stt)|no
noncomputable abbrev M(α:Type):=Stt->Res α
noncomputable def bd{α β:Type}(m:M α)(f:α->M β):M β:=λs=>match m s with
 | .ok a s'=>f a s'
 | .ex d s'=> .ex d s'
 | .no=> .no
noncomputable def rt{α:Type}(a:α):M α:=λs=> .ok a s
noncomputable def fl{α:Type}:M α:=λ_=> .no
noncomputable def psh(t:D):M Unit:=λs=> .ok () (s.psh t)
noncomputable def pop:M D:=λs=>match s.tm with
 |some t::r=> .ok t {s with tm:=r}
 |_=> .no
structure Fy extends Fx where
 tv0:List (Option V)
 xw:D->Stt->Prop
structure MRL(G:Gx)(F:Fx)(ρ:Nat->Addr)(H:Hp)(σv tv:List (Option V))(s:Stt)(ts:List D)(vs:List V):Prop where
 m:MR G F ρ H σv tv s
 rd:RDs G ρ H ts vs
 lb: ∀l∈qq ts,l<s.n/\(F.A0 (ρ l)\/F.H0 (ρ l)=none)
section
variable{G:Gx}{F:Fy}{ρ ρ':Nat->Addr}{H H':Hp}{σv tv:List (Option V)}{s:Stt}{t t':D}{v u:V}{ts:List D}{vs:List V}{Q:VK}
def MRL.rd1(M:MRL G F.toFx ρ H σv tv s [t] [v]):RD G ρ H t v:=by
 have h:=M.rd
 erw[RDs] at h
 obtain⟨_,_,e,h,_⟩:=h
 cases e;exact h
def MRL.rd2(M:MRL G F.toFx ρ H σv tv s [t,t'] [v,u]):RD G ρ H t v/\RD G ρ H t' u:=by
 have h:=M.rd
 erw[RDs] at h
 obtain⟨_,_,e,h,_,_,e',h',_⟩:=h
 cases e;cases e';exact⟨h,h'⟩
def MRL.push(M:MRL G F.toFx ρ H σv tv s [t] [v]):MR G F.toFx ρ H σv (some v::tv) (s.psh t):=by
 have hl: ∀l∈labs t,l<s.n/\(F.A0 (ρ l)\/F.H0 (ρ l)=none):=λl h=>M.lb l (by erw[qq,l4];exact h)
 refine⟨M.m.sl, ?_,M.m.inj,M.m.dom,λl h=> ?_,λl h=> ?_,M.m.frm,M.m.kd,M.m.frb,M.m.bas⟩
 .show Sl G ρ H (some t::s.tm) _
  erw[Sl]
  exact⟨v,tv,rfl,M.rd1,M.m.tm⟩
 .have h:l∈Y6 s.σ++(labs t++Y6 s.tm):=h
  rcases i9.mp h with h|h
  .exact M.m.lab l (i7 _ h)
  .rcases i9.mp h with h|h
   .exact(hl l h).1
   .exact M.m.lab l (i4 _ h)
 .have h:l∈Y6 s.σ++(labs t++Y6 s.tm):=h
  rcases i9.mp h with h|h
  .exact M.m.own l (i7 _ h)
  .rcases i9.mp h with h|h
   .exact(hl l h).2
   .exact M.m.own l (i4 _ h)
def MRL.down{s':Stt}{r:Qq}(M:MRL G F.toFx ρ H σv (some v::tv) s' ts vs)(e:s'.tm=some t::r):MRL G F.toFx ρ H σv tv {s' with tm:=r} (t::ts) (v::vs):=by
 obtain⟨σ,tm,n⟩:=s'
 have e:tm=some t::r:=e
 subst e
 refine⟨MR.pop (s:=⟨σ,r,n⟩) M.m, ?_,λl h=> ?_⟩
 .erw[RDs]
  exact⟨v,vs,rfl,MR.top (s:=⟨σ,r,n⟩) M.m,M.rd⟩
 .erw[qq] at h
  rcases i9.mp h with h|h
  .exact MR.topl (s:=⟨σ,r,n⟩) M.m l h
  .exact M.lb l h
noncomputable def wM(G:Gx)(F:Fy)(σv tv:List (Option V))(r:Res D)(Q:VK):Prop:=match r with
 | .ok t s'=> ∀ρ' v H',MRL G F.toFx ρ' H' σv tv s' [t] [v]->Q v H'
 | .ex d s'=>F.xw d s'
 | .no=>False
noncomputable def wL(G:Gx)(F:Fy)(σv tv:List (Option V))(r:Res (List D))(Q:List V->Hp->Prop):Prop:=match r with
 | .ok ts s'=> ∀ρ' vs H',MRL G F.toFx ρ' H' σv tv s' ts vs->Q vs H'
 | .ex d s'=>F.xw d s'
 | .no=>False
noncomputable def wB(G:Gx)(F:Fy)(σv tv:List (Option V))(r:Res Bool)(Q:Bool->Hp->Prop):Prop:=match r with
 | .ok b s'=> ∀ρ' H',MR G F.toFx ρ' H' σv tv s'->Q b H'
 | .ex d s'=>F.xw d s'
 | .no=>False
noncomputable def tMv(G:Gx)(F:Fy)(m:M D)(σv tv:List (Option V))(H:Hp)(Q:VK):Prop:=F.tv0<:+tv/\∃ρ s,MR G F.toFx ρ H σv tv s/\wM G F σv tv (m s) Q
noncomputable def tLv(G:Gx)(F:Fy)(m:M (List D))(σv tv:List (Option V))(H:Hp)(Q:List V->Hp->Prop):Prop:=F.tv0<:+tv/\∃ρ s,MR G F.toFx ρ H σv tv s/\wL G F σv tv (m s) Q
noncomputable def tBv(G:Gx)(F:Fy)(m:M Bool)(σv tv:List (Option V))(H:Hp)(Q:Bool->Hp->Prop):Prop:=F.tv0<:+tv/\∃ρ s,MR G F.toFx ρ H σv tv s/\wB G F σv tv (m s) Q
noncomputable def tM(G:Gx)(F:Fy)(m:M D):TE:=λ σv H Q=> ∃tv,tMv G F m σv tv H Q
noncomputable def tML(G:Gx)(F:Fy)(m:M (List D)):TA:=λ σv H Q=> ∃tv,tLv G F m σv tv H Q
noncomputable def tMB(G:Gx)(F:Fy)(m:M Bool):TT:=λ σv H Q=> ∃tv,tBv G F m σv tv H Q
noncomputable def SE(X:Cx)(G:Gx)(F:Fy)(e:bh)(m:M D):Prop:=PE X e (tM G F m)
noncomputable def SA(X:Cx)(G:Gx)(F:Fy)(es:List bh)(m:M (List D)):Prop:=PA X es (tML G F m)
noncomputable def SB(X:Cx)(G:Gx)(F:Fy)(e:bh)(m:M Bool):Prop:=PT X e (tMB G F m)
def z8C{o:Option V}(h:F.tv0<:+tv):F.tv0<:+o::tv:=h.trans (List.suffix_cons _ _)
def zaj{m:M D}{f:D->M D}(h:tMv G F (bd m f) σv tv H Q):tMv G F m σv tv H (λv H1=> ∃ρ1 s1 t,MRL G F.toFx ρ1 H1 σv tv s1 [t] [v]/\wM G F σv tv (f t s1) Q):=by
 obtain⟨hs,ρ,s,M,W⟩:=h
 refine⟨hs,ρ,s,M, ?_⟩
 unfold bd at W
 cases e:m s with
 |ok t s1=>rw[e] at W;exact λ ρ1 v H1 M1=>⟨ρ1,s1,t,M1,W⟩
 |ex d s1=>rw[e] at W;exact W
 |no=>rw[e] at W;exact W
noncomputable def Z5(ma mb:M D)(g:D->D->M D):M D:=bd ma λx=>bd (psh x) λ_=>bd mb λy=>bd pop λx'=>g x' y
def z8D{ma mb:M D}{g:D->D->M D}(h:tMv G F (Z5 ma mb g) σv tv H Q):
 tMv G F ma σv tv H (λv H1=>tMv G F mb σv (some v::tv) H1 (λu H2=> ∃ρ2 s2 t t',MRL G F.toFx ρ2 H2 σv tv s2 [t,t'] [v,u]/\wM G F σv tv (g t t' s2) Q)):=by
 have h':=zaj h
 obtain⟨hs,ρ,s,M,W⟩:=h'
 refine⟨hs,ρ,s,M, ?_⟩
 cases e:ma s with
 |ok t s1=>
  rw[e] at W
  intro ρ1 v H1 M1
  obtain⟨ρ1,s1,t,M1,W⟩:=W ρ1 v H1 M1
  refine⟨z8C hs,ρ1,s1.psh t,M1.push, ?_⟩
  erw[bd,psh] at W
  cases e2:mb (s1.psh t) with
  |ok y s2=>
   rw[e2] at W
   intro ρ2 u H2 M2
   erw[pop] at W
   cases e3:s2.tm with
   |nil=>rw[e3] at W;exact W.elim
   |cons o r=>
    cases o with
    |none=>rw[e3] at W;exact W.elim
    |some t'=>
     rw[e3] at W
     exact⟨ρ2,{s2 with tm:=r},t',y,M2.down e3,W⟩
  |ex d s2=>rw[e2] at W;exact W
  |no=>rw[e2] at W;exact W
 |ex d s1=>rw[e] at W;exact W
 |no=>rw[e] at W;exact W
noncomputable def Q2:List (M D)->M (List D)
 |[]=>rt []
 |m::ms=>bd m λx=>bd (psh x) λ_=>bd (Q2 ms) λys=>bd pop λx'=>rt (x'::ys)
variable{X:Cx}{e a b c:bh}{pos:bT}
def Inv.kd{qx:List (Addr×bE)}{σ:St}{H:Hp}{s:bf}(I:Inv X qx σ H s):KD X.K H:=λa o e=>(I.bs a o (I.ok.mod.kin a o e)).2
def PE.imp{t t':TE}(hk:X.K=G.K)(h:PE X e t)(hi: ∀σ H Q,t' σ H Q->t σ H (λv H'=>KD G.K H'->Q v H')):PE X e t':=λqx s σ H Q I q=>
 thn (h qx s σ H _ I (hi σ H Q q)) λu s' ⟨v,H',I',r,k⟩=>⟨v,H',I',r,k (hk▸Inv.kd I')⟩
def PT.imp{t t':TT}(hk:X.K=G.K)(h:PT X e t)(hi: ∀σ H Q,t' σ H Q->t σ H (λv H'=>KD G.K H'->Q v H')):PT X e t':=λqx s σ H Q I q=>
 thn (h qx s σ H _ I (hi σ H Q q)) λu s' ⟨H',I',k⟩=>⟨H',I',k (hk▸Inv.kd I')⟩
def PA.imp{es:List bh}{t t':TA}(hk:X.K=G.K)(h:PA X es t)(hi: ∀σ H Q,t' σ H Q->t σ H (λv H'=>KD G.K H'->Q v H')):PA X es t':=λpos qx s σ H Q I q=>
 thn (h pos qx s σ H _ I (hi σ H Q q)) λu s' ⟨v,H',I',r,k⟩=>⟨v,H',I',r,k (hk▸Inv.kd I')⟩
noncomputable def z9J(G:Gx)(F:Fy)(r:R2)(g:D->D->M D):Prop:= ∀ρ s t t' v u H σv tv Q,MRL G F.toFx ρ H σv tv s [t,t'] [v,u]->wM G F σv tv (g t t' s) Q->r v u H (λw H'=>KD G.K H'->Q w H')
noncomputable def z1W(G:Gx)(F:Fy)(r:R2)(g:D->D->M D):Prop:= ∀ρ s t t' v u H σv tv Q,MRL G F.toFx ρ H σv tv s [t,t'] [v,u]->wM G F σv tv (g t t' s) Q->r v u H Q
noncomputable def K3(G:Gx)(F:Fy)(r:List V->Hp->VK->Prop)(g:List D->M D):Prop:= ∀ρ s ts vs H σv tv Q,MRL G F.toFx ρ H σv tv s ts vs->wM G F σv tv (g ts s) Q->r vs H (λw H'=>KD G.K H'->Q w H')
def z8E{op:fb}{r:R2}{ma mb:M D}{g:D->D->M D}(hk:X.K=G.K)(ho:OpR X (bY op) r)(hg:z9J G F r g)(ha:SE X G F a ma)(hb:SE X G F b mb):SE X G F (.BinOp a op b pos) (Z5 ma mb g):=by
 refine PE.imp hk (zhK ho ha hb) λ σ H Q ⟨tv,h⟩=>⟨tv, ?_⟩
 obtain⟨hs,ρ,s,M,W⟩:=z8D h
 refine⟨hs,ρ,s,M, ?_⟩
 cases e:ma s with
 |ok t s1=>
  rw[e] at W
  intro ρ1 v H1 M1
  refine⟨some v::tv, ?_⟩
  obtain⟨hs2,ρ2,s2,M2,W2⟩:=W ρ1 v H1 M1
  refine⟨hs2,ρ2,s2,M2, ?_⟩
  cases e2:mb s2 with
  |ok t2 s3=>
   rw[e2] at W2
   intro ρ3 u H3 M3
   obtain⟨ρ4,s4,x,y,M4,W4⟩:=W2 ρ3 u H3 M3
   exact hg _ _ _ _ _ _ _ _ _ _ M4 W4
  |ex d s3=>rw[e2] at W2;exact W2
  |no=>rw[e2] at W2;exact W2
 |ex d s1=>rw[e] at W;exact W
 |no=>rw[e] at W;exact W
def wM.mono{σv tv:List (Option V)}{r:Res D}{Q Q':VK}(h:wM G F σv tv r Q)(k: ∀v H,Q v H->Q' v H):wM G F σv tv r Q':=by
 cases r with
 |ok t s=>exact λ ρ v H M=>k _ _ (h ρ v H M)
 |ex d s=>exact h
 |no=>exact h
def tMv.mono{m:M D}{σv tv:List (Option V)}{H:Hp}{Q Q':VK}(h:tMv G F m σv tv H Q)(k: ∀v H,Q v H->Q' v H):tMv G F m σv tv H Q':=by
 obtain⟨hs,ρ,s,M,W⟩:=h
 exact⟨hs,ρ,s,M,W.mono k⟩
def z8F{ma mb:M D}{g:D->D->M D}{R:V->V->Hp->VK->Prop}{σv:St}{H:Hp}{Q:VK}(hg:z9J G F R g)(h:tM G F (Z5 ma mb g) σv H Q):
 tM G F ma σv H λx H1=>tM G F mb σv H1 λy H2=>R x y H2 λw H'=>KD G.K H'->Q w H':=by
 obtain⟨tv,h⟩:=h
 exact⟨tv,(z8D h).mono λv H1 h1=>⟨_,h1.mono λu H2 ⟨ρ,s,t,t',M,W⟩=>hg _ _ _ _ _ _ _ _ _ _ M W⟩⟩
def z6C{ma mb:M D}{g:D->D->M D}{R:V->V->Hp->VK->Prop}{σv:St}{H:Hp}{Q:VK}(hg:z1W G F R g)(h:tM G F (Z5 ma mb g) σv H Q):
 tM G F ma σv H λx H1=>tM G F mb σv H1 λy H2=>R x y H2 Q:=by
 obtain⟨tv,h⟩:=h
 exact⟨tv,(z8D h).mono λv H1 h1=>⟨_,h1.mono λu H2 ⟨ρ,s,t,t',M,W⟩=>hg _ _ _ _ _ _ _ _ _ _ M W⟩⟩
def PE.imp0{t t':TE}(h:PE X e t)(hi: ∀σ H Q,t' σ H Q->t σ H Q):PE X e t':=λqx s σ H Q I q=>h qx s σ H _ I (hi σ H Q q)
def PT.imp0{t t':TT}(h:PT X e t)(hi: ∀σ H Q,t' σ H Q->t σ H Q):PT X e t':=λqx s σ H Q I q=>h qx s σ H _ I (hi σ H Q q)
def zcU{op:fe}{r:R2}{ma mb:M D}{g:D->D->M D}(ho:OpR X (bH op) r)(hg:z1W G F r g)(ha:SE X G F a ma)(hb:SE X G F b mb)(hm:bO op b=false):SE X G F (.Compare a [op] [b] pos) (Z5 ma mb g):=
 PE.imp0 (zcp ho ha hb hm) λ_ _ _ h=>z6C hg h
def zig{r:R2}{ma mb:M D}{g:D->D->M D}(hk:X.K=G.K)(ho:IxR X r)(hg:z9J G F r g)(ha:SE X G F a ma)(hb:SE X G F b mb)(hs:z1T b):SE X G F (.Subscript a b pos) (Z5 ma mb g):=
 PE.imp hk (zhU ho ha hb hs) λ_ _ _ h=>z8F hg h
def zfu(hk:X.K=G.K):SA X G F [] (Q2 []):=by
 refine PA.imp hk zbl λ σ H Q ⟨tv,hs,ρ,s,M,W⟩ _=>W ρ [] H ⟨M,rfl,λl h=>by simp[qq] at h⟩
noncomputable def nst:bh->Bool
 | .Starred _ _=>false
 |_=>true
def z8G{es:List bh}{env:dn}(h:nst e=true):bj (e::es) env=(false,bF e env)::bj es env:=by
 cases e<;>first|rfl|exact u0b h
def zcV{es:List bh}{m:M D}{ms:List (M D)}(hk:X.K=G.K)(ha:SE X G F e m)(hr:SA X G F es (Q2 ms))(hs:nst e=true:=by rfl):SA X G F (e::es) (Q2 (m::ms)):=by
 refine PA.imp hk (z5G ha hr (z8G hs)) λ σ H Q ⟨tv,hs,ρ,s,M,W⟩=>⟨tv,hs,ρ,s,M, ?_⟩
 unfold Q2 at W
 erw[bd,psh] at W
 cases e:m s with
 |ok t s1=>
  rw[e] at W
  intro ρ1 v H1 M1
  refine⟨some v::tv,z8C hs,ρ1,s1.psh t,M1.push, ?_⟩
  dsimp only at W
  cases e2:Q2 ms (s1.psh t) with
  |ok ys s2=>
   rw[e2] at W
   intro ρ2 us H2 M2 _
   erw[pop,rt] at W
   cases e3:s2.tm with
   |nil=>rw[e3] at W;exact W.elim
   |cons o r=>
    cases o with
    |none=>rw[e3] at W;exact W.elim
    |some t'=>
     rw[e3] at W
     exact W ρ2 (v::us) H2 (M2.down e3)
  |ex d s2=>rw[e2] at W;exact W
  |no=>rw[e2] at W;exact W
 |ex d s1=>rw[e] at W;exact W
 |no=>rw[e] at W;exact W
noncomputable def mCB(ms:List (M D))(g:List D->M D):M D:=bd (Q2 ms) g
def z2B{ma:M (List D)}{g:List D->M D}{R:List V->Hp->VK->Prop}{σv:St}{H:Hp}{Q:VK}(hg:K3 G F R g)(h:tM G F (bd ma g) σv H Q):
 tML G F ma σv H λxs H1=>R xs H1 λw H'=>KD G.K H'->Q w H':=by
 obtain⟨tv,hs,ρ,s,M,W⟩:=h
 refine⟨tv,hs,ρ,s,M, ?_⟩
 delta bd at W
 cases e:ma s with
 |ok ts s1=>rw[e] at W;exact λ ρ1 vs H1 M1=>hg _ _ _ _ _ _ _ _ M1 W
 |ex d s1=>rw[e] at W;exact W
 |no=>rw[e] at W;exact W
def zak{x:Str}{p:bT}{es:List bh}{ms:List (M D)}{g:List D->M D}{id:String}{r:List V->Hp->VK->Prop}(hk:X.K=G.K)(hc:CallR X (.builtin id) r)(hg:K3 G F r g)(hgl:Gl X x)(hm:X.mg x=none)(hv:bG x=some (.builtin id))(ha:SA X G F (e::es) (Q2 ms))(hn:x≠ "__name__" :=by decide)(hdb:(x==("__debug__" :Str))=false:=by decide)
 (he:bj (e::es) X.env=(false,bF e X.env)::bj es X.env:=by rfl) (hpl:(bN pos (bj es X.env)).any (·.1)=false:=by rfl):SE X G F (.Call (.Name x p) (e::es) [] pos) (mCB ms g):=
 PE.imp hk (z6t hc hgl hm hv ha hn hdb he hpl) λ_ _ _ h=>z2B hg h
def z8H{x:Str}{p:bT}{es:List bh}{ms:List (M D)}{g:List D->M D}{T:String}{r:List V->Hp->VK->Prop}(hk:X.K=G.K)(hc:CallR X (.type T) r)(hg:K3 G F r g)(hgl:Gl X x)(hm:X.mg x=none)(hv:bG x=some (.type T))(ha:SA X G F (e::es) (Q2 ms))(hn:x≠ "__name__" :=by decide)(hdb:(x==("__debug__" :Str))=false:=by decide)
 (he:bj (e::es) X.env=(false,bF e X.env)::bj es X.env:=by rfl) (hpl:(bN pos (bj es X.env)).any (·.1)=false:=by rfl):SE X G F (.Call (.Name x p) (e::es) [] pos) (mCB ms g):=
 PE.imp hk (z7Z hc hgl hm hv ha hn hdb he hpl) λ_ _ _ h=>z2B hg h
noncomputable def Z0(i:Nat):M D:=λs=>match s.σ[i]? with
 |some (some t)=> .ok t s
 |_=> .no
noncomputable def cV:D->Option V
 | .non=>some .non| .bool b=>some (.bl b)| .int i=>some (.int i)| .str x=>some (.str x)|_=>none
def zal{d:D}{v:V}{ρ:Nat->Addr}{H:Hp}(h:cV d=some v):RD G ρ H d v/\labs d=[]:=by
 cases d<;>erw[cV,Option.some.injEq] at h<;>first|(subst h;exact⟨by erw[RD],by erw[labs]⟩)|cases h
noncomputable def mC(d:D):M D:=rt d
def wM.out{σv tv:List (Option V)}{s:Stt}{t:D}{v:V}{ρ:Nat->Addr}{H:Hp}{Q:VK}(W:wM G F σv tv (.ok t s) Q)(M:MR G F.toFx ρ H σv tv s)(h:RD G ρ H t v)(hl: ∀l∈labs t,l<s.n/\(F.A0 (ρ l)\/F.H0 (ρ l)=none)):Q v H:=
 W ρ v H ⟨M,RDs.one h,λl q=>hl l (by simpa only[qq,l4] using q)⟩
def wM.flat{σv tv:List (Option V)}{s:Stt}{t:D}{v:V}{ρ:Nat->Addr}{H:Hp}{Q:VK}(W:wM G F σv tv (.ok t s) Q)(M:MR G F.toFx ρ H σv tv s)(h:cV t=some v):Q v H:=
 W.out M (zal h).1 λl q=>by rw[(zal (G:=G) (ρ:=ρ) (H:=H) h).2] at q;cases q
end
mutual
noncomputable def er:D->PyData
 | .non=> .none| .bool b=> .bool b| .int i=> .int i| .str x=> .str x
 | .tup ds=> .tuple (erL ds)
 | .ro ds=> .list (erL ds)
 | .lst _ ds=> .list (erL ds)
 | .dct _ _ _=> .none
 | .obj _ _ _ _=> .none
 | .exc _=> .none| .fn _=> .none| .fdc _ _=> .none
noncomputable def erL:List D->List PyData
 |[]=>[]
 |d::ds=>er d::erL ds
end
mutual
noncomputable def plain:D->Bool
 | .non=>true| .bool _=>true| .int _=>true| .str _=>true
 | .tup ds=>plainL ds
 | .ro ds=>plainL ds
 | .lst _ ds=>plainL ds
 | .dct _ _ _=>false
 | .obj _ _ _ _=>false
 | .exc _=>false| .fn _=>false| .fdc _ _=>false
noncomputable def plainL:List D->Bool
 |[]=>true
 |d::ds=>plain d&&plainL ds
end
noncomputable def z5C:D->Option (List D)
 | .tup ds=>some ds| .ro ds=>some ds| .lst _ ds=>some ds|_=>none
noncomputable def zeg:D->Option (List D)
 | .ro ds=>some ds| .lst _ ds=>some ds|_=>none
section
variable{G:Gx}{F:Fy}{ρ:Nat->Addr}{H H':Hp}{σv tv:List (Option V)}{s:Stt}{t t':D}{v u:V}{ts ds:List D}{vs xs:List V}{Q:VK}
mutual
theorem RD.dp: ∀(t:D) (v:V),RD G ρ H t v->plain t=true->Dp G.K H (er t) v
 | .non,v,h,_=>by erw[RD,er,Dp] at h⊢;exact h
 | .bool b,v,h,_=>by erw[RD,er,Dp] at h⊢;exact h
 | .int b,v,h,_=>by erw[RD,er,Dp] at h⊢;exact h
 | .str b,v,h,_=>by erw[RD,er,Dp] at h⊢;exact h
 | .tup ds,v,h,p=>by
  erw[RD,er,Dp,plain] at h p⊢
  obtain⟨a,xs,e,s,r⟩:=h
  exact⟨a,xs,e,SqT.of s,RDs.dp ds xs r p⟩
 | .ro ds,v,h,p=>by
  erw[RD,er,Dp,plain] at h p⊢
  obtain⟨a,xs,e,s,r⟩:=h
  exact⟨a,xs,e,s.sq,RDs.dp ds xs r p⟩
 | .lst l ds,v,h,p=>by
  erw[RD,er,Dp,plain] at h p⊢
  obtain⟨e,xs,s,r⟩:=h
  exact⟨_,xs,e,SqL.of s,RDs.dp ds xs r p⟩
 | .dct l ks vs,v,h,p=>by erw[plain] at p;cases p
 | .fdc ks vs,v,h,p=>by erw[plain] at p;cases p
 | .obj l c ns vs,v,h,p=>by erw[plain] at p;cases p
 | .exc c,v,h,p=>by erw[plain] at p;cases p
 | .fn c,v,h,p=>by erw[plain] at p;cases p
theorem RDs.dp: ∀(t:List D) (v:List V),RDs G ρ H t v->plainL t=true->DpAll G.K H (erL t) v
 |[],v,h,_=>by erw[RDs,erL,DpAll] at h⊢;exact h
 |d::ds,v,h,p=>by
  erw[RDs,erL,DpAll,plainL,A3] at h p⊢
  obtain⟨x,r,e,h1,h2⟩:=h
  exact⟨x,r,e,RD.dp d x h1 p.1,RDs.dp ds r h2 p.2⟩
end
def RD.seq(h:RD G ρ H t v)(e:z5C t=some ds): ∃a xs,v= .ref a/\(SqL G.K H a xs\/SqT G.K H a xs)/\RDs G ρ H ds xs/\∀l∈qq ds,l∈labs t:=by
 cases t<;>erw[z5C,Option.some.injEq] at e<;>try cases e
 .erw[RD] at h
  obtain⟨a,xs,e,s,r⟩:=h
  exact⟨a,xs,e, .inr (SqT.of s),r,λl hl=>by erw[labs];exact hl⟩
 .erw[RD] at h
  obtain⟨a,xs,e,s,r⟩:=h
  exact⟨a,xs,e, .inl s.sq,r,λl hl=>by erw[labs];exact hl⟩
 .erw[RD] at h
  obtain⟨e,xs,s,r⟩:=h
  exact⟨_,xs,e, .inl (SqL.of s),r,λl hl=>by erw[labs];exact i5 _ hl⟩
def RD.lstq(h:RD G ρ H t v)(e:zeg t=some ds): ∃a xs,v= .ref a/\SqL G.K H a xs/\RDs G ρ H ds xs/\∀l∈qq ds,l∈labs t:=by
 cases t<;>erw[zeg,Option.some.injEq] at e<;>try cases e
 .erw[RD] at h
  obtain⟨a,xs,e,s,r⟩:=h
  exact⟨a,xs,e,s.sq,r,λl hl=>by erw[labs];exact hl⟩
 .erw[RD] at h
  obtain⟨e,xs,s,r⟩:=h
  exact⟨_,xs,e,SqL.of s,r,λl hl=>by erw[labs];exact i5 _ hl⟩
def RD.tupx(h:RD G ρ H (.tup ds) v): ∃a xs,v= .ref a/\H a=some (.tup xs)/\RDs G ρ H ds xs:=by
 erw[RD] at h;exact h
def RD.tupq(h:RD G ρ H (.tup ds) v): ∃a xs,v= .ref a/\SqT G.K H a xs/\RDs G ρ H ds xs:=by
 obtain⟨a,xs,e,s,r⟩:=h.tupx
 exact⟨a,xs,e,SqT.of s,r⟩
def RD.seqx(h:RD G ρ H t v)(e:z5C t=some ds): ∃a xs,v= .ref a/\(SqL G.K H a xs\/H a=some (.tup xs))/\RDs G ρ H ds xs/\∀l∈qq ds,l∈labs t:=by
 cases t<;>erw[z5C,Option.some.injEq] at e<;>try cases e
 .erw[RD] at h
  obtain⟨a,xs,e,s,r⟩:=h
  exact⟨a,xs,e, .inr s,r,λl hl=>by erw[labs];exact hl⟩
 .erw[RD] at h
  obtain⟨a,xs,e,s,r⟩:=h
  exact⟨a,xs,e, .inl s.sq,r,λl hl=>by erw[labs];exact hl⟩
 .erw[RD] at h
  obtain⟨e,xs,s,r⟩:=h
  exact⟨_,xs,e, .inl (SqL.of s),r,λl hl=>by erw[labs];exact i5 _ hl⟩
def MRL.lb1(M:MRL G F.toFx ρ H σv tv s [t] [v]): ∀l∈labs t,l<s.n/\(F.A0 (ρ l)\/F.H0 (ρ l)=none):=λl h=>M.lb l (by erw[qq,l4];exact h)
def MRL.lb2(M:MRL G F.toFx ρ H σv tv s [t,t'] [v,u]):(∀l∈labs t,l<s.n/\(F.A0 (ρ l)\/F.H0 (ρ l)=none))/\(∀l∈labs t',l<s.n/\(F.A0 (ρ l)\/F.H0 (ρ l)=none)):=
 ⟨λl h=>M.lb l (by erw[qq,l4];exact i7 _ h),λl h=>M.lb l (by erw[qq,l4];exact i4 _ h)⟩
noncomputable abbrev LB(F:Fx)(ρ:Nat->Addr)(n:Nat)(ls:List Nat):Prop:= ∀l∈ls,l<n/\(F.A0 (ρ l)\/F.H0 (ρ l)=none)
def z48(W:wM G F σv tv (.ok (.tup ds) s) Q)(M:MR G F.toFx ρ H σv tv s)(r:RDs G ρ H ds xs)(lb:LB F.toFx ρ s.n (qq ds)):zag G.K H xs (λw H'=>KD G.K H'->Q w H'):=by
 refine zag.intro λp H' sq sm k=> ?_
 exact W.out (M.same sm k) (by erw[RD];exact⟨p,xs,rfl,sq,r.same sm⟩) (by erw[labs];exact lb)
def zcW{p:Addr}(W:wM G F σv tv (.ok (.tup ds) s) Q)(M:MR G F.toFx ρ H σv tv s)(r:RDs G ρ H ds xs)(lb:LB F.toFx ρ s.n (qq ds))(hp:H p=none)(k:KD G.K (upd H p (.tup xs))):Q (.ref p) (upd H p (.tup xs)):=by
 have sm:=z3s.new (.tup xs) hp
 exact W.out (M.same sm k) (by erw[RD];exact⟨p,xs,rfl,Z6,r.same sm⟩) (by erw[labs];exact lb)
def RDs.ext{p:Addr}{o:HO}(M:MR G F.toFx ρ H σv tv s)(r:RDs G ρ H ds xs)(lb:LB F.toFx ρ s.n (qq ds))(hp:H p=none):RDs G (ext ρ s.n p) (upd H p o) ds xs:=
 RDs.stay (v6.of (z3s.new o hp)) ds xs r λl hl=>⟨j3 (lb l hl).1,λo e=>z3s.new _ hp _ _ e⟩
def z1X{p:Addr}(W:wM G F σv tv (.ok (.lst s.n ds) s.nxt) Q)(M:MR G F.toFx ρ H σv tv s)(r:RDs G ρ H ds xs)(lb:LB F.toFx ρ s.n (qq ds))(hp:H p=none)(k:KD G.K (upd H p (.lst xs))):Q (.ref p) (upd H p (.lst xs)):=by
 refine W.out (M.new hp k) ?_ λl hl=> ?_
 .erw[RD]
  rw[G8]
  exact⟨rfl,xs,Z6,RDs.ext M r lb hp⟩
 .erw[labs] at hl
  rcases l6.mp hl with q|q
  .rw[q]
   exact⟨B0 _,by rw[G8];exact .inr (M.fresh0 hp)⟩
  .obtain⟨h1,h2⟩:=lb l q
   exact⟨F3 h1,by rw[j3 h1];exact h2⟩
end
noncomputable def zcX(ds:List D):M D:=λs=> .ok (.lst s.n ds) s.nxt
noncomputable def X9:D->D->M D
 | .int i, .int j=>rt (.int (i+j))
 | .tup a, .tup b=>if a.length+b.length<=qh then rt (.tup (a++b)) else fl
 | .lst _ a, .lst _ b=>if a.length+b.length<=qh then zcX (a++b) else fl
 | .str a, .str b=>if a.length+b.length<=qh then rt (.str (a++b)) else fl
 |_,_=>fl
instance(i j:Int):Decidable (zbj i j):=by delta zbj;infer_instance
instance(i j:Int):Decidable (zec i j):=by delta zec;infer_instance
instance(i j:Int):Decidable (zed i j):=by delta zed;infer_instance
noncomputable def z49:D->D->M D
 | .int i, .int j=>if zec i j then rt (.int (i/j)) else fl
 |_,_=>fl
noncomputable def z2f:D->D->M D
 | .int i, .int j=>if 0<j then rt (.int (i %j)) else fl
 |_,_=>fl
noncomputable def zbE:D->D->M D
 | .int i, .int j=>if zed i j then rt (.int (i^j.toNat)) else fl
 |_,_=>fl
noncomputable def ltD:D->D->M D
 | .int i, .int j=>rt (.bool (decide (i<j)))
 |_,_=>fl
noncomputable def gtD:D->D->M D
 | .int i, .int j=>rt (.bool (decide (j<i)))
 |_,_=>fl
noncomputable def eqC(t t':D):Bool:=plain t&&plain t'&&(er t).canLay0&&(er t').canLay0&&decide (min (er t).depth (er t').depth<=60)
noncomputable def eqD(t t':D):M D:=if eqC t t'=true then rt (.bool (PyData.eqv (er t) (er t'))) else fl
noncomputable def neD(t t':D):M D:=if eqC t t'=true then rt (.bool (!PyData.eqv (er t) (er t'))) else fl
noncomputable def inC(t:D)(ds:List D):Bool:=plain t&&plainL ds&&(er t).canLay0&&PyData.canLayAll0 (erL ds)&&decide (min (PyData.depthAll (erL ds)) (er t).depth<=60)
noncomputable def zbF(t t':D):M D:=match z5C t' with
 |some ds=>if inC t ds=true then rt (.bool (!(erL ds).any λy=>PyData.eqv y (er t))) else fl
 |none=>fl
noncomputable def isN:D->D->M D
 | .non, .non=>rt (.bool true)
 |_, .non=>rt (.bool false)
 |_,_=>fl
noncomputable def zeh:D->D->M D
 | .non, .non=>rt (.bool false)
 |_, .non=>rt (.bool true)
 |_,_=>fl
noncomputable def zei:Option D->M D
 |some d=>rt d
 |none=>fl
noncomputable def ixG:Option (List D)->D->M D
 |some ds, .int i=>zei (atI ds i)
 |_,_=>fl
noncomputable def ixD(t t':D):M D:=ixG (z5C t) t'
section
variable{G:Gx}{F:Fy}
def wfl{σv tv:List (Option V)}{s:Stt}{Q:VK}{A:Prop}(h:wM G F σv tv ((fl:M D) s) Q):A:=False.elim h
def z5P{ρ:Nat->Addr}{H:Hp}{σv tv:List (Option V)}{s:Stt}{i j:Int}{v u:V}(M:MRL G F.toFx ρ H σv tv s [.int i, .int j] [v,u]):v= .int i/\u= .int j:=by
 obtain⟨h1,h2⟩:=M.rd2
 erw[RD] at h1 h2
 exact⟨h1,h2⟩
def zfv:z9J G F (λx y H Q=>rI0 (λi j=> .int (i+j)) x y H Q\/zcO G.K x y H Q\/zhX x y H Q\/∃i j,x= .str i/\y= .str j/\i.length+j.length<=qh/\Q (.str (i++j)) H) X9:=by
 intro ρ s t t' v u H σv tv Q M W
 delta X9 at W
 split at W
 .obtain⟨rfl,rfl⟩:=z5P M
  exact .inl ⟨_,_,rfl,rfl,λ_=>W.flat M.m rfl⟩
 .split at W
  .rename_i a b hz
   obtain⟨h1,h2⟩:=M.rd2
   obtain⟨l1,l2⟩:=M.lb2
   obtain⟨p,xs,rfl,s1,r1⟩:=h1.tupx
   obtain⟨q,ys,rfl,s2,r2⟩:=h2.tupx
   refine .inr (.inl ⟨p,q,xs,ys,rfl,rfl,s1,s2,by rw[<-r1.length,<-r2.length];exact hz,z48 W M.m (r1.append r2) ?_⟩)
   rw[U2]
   intro l hl
   rcases i9.mp hl with q|q
   .exact l1 l (by simpa only[labs] using q)
   .exact l2 l (by simpa only[labs] using q)
  .exact wfl W
 .split at W
  .rename_i la a lb b hz
   obtain⟨h1,h2⟩:=M.rd2
   obtain⟨l1,l2⟩:=M.lb2
   erw[RD] at h1 h2
   obtain⟨rfl,xs,s1,r1⟩:=h1
   obtain⟨rfl,ys,s2,r2⟩:=h2
   refine .inr (.inr (.inl ⟨_,_,xs,ys,rfl,rfl,s1,s2,by rw[<-r1.length,<-r2.length];exact hz,λp hp k=>z1X W M.m (r1.append r2) ?_ hp k⟩))
   rw[U2]
   intro l hl
   rcases i9.mp hl with q|q
   .exact l1 l (by erw[labs];exact i5 _ q)
   .exact l2 l (by erw[labs];exact i5 _ q)
  .exact wfl W
 .split at W
  .rename_i a b hz
   obtain⟨h1,h2⟩:=M.rd2
   erw[RD] at h1 h2
   subst h1 h2
   exact .inr (.inr (.inr ⟨_,_,rfl,rfl,hz,λ_=>W.flat M.m rfl⟩))
  .exact wfl W
 .exact wfl W
def zcY:z9J G F (rI zec λi j=> .int (i/j)) z49:=by
 intro ρ s t t' v u H σv tv Q M W
 delta z49 at W
 split at W
 .split at W
  .rename_i hc
   obtain⟨rfl,rfl⟩:=z5P M
   exact⟨_,_,rfl,rfl,hc,λ_=>W.flat M.m rfl⟩
  .exact wfl W
 .exact wfl W
def zfw:z9J G F (rI (λ_ j=>0<j) λi j=> .int (i %j)) z2f:=by
 intro ρ s t t' v u H σv tv Q M W
 delta z2f at W
 split at W
 .split at W
  .rename_i hc
   obtain⟨rfl,rfl⟩:=z5P M
   exact⟨_,_,rfl,rfl,hc,λ_=>W.flat M.m rfl⟩
  .exact wfl W
 .exact wfl W
def zfx:z9J G F (rI zed λi j=> .int (i^j.toNat)) zbE:=by
 intro ρ s t t' v u H σv tv Q M W
 delta zbE at W
 split at W
 .split at W
  .rename_i hc
   obtain⟨rfl,rfl⟩:=z5P M
   exact⟨_,_,rfl,rfl,hc,λ_=>W.flat M.m rfl⟩
  .exact wfl W
 .exact wfl W
def zih:z1W G F (rI0 λi j=> .bl (decide (i<j))) ltD:=by
 intro ρ s t t' v u H σv tv Q M W
 delta ltD at W
 split at W
 .obtain⟨rfl,rfl⟩:=z5P M
  exact⟨_,_,rfl,rfl,W.flat M.m rfl⟩
 .exact wfl W
def zii:z1W G F (rI0 λi j=> .bl (decide (j<i))) gtD:=by
 intro ρ s t t' v u H σv tv Q M W
 delta gtD at W
 split at W
 .obtain⟨rfl,rfl⟩:=z5P M
  exact⟨_,_,rfl,rfl,W.flat M.m rfl⟩
 .exact wfl W
def zij:z1W G F (zhu G.K false) eqD:=by
 intro ρ s t t' v u H σv tv Q M W
 delta eqD at W
 split at W
 .rename_i hc
  erw[eqC,A3,decide_eq_true_eq] at hc
  obtain⟨⟨⟨⟨c1,c2⟩,c3⟩,c4⟩,c5⟩:=hc
  obtain⟨h1,h2⟩:=M.rd2
  exact⟨er t,er t',RD.dp _ _ h1 c1,RD.dp _ _ h2 c2,c3,c4,c5,W.flat M.m rfl⟩
 .exact wfl W
def zik:z1W G F (zhu G.K true) neD:=by
 intro ρ s t t' v u H σv tv Q M W
 delta neD at W
 split at W
 .rename_i hc
  erw[eqC,A3,decide_eq_true_eq] at hc
  obtain⟨⟨⟨⟨c1,c2⟩,c3⟩,c4⟩,c5⟩:=hc
  obtain⟨h1,h2⟩:=M.rd2
  exact⟨er t,er t',RD.dp _ _ h1 c1,RD.dp _ _ h2 c2,c3,c4,c5,W.flat M.m rfl⟩
 .exact wfl W
def RD.dpSeq{ρ:Nat->Addr}{H:Hp}{t:D}{v:V}{ds:List D}(h:RD G ρ H t v)(e:z5C t=some ds)(p:plainL ds=true):Dp G.K H (.list (erL ds)) v\/Dp G.K H (.tuple (erL ds)) v:=by
 obtain⟨a,xs,rfl,sq,r,_⟩:=h.seq e
 have d:=RDs.dp ds xs r p
 rcases sq with sq|sq
 .exact .inl (by erw[Dp];exact⟨a,xs,rfl,sq,d⟩)
 .exact .inr (by erw[Dp];exact⟨a,xs,rfl,sq,d⟩)
def zfy:z1W G F (zjs G.K true) zbF:=by
 intro ρ s t t' v u H σv tv Q M W
 delta zbF at W
 cases e:z5C t' with
 |some ds=>
  rw[e] at W
  dsimp only at W
  split at W
  .rename_i hc
   erw[inC,A3,decide_eq_true_eq] at hc
   obtain⟨⟨⟨⟨c1,c2⟩,c3⟩,c4⟩,c5⟩:=hc
   obtain⟨h1,h2⟩:=M.rd2
   exact⟨er t,erL ds,RD.dp _ _ h1 c1,h2.dpSeq e c2,c3,c4,c5,W.flat M.m rfl⟩
  .exact wfl W
 |none=>rw[e] at W;exact wfl W
def RD.non_iff{ρ:Nat->Addr}{H:Hp}{t:D}{v:V}(h:RD G ρ H t v):v= .non↔t= .non:=by
 cases t<;>erw[RD] at h<;>(try (subst h;simp))<;>(try (obtain⟨a,xs,rfl,_⟩:=h;simp))<;>(try (obtain⟨rfl,_⟩:=h;simp))<;>(try (obtain⟨a,o,C,rfl,_⟩:=h;simp))<;>(try (obtain⟨a,rfl,_⟩:=h;simp))<;>(try (obtain⟨a,o,u,xs,rfl,_⟩:=h;simp))
def zfz:z1W G F (λx y H Q=>y= .non/\Q (.bl (decide (x= .non))) H) isN:=by
 intro ρ s t t' v u H σv tv Q M W
 obtain⟨h1,h2⟩:=M.rd2
 have e1:=h1.non_iff
 delta isN at W
 split at W
 .erw[RD] at h2
  exact⟨h2,by rw[decide_eq_true (e1.mpr rfl)];exact W.flat M.m rfl⟩
 .rename_i ne
  erw[RD] at h2
  exact⟨h2,by rw[decide_eq_false (λz=>ne (e1.mp z))];exact W.flat M.m rfl⟩
 .exact wfl W
def zcZ:z1W G F (λx y H Q=>y= .non/\Q (.bl (!decide (x= .non))) H) zeh:=by
 intro ρ s t t' v u H σv tv Q M W
 obtain⟨h1,h2⟩:=M.rd2
 have e1:=h1.non_iff
 delta zeh at W
 split at W
 .erw[RD] at h2
  exact⟨h2,by rw[decide_eq_true (e1.mpr rfl)];exact W.flat M.m rfl⟩
 .rename_i ne
  erw[RD] at h2
  exact⟨h2,by rw[decide_eq_false (λz=>ne (e1.mp z))];exact W.flat M.m rfl⟩
 .exact wfl W
def zfA{ρ:Nat->Addr}{H:Hp}{ds:List D}{xs:List V}{i:Int}{d:D}(r:RDs G ρ H ds xs)(e:atI ds i=some d): ∃x,atI xs i=some x/\RD G ρ H d x:=by
 delta atI at e⊢
 rw[<-r.length]
 cases e1:ixN ds.length i with
 |none=>rw[e1] at e;cases e
 |some j=>
  rw[e1] at e
  exact r.get j d e
def zd0{α:Type}{ds:List α}{i:Int}{d:α}(e:atI ds i=some d):d∈ds:=by
 delta atI at e
 cases e1:ixN ds.length i with
 |none=>rw[e1] at e;cases e
 |some j=>
  rw[e1] at e
  exact List.mem_of_getElem? e
def zil:z9J G F (λx y H Q=>zjo G.K x y H Q\/zjp G.K x y H Q) ixD:=by
 intro ρ s t t' v u H σv tv Q M W
 obtain⟨h1,h2⟩:=M.rd2
 delta ixD at W
 cases e:z5C t with
 |none=>rw[e] at W;exact False.elim W
 |some ds=>
  rw[e] at W
  cases t' with
  |int i=>
   have W:wM G F σv tv (zei (atI ds i) s) Q:=W
   cases ea:atI ds i with
   |some d=>
    rw[ea] at W
    obtain⟨a,xs,rfl,sq,r,sub⟩:=h1.seq e
    obtain⟨x,ex,rx⟩:=zfA r ea
    erw[RD] at h2
    subst h2
    have fin:KD G.K H->Q x H:=λ_=>W.out M.m rx λl hl=>M.lb2.1 l (sub l (G5 (zd0 ea) l hl))
    rcases sq with sq|sq
    .exact .inl ⟨a,xs,i,x,rfl,rfl,sq,ex,fin⟩
    .exact .inr ⟨a,xs,i,x,rfl,rfl,sq,ex,fin⟩
   |none=>rw[ea] at W;exact False.elim W
  |_=>exact False.elim W
variable{X:Cx}{e a b c:bh}{pos:bT}
noncomputable def z4a{α:Type}(xs:List α)(lo hi:Option Int):List α:=(xs.drop (HT.sIx xs.length 0 lo)).take (HT.sIx xs.length xs.length hi -HT.sIx xs.length 0 lo)
noncomputable def slD:D->Option Int->Option Int->M D
 | .tup ds,lo,hi=>rt (.tup (z4a ds lo hi))
 | .lst _ ds,lo,hi=>zcX (z4a ds lo hi)
 | .ro ds,lo,hi=>zcX (z4a ds lo hi)
 |_,_,_=>fl
def RDs.cut{ρ:Nat->Addr}{H:Hp}{ds:List D}{xs:List V}(r:RDs G ρ H ds xs)(lo hi:Option Int):RDs G ρ H (z4a ds lo hi) (z81 xs lo hi):=by
 delta z4a z81
 rw[r.length]
 exact(r.drop _).take _
def z2Z{ds:List D}{lo hi:Option Int}{l:Nat}(h:l∈qq (z4a ds lo hi)):l∈qq ds:=by
 obtain⟨d,h1,h2⟩:=X7 h
 exact G5 (E9 (L9 h1)) l h2
noncomputable def mInt(d:D):Option Int:=match d with| .int i=>some i|_=>none
noncomputable def z3v:Option (M D)->M (Option Int)
 |none=>rt none
 |some m=>bd m λd=>match mInt d with|some i=>rt (some i)|none=>fl
noncomputable def tP(G:Gx)(F:Fy)(m:M (Option Int)):TO:=λ σv H Q=> ∃tv,F.tv0<:+tv/\∃ρ s,MR G F.toFx ρ H σv tv s/\(match m s with
 | .ok o s'=> ∀ρ' H',MR G F.toFx ρ' H' σv tv s'->Q o H'
 | .ex d s'=>F.xw d s'
 | .no=>False)
noncomputable def SO(X:Cx)(G:Gx)(F:Fy)(e:Option bh)(m:Option (M D)):Prop:=PO X e (tP G F (z3v m))
noncomputable def mSl(m:M D)(lo hi:Option (M D)):M D:=bd m λx=>bd (psh x) λ_=>bd (z3v lo) λl=>bd (z3v hi) λh=>bd pop λx'=>slD x' l h
def zim{ρ:Nat->Addr}{s:Stt}{t:D}{v:V}{H:Hp}{σv tv:List (Option V)}{lo hi:Option Int}{Q:VK}(M:MRL G F.toFx ρ H σv tv s [t] [v])(W:wM G F σv tv (slD t lo hi s) Q):
 zif G.K v lo hi H (λw H'=>KD G.K H'->Q w H')\/zhV G.K v lo hi H (λw H'=>KD G.K H'->Q w H'):=by
 have h:=M.rd1
 cases t with
 |tup ds=>
  obtain⟨p,xs,rfl,s1,r1⟩:=h.tupx
  exact .inl ⟨p,xs,rfl,s1,z48 W M.m (r1.cut lo hi) λl hl=>M.lb1 l (by erw[labs];exact z2Z hl)⟩
 |lst n ds=>
  obtain⟨p,xs,rfl,s1,r1,_⟩:=h.lstq (ds:=ds) rfl
  exact .inr ⟨p,xs,rfl,s1,λq hq k=>z1X W M.m (r1.cut lo hi) (λl hl=>M.lb1 l (by erw[labs];exact i5 _ (z2Z hl))) hq k⟩
 |ro ds=>
  obtain⟨p,xs,rfl,s1,r1,_⟩:=h.lstq (ds:=ds) rfl
  exact .inr ⟨p,xs,rfl,s1,λq hq k=>z1X W M.m (r1.cut lo hi) (λl hl=>M.lb1 l (by erw[labs];exact z2Z hl)) hq k⟩
 |_=>exact False.elim W
noncomputable def U1(ts:List D):M D:=if ts.length<=qh then rt (.tup ts) else fl
noncomputable def lstM(ts:List D):M D:=if ts.length<=qh then zcX ts else fl
def zfB:K3 G F (λxs H1 Q=>xs.length<=qh/\∀p,H1 p=none->Q (.ref p) (upd H1 p (.tup xs))) U1:=by
 intro ρ s ts vs H σv tv Q M W
 delta U1 at W
 split at W
 .rename_i hz
  exact⟨by rw[<-M.rd.length];exact hz,λp hp k=>zcW W M.m M.rd M.lb hp k⟩
 .exact wfl W
def zfC:K3 G F (λxs H1 Q=>xs.length<=qh/\∀p,H1 p=none->Q (.ref p) (upd H1 p (.lst xs))) lstM:=by
 intro ρ s ts vs H σv tv Q M W
 delta lstM at W
 split at W
 .rename_i hz
  exact⟨by rw[<-M.rd.length];exact hz,λp hp k=>z1X W M.m M.rd M.lb hp k⟩
 .exact wfl W
noncomputable def zd1:D->M Bool
 | .non=>rt false
 | .bool b=>rt b
 | .int i=>rt (i !=0)
 | .str x=>if x.length<=qh then rt ((x.length:Int) !=0) else fl
 | .tup ds=>rt (!ds.isEmpty)
 | .ro ds=>rt (!ds.isEmpty)
 | .lst _ ds=>rt (!ds.isEmpty)
 |_=>fl
noncomputable def z0T(m:M D):M Bool:=bd m zd1
def z1Y{ρ:Nat->Addr}{H:Hp}{ds:List D}{xs:List V}(r:RDs G ρ H ds xs):(!ds.isEmpty)= !xs.isEmpty:=by
 have:=r.length
 cases ds<;>cases xs<;>simp at this⊢
def zfD{ρ:Nat->Addr}{s:Stt}{t:D}{v:V}{H:Hp}{σv tv:List (Option V)}{Q:Bool->Hp->Prop}(M:MRL G F.toFx ρ H σv tv s [t] [v])(W:wB G F σv tv (zd1 t s) Q): ∃k,TruV G.K v H k/\Q k H:=by
 have h:=M.rd1
 cases t with
 |non=>erw[RD] at h;subst h;exact⟨false,rfl,W ρ H M.m⟩
 |bool b=>erw[RD] at h;subst h;exact⟨b,rfl,W ρ H M.m⟩
 |int i=>erw[RD] at h;subst h;exact⟨_,rfl,W ρ H M.m⟩
 |str x=>
  erw[RD] at h;subst h
  delta zd1 at W
  by_cases hz:x.length<=qh
  .erw[qw hz] at W;exact⟨_,⟨hz,rfl⟩,W ρ H M.m⟩
  .erw[qy hz] at W;exact False.elim W
 |tup ds=>
  obtain⟨p,xs,rfl,s1,r1⟩:=h.tupq
  exact⟨_, .inr (.inl ⟨xs,s1,z1Y r1⟩),W ρ H M.m⟩
 |ro ds=>
  obtain⟨p,xs,rfl,s1,r1,_⟩:=h.lstq (ds:=ds) rfl
  exact⟨_, .inl ⟨xs,s1,z1Y r1⟩,W ρ H M.m⟩
 |lst n ds=>
  obtain⟨p,xs,rfl,s1,r1,_⟩:=h.lstq (ds:=ds) rfl
  exact⟨_, .inl ⟨xs,s1,z1Y r1⟩,W ρ H M.m⟩
 |dct _ _ _=>exact False.elim W
 |fdc _ _=>exact False.elim W
 |obj _ _ _ _=>exact False.elim W
 |exc _=>exact False.elim W
 |fn _=>exact False.elim W
def zam{m:M D}{σ:St}{H:Hp}{Q:Bool->Hp->Prop}(h:tMB G F (z0T m) σ H Q):tM G F m σ H λx H'=> ∃k,TruV G.K x H' k/\Q k H':=by
 obtain⟨tv,hs,ρ,s,M,W⟩:=h
 refine⟨tv,hs,ρ,s,M, ?_⟩
 delta z0T bd at W
 cases e:m s with
 |ok t s1=>rw[e] at W;exact λ ρ1 v H1 M1=>zfD M1 W
 |ex d s1=>rw[e] at W;exact W
 |no=>rw[e] at W;exact W
noncomputable def zhv:D->M Bool
 | .bool b=>rt b
 |_=>fl
noncomputable def V3(m:M D):M Bool:=bd m zhv
def zd2{m:M D}{σ:St}{H:Hp}{Q:Bool->Hp->Prop}(h:tMB G F (V3 m) σ H Q):tM G F m σ H λx H'=> ∃k,x= .bl k/\Q k H':=by
 obtain⟨tv,hs,ρ,s,M,W⟩:=h
 refine⟨tv,hs,ρ,s,M, ?_⟩
 delta V3 bd at W
 cases e:m s with
 |ok t s1=>
  rw[e] at W
  intro ρ1 v H1 M1
  have h:=M1.rd1
  cases t with
  |bool b=>erw[RD] at h;exact⟨b,h,W ρ1 H1 M1.m⟩
  |_=>exact False.elim W
 |ex d s1=>rw[e] at W;exact W
 |no=>rw[e] at W;exact W
def zd3{op:fe}{r:R2}{ma mb:M D}{g:D->D->M D}(ho:OpR X (bH op) r)(hg:z1W G F r g)(ha:SE X G F a ma)(hb:SE X G F b mb)(hm:bO op b=false):SB X G F (.Compare a [op] [b] pos) (V3 (Z5 ma mb g)):=
 PT.imp0 (zcq ho ha hb hm) λ_ _ _ h=>z6C hg (zd2 h)
def zd4{m:M Bool}{f:Bool->M Bool}{σ:St}{tv:List (Option V)}{H:Hp}{Q:Bool->Hp->Prop}(h:tBv G F (bd m f) σ tv H Q):tBv G F m σ tv H λb H1=> ∃ρ1 s1,MR G F.toFx ρ1 H1 σ tv s1/\wB G F σ tv (f b s1) Q:=by
 obtain⟨hs,ρ,s,M,W⟩:=h
 refine⟨hs,ρ,s,M, ?_⟩
 delta bd at W
 cases e:m s with
 |ok b s1=>rw[e] at W;exact λ ρ1 H1 M1=>⟨ρ1,s1,M1,W⟩
 |ex d s1=>rw[e] at W;exact W
 |no=>rw[e] at W;exact W
def wB.mono{σv tv:List (Option V)}{r:Res Bool}{Q Q':Bool->Hp->Prop}(h:wB G F σv tv r Q)(k: ∀v H,Q v H->Q' v H):wB G F σv tv r Q':=by
 cases r with
 |ok t s=>exact λ ρ H M=>k _ _ (h ρ H M)
 |ex d s=>exact h
 |no=>exact h
def tBv.mono{m:M Bool}{σv tv:List (Option V)}{H:Hp}{Q Q':Bool->Hp->Prop}(h:tBv G F m σv tv H Q)(k: ∀v H,Q v H->Q' v H):tBv G F m σv tv H Q':=by
 obtain⟨hs,ρ,s,M,W⟩:=h
 exact⟨hs,ρ,s,M,W.mono k⟩
noncomputable def zbG{α:Type}(b:Bool)(m m':M α):M α:=match b with|true=>m|false=>m'
noncomputable def z7G(m m':M Bool):M Bool:=bd m λb=>zbG b m' (rt false)
noncomputable def mOr(m m':M Bool):M Bool:=bd m λb=>zbG b (rt true) m'
noncomputable def z9K(m:M Bool):M Bool:=bd m λb=>rt (!b)
noncomputable def SW(X:Cx)(G:Gx)(F:Fy)(e:bh)(m:M Bool):Prop:=PW X e (tMB G F m)
def PW.imp0{t t':TT}(h:PW X e t)(hi: ∀σ H Q,t' σ H Q->t σ H Q):PW X e t':=λwh qx s σ H Q I q=>h wh qx s σ H _ I (hi σ H Q q)
noncomputable def z8I(m m':M D):M D:=bd (V3 m) λb=>zbG b m' (rt (.bool false))
def zfE{m:M D}{f:Bool->M D}{σ:St}{H:Hp}{Q:VK}(h:tM G F (bd (V3 m) f) σ H Q):tM G F m σ H λx H1=> ∃k,x= .bl k/\∃ρ1 s1 tv,F.tv0<:+tv/\MR G F.toFx ρ1 H1 σ tv s1/\wM G F σ tv (f k s1) Q:=by
 obtain⟨tv,hs,ρ,s,M,W⟩:=h
 refine⟨tv,hs,ρ,s,M, ?_⟩
 delta V3 bd at W
 cases e:m s with
 |ok t s1=>
  rw[e] at W
  intro ρ1 v H1 M1
  have h:=M1.rd1
  cases t with
  |bool b=>erw[RD] at h;exact⟨b,h,ρ1,s1,tv,hs,M1.m,W⟩
  |_=>exact False.elim W
 |ex d s1=>rw[e] at W;exact W
 |no=>rw[e] at W;exact W
def tM.mono{m:M D}{σ:St}{H:Hp}{Q Q':VK}(h:tM G F m σ H Q)(k: ∀v H,Q v H->Q' v H):tM G F m σ H Q':=by
 obtain⟨tv,h⟩:=h
 exact⟨tv,h.mono k⟩
end
noncomputable def X8:List D->M D
 |[.tup ds]=>rt (.int ds.length)
 |[.ro ds]=>rt (.int ds.length)
 |[.lst _ ds]=>rt (.int ds.length)
 |_=>fl
noncomputable def zej:List D->M D
 |[.int i]=>rt (.int (if i<0 then -i else i))
 |_=>fl
noncomputable def zd5:List D->M D
 |[.int i, .int j]=>rt (.int (if j<i then j else i))
 |_=>fl
noncomputable def zek:List D->M D
 |[.int i, .int j]=>rt (.int (if j>i then j else i))
 |_=>fl
noncomputable def z0r:List D->Option (List Bool)
 |[]=>some []
 | .bool b::r=>(z0r r).map (b:: ·)
 |_=>none
noncomputable def zan:List D->M D
 |[.lst _ ds]=>match z0r ds with|some bs=>rt (.bool (bs.any id))|none=>fl
 |_=>fl
noncomputable def z9L:List D->M D
 |[.int i]=>rt (.int i)
 |[.bool b]=>rt (.int (if b then 1 else 0))
 |_=>fl
noncomputable def z5b:List D->M D
 |[.tup ds]=>rt (.tup ds)
 |[.ro ds]=>rt (.tup ds)
 |[.lst _ ds]=>rt (.tup ds)
 |_=>fl
noncomputable def z3w:List D->M D
 |[.tup ds]=>zcX ds
 |[.ro ds]=>zcX ds
 |[.lst _ ds]=>zcX ds
 |_=>fl
section
variable{X:Cx}{G:Gx}{F:Fy}{e a b c:bh}{pos:bT}
def MRL.one{ρ:Nat->Addr}{H:Hp}{σv tv:List (Option V)}{s:Stt}{t:D}{vs:List V}(M:MRL G F.toFx ρ H σv tv s [t] vs): ∃v,vs=[v]/\RD G ρ H t v/\LB F.toFx ρ s.n (labs t):=by
 have h:=M.rd
 erw[RDs] at h
 obtain⟨v,r,rfl,h,rfl⟩:=h
 exact⟨v,rfl,h,M.lb1⟩
def MRL.two{ρ:Nat->Addr}{H:Hp}{σv tv:List (Option V)}{s:Stt}{t t':D}{vs:List V}(M:MRL G F.toFx ρ H σv tv s [t,t'] vs): ∃v u,vs=[v,u]/\RD G ρ H t v/\RD G ρ H t' u:=by
 have h:=M.rd
 erw[RDs] at h
 obtain⟨v,r,rfl,h,u,q,rfl,h',rfl⟩:=h
 exact⟨v,u,rfl,h,h'⟩
def zfF:K3 G F (λxs H Q=> ∃p ys,xs=[.ref p]/\(SqL G.K H p ys\/SqT G.K H p ys)/\Q (.int ys.length) H) X8:=by
 intro ρ s ts vs H σv tv Q M W
 delta X8 at W
 split at W
 .obtain⟨v,rfl,h,_⟩:=M.one
  obtain⟨p,xs,rfl,s1,r1,_⟩:=h.seq rfl
  exact⟨p,xs,rfl,s1,λ_=>by rw[<-r1.length];exact W.flat M.m rfl⟩
 .obtain⟨v,rfl,h,_⟩:=M.one
  obtain⟨p,xs,rfl,s1,r1,_⟩:=h.seq rfl
  exact⟨p,xs,rfl,s1,λ_=>by rw[<-r1.length];exact W.flat M.m rfl⟩
 .obtain⟨v,rfl,h,_⟩:=M.one
  obtain⟨p,xs,rfl,s1,r1,_⟩:=h.seq rfl
  exact⟨p,xs,rfl,s1,λ_=>by rw[<-r1.length];exact W.flat M.m rfl⟩
 .exact wfl W
def zfG:K3 G F (λxs H Q=> ∃i,xs=[.int i]/\Q (.int (if i<0 then -i else i)) H) zej:=by
 intro ρ s ts vs H σv tv Q M W
 delta zej at W
 split at W
 .obtain⟨v,rfl,h,_⟩:=M.one
  erw[RD] at h
  subst h
  exact⟨_,rfl,λ_=>W.flat M.m rfl⟩
 .exact wfl W
def zfH:K3 G F (λxs H Q=> ∃i j,xs=[.int i, .int j]/\Q (.int (if j<i then j else i)) H) zd5:=by
 intro ρ s ts vs H σv tv Q M W
 delta zd5 at W
 split at W
 .obtain⟨v,u,rfl,h,h'⟩:=M.two
  erw[RD] at h h'
  subst h h'
  exact⟨_,_,rfl,λ_=>W.flat M.m rfl⟩
 .exact wfl W
def zfI:K3 G F (λxs H Q=> ∃i j,xs=[.int i, .int j]/\Q (.int (if j>i then j else i)) H) zek:=by
 intro ρ s ts vs H σv tv Q M W
 delta zek at W
 split at W
 .obtain⟨v,u,rfl,h,h'⟩:=M.two
  erw[RD] at h h'
  subst h h'
  exact⟨_,_,rfl,λ_=>W.flat M.m rfl⟩
 .exact wfl W
theorem z6D{ρ:Nat->Addr}{H:Hp}: ∀{ds:List D} {xs:List V} {bs:List Bool},RDs G ρ H ds xs->z0r ds=some bs->xs=bs.map V.bl
 |[],xs,bs,r,e=>by erw[RDs] at r;erw[z0r,Option.some.injEq] at e;subst r e;rfl
 |d::ds,xs,bs,r,e=>by
  erw[RDs] at r
  obtain⟨x,q,rfl,h1,h2⟩:=r
  cases d with
  |bool b=>
   erw[z0r] at e
   cases e1:z0r ds with
   |none=>rw[e1] at e;cases e
   |some cs=>
    rw[e1] at e
    cases e
    erw[RD] at h1
    rw[h1,z6D h2 e1];rfl
  |_=>erw[z0r] at e;cases e
def zfJ:K3 G F (λxs H Q=> ∃(p:Addr) (bs:List Bool),xs=[.ref p]/\SqL G.K H p (bs.map V.bl)/\Q (.bl (bs.any id)) H) zan:=by
 intro ρ s ts vs H σv tv Q M W
 delta zan at W
 split at W
 .rename_i l ds
  cases e1:z0r ds with
  |none=>rw[e1] at W;exact False.elim W
  |some bs=>
   rw[e1] at W
   obtain⟨v,rfl,h,_⟩:=M.one
   obtain⟨p,xs,rfl,s1,r1,_⟩:=h.lstq (ds:=ds) rfl
   rw[z6D r1 e1] at s1
   exact⟨p,bs,rfl,s1,λ_=>W.flat M.m rfl⟩
 .exact wfl W
def zfK:K3 G F (λxs H Q=>(∃i,xs=[.int i]/\Q (.int i) H)\/∃k,xs=[.bl k]/\Q (.int (if k then 1 else 0)) H) z9L:=by
 intro ρ s ts vs H σv tv Q M W
 delta z9L at W
 split at W
 .obtain⟨v,rfl,h,_⟩:=M.one
  erw[RD] at h
  subst h
  exact .inl ⟨_,rfl,λ_=>W.flat M.m rfl⟩
 .obtain⟨v,rfl,h,_⟩:=M.one
  erw[RD] at h
  subst h
  exact .inr ⟨_,rfl,λ_=>W.flat M.m rfl⟩
 .exact wfl W
def zd6:K3 G F (λxs H Q=> ∃(p:Addr) (ys:List V),xs=[.ref p]/\(SqL G.K H p ys\/H p=some (.tup ys))/\zag G.K H ys Q) z5b:=by
 intro ρ s ts vs H σv tv Q M W
 have fin: ∀(t:D) (ds:List D),ts=[t]->z5C t=some ds->wM G F σv tv (.ok (.tup ds) s) Q->∃(p:Addr) (ys:List V),vs=[.ref p]/\(SqL G.K H p ys\/H p=some (.tup ys))/\zag G.K H ys (λw H'=>KD G.K H'->Q w H'):=λt ds et es W'=>by
  subst et
  obtain⟨v,rfl,h,lb⟩:=M.one
  obtain⟨p,xs,rfl,s1,r1,sub⟩:=h.seqx es
  exact⟨p,xs,rfl,s1,z48 W' M.m r1 λl hl=>lb l (sub l hl)⟩
 delta z5b at W
 split at W
 .exact fin _ _ rfl rfl W
 .exact fin _ _ rfl rfl W
 .exact fin _ _ rfl rfl W
 .exact wfl W
def zao:K3 G F (λxs H Q=> ∃p ys,xs=[.ref p]/\(SqL G.K H p ys\/SqT G.K H p ys)/\∀l,H l=none->Q (.ref l) (upd H l (.lst ys))) z3w:=by
 intro ρ s ts vs H σv tv Q M W
 have fin: ∀(t:D) (ds:List D),ts=[t]->z5C t=some ds->wM G F σv tv (.ok (.lst s.n ds) s.nxt) Q->∃p ys,vs=[.ref p]/\(SqL G.K H p ys\/SqT G.K H p ys)/\∀l,H l=none->KD G.K (upd H l (.lst ys))->Q (.ref l) (upd H l (.lst ys)):=λt ds et es W'=>by
  subst et
  obtain⟨v,rfl,h,lb⟩:=M.one
  obtain⟨p,xs,rfl,s1,r1,sub⟩:=h.seq es
  exact⟨p,xs,rfl,s1,λl hl k=>z1X W' M.m r1 (λl hl=>lb l (sub l hl)) hl k⟩
 delta z3w at W
 split at W
 .exact fin _ _ rfl rfl W
 .exact fin _ _ rfl rfl W
 .exact fin _ _ rfl rfl W
 .exact wfl W
noncomputable def isiD(T:String):D->Option Bool
 | .non=>some false
 | .bool _=>some (T== "int" ||T== "bool")
 | .int _=>some (T== "int")
 | .str _=>some (T== "str")
 | .tup _=>some (T== "tuple")
 | .ro _=>some (T== "list")
 | .lst _ _=>some (T== "list")
 |_=>none
noncomputable def zfL(T:String)(m:M D):M D:=bd m λd=>match isiD T d with|some b=>rt (.bool b)|none=>fl
def zfM{ρ:Nat->Addr}{H:Hp}{t:D}{v:V}{T:String}{b:Bool}(h:RD G ρ H t v)(e:isiD T t=some b):zjt G.K H T b v:=by
 cases t<;>erw[isiD,Option.some.injEq] at e<;>try cases e
 .erw[RD] at h;subst h;exact rfl
 .erw[RD] at h;subst h;exact rfl
 .erw[RD] at h;subst h;exact rfl
 .erw[RD] at h;subst h;exact rfl
 .obtain⟨p,xs,rfl,s1,r1⟩:=h.tupq
  exact .inl ⟨xs,s1,rfl⟩
 .obtain⟨p,xs,rfl,s1,r1,_⟩:=h.lstq rfl
  exact .inr ⟨xs,s1,rfl⟩
 .obtain⟨p,xs,rfl,s1,r1,_⟩:=h.lstq rfl
  exact .inr ⟨xs,s1,rfl⟩
end
inductive RS where
 |nx (s:Stt)|rt (d:D) (s:Stt)|bk (s:Stt)|ct (s:Stt)|ex (d:D) (s:Stt)|no
noncomputable abbrev MS:=Stt->RS
noncomputable def z1o{α:Type}(m:M α)(f:α->MS):MS:=λs=>match m s with
 | .ok a s'=>f a s'
 | .ex d s'=> .ex d s'
 | .no=> .no
noncomputable def Y2(m m':MS):MS:=λs=>match m s with
 | .nx s'=>m' s'
 |r=>r
noncomputable def sNx:MS:=λs=> .nx s
noncomputable def v3(m:M D):MS:=z1o m λ_=>sNx
noncomputable def z0y(m:M D):MS:=z1o m λd s=> .rt d s
noncomputable def zbH(b:Bool)(m m':MS):MS:=match b with|true=>m|false=>m'
noncomputable def sIf(c:M Bool)(m m':MS):MS:=z1o c λb=>zbH b m m'
inductive Tg where
 |nm (i:Nat)|tp (ts:List Tg)
mutual
noncomputable def asg:Tg->D->Qq->Option Qq
 | .nm i,t,σ=>some (σ.set i (some t))
 | .tp ts, .tup ds,σ=>asgL ts ds σ
 | .tp ts, .lst _ ds,σ=>asgL ts ds σ
 | .tp _,_,_=>none
noncomputable def asgL:List Tg->List D->Qq->Option Qq
 |[],[],σ=>some σ
 |t::ts,d::ds,σ=>match asg t d σ with|some σ'=>asgL ts ds σ'|none=>none
 |_,_,_=>none
end
noncomputable def W3(g:Tg)(m:M D):MS:=z1o m λd s=>match asg g d s.σ with
 |some σ'=> .nx {s with σ:=σ'}
 |none=> .no
section
variable{X:Cx}{G:Gx}{F:Fy}{e a b c:bh}{st:Stmt}{sts rest:List Stmt}{pos:bT}
noncomputable def wS(G:Gx)(F:Fy)(tv:List (Option V))(r:RS)(D:Ends):Prop:=match r with
 | .nx s'=> ∀ρ' σv' H',MR G F.toFx ρ' H' σv' tv s'->D.nx σv' H'
 | .rt t s'=> ∀ρ' σv' v H',MRL G F.toFx ρ' H' σv' tv s' [t] [v]->D.rt v H'
 | .bk s'=> ∀ρ' σv' H',MR G F.toFx ρ' H' σv' tv s'->D.bk σv' H'
 | .ct s'=> ∀ρ' σv' H',MR G F.toFx ρ' H' σv' tv s'->D.ct σv' H'
 | .ex d s'=>F.xw d s'
 | .no=>False
noncomputable def tSv(G:Gx)(F:Fy)(m:MS)(tv:List (Option V))(D:Ends)(σv:St)(H:Hp):Prop:=F.tv0<:+tv/\∃ρ s,MR G F.toFx ρ H σv tv s/\wS G F tv (m s) D
noncomputable def tS(G:Gx)(F:Fy)(m:MS):TS:=λD σv H=> ∃tv,tSv G F m tv D σv H
noncomputable def SS(X:Cx)(G:Gx)(F:Fy)(st:Stmt)(m:MS):Prop:=PS X st (tS G F m)
noncomputable def SSs(X:Cx)(G:Gx)(F:Fy)(sts:List Stmt)(m:MS):Prop:=PSs X sts (tS G F m)
def PS.imp0{t t':TS}(h:PS X st t)(hi: ∀D σ H,t' D σ H->t D σ H):PS X st t':=λqx s σ H D I q=>h qx s σ H D I (hi D σ H q)
def PSs.imp0{t t':TS}(h:PSs X sts t)(hi: ∀D σ H,t' D σ H->t D σ H):PSs X sts t':=λqx s σ H D I q=>h qx s σ H D I (hi D σ H q)
def z0D{m:M D}{f:D->MS}{tv:List (Option V)}{D:Ends}{σ:St}{H:Hp}(h:tSv G F (z1o m f) tv D σ H):tMv G F m σ tv H λv H1=> ∃ρ1 s1 t,MRL G F.toFx ρ1 H1 σ tv s1 [t] [v]/\wS G F tv (f t s1) D:=by
 obtain⟨hs,ρ,s,M,W⟩:=h
 refine⟨hs,ρ,s,M, ?_⟩
 delta z1o at W
 cases e:m s with
 |ok t s1=>rw[e] at W;exact λ ρ1 v H1 M1=>⟨ρ1,s1,t,M1,W⟩
 |ex d s1=>rw[e] at W;exact W
 |no=>rw[e] at W;exact W
def z5c{m:M Bool}{f:Bool->MS}{tv:List (Option V)}{D:Ends}{σ:St}{H:Hp}(h:tSv G F (z1o m f) tv D σ H):tBv G F m σ tv H λb H1=> ∃ρ1 s1,MR G F.toFx ρ1 H1 σ tv s1/\wS G F tv (f b s1) D:=by
 obtain⟨hs,ρ,s,M,W⟩:=h
 refine⟨hs,ρ,s,M, ?_⟩
 delta z1o at W
 cases e:m s with
 |ok t s1=>rw[e] at W;exact λ ρ1 H1 M1=>⟨ρ1,s1,M1,W⟩
 |ex d s1=>rw[e] at W;exact W
 |no=>rw[e] at W;exact W
noncomputable def tGn(G:Gx)(F:Fy)(g:Tg):TG:=λv σv H Q=> ∃tv ρ s t,MRL G F.toFx ρ H σv tv s [t] [v]/\∃σ',asg g t s.σ=some σ'/\∀σv',MR G F.toFx ρ H σv' tv {s with σ:=σ'}->Q σv' H
noncomputable def tGs(G:Gx)(F:Fy)(g:List Tg):TGs:=λvs σv H Q=> ∃tv ρ s ts,MRL G F.toFx ρ H σv tv s ts vs/\∃σ',asgL g ts s.σ=some σ'/\∀σv',MR G F.toFx ρ H σv' tv {s with σ:=σ'}->Q σv' H
noncomputable def SG(X:Cx)(G:Gx)(F:Fy)(tg:bh)(g:Tg):Prop:=PG X tg (tGn G F g)
noncomputable def SGs(X:Cx)(G:Gx)(F:Fy)(tgs:List bh)(g:List Tg):Prop:=PGs X tgs (tGs G F g)
def MRL.setS{ρ:Nat->Addr}{H:Hp}{σv tv:List (Option V)}{s:Stt}{t:D}{v:V}{ts:List D}{vs:List V}(i:Nat)(M:MRL G F.toFx ρ H σv tv s (t::ts) (v::vs)):MRL G F.toFx ρ H (σv.set i (some v)) tv {s with σ:=s.σ.set i (some t)} ts vs:=by
 have h:=M.rd
 erw[RDs] at h
 obtain⟨_,_,e,h1,h2⟩:=h
 cases e
 have lb1: ∀l∈labs t,l<s.n/\(F.A0 (ρ l)\/F.H0 (ρ l)=none):=λl h=>M.lb l (by erw[qq];exact i7 _ h)
 have all: ∀l∈V2 {s with σ:=s.σ.set i (some t)},l<s.n/\(F.A0 (ρ l)\/F.H0 (ρ l)=none):=λl h=>by
  rcases i9.mp h with h|h
  .rcases z2Y l h with q|q
   .exact⟨M.m.lab l (i7 _ q),M.m.own l (i7 _ q)⟩
   .exact lb1 l q
  .exact⟨M.m.lab l (i4 _ h),M.m.own l (i4 _ h)⟩
 exact⟨⟨M.m.sl.set i h1,M.m.tm,M.m.inj,M.m.dom,λl h=>(all l h).1,λl h=>(all l h).2,M.m.frm,M.m.kd,M.m.frb,M.m.bas⟩,h2,λl h=>M.lb l (by erw[qq];exact i4 _ h)⟩
def MRL.cons_inv{ρ:Nat->Addr}{H:Hp}{σv tv:List (Option V)}{s:Stt}{t:D}{ts:List D}{vs:List V}(M:MRL G F.toFx ρ H σv tv s (t::ts) vs): ∃v r,vs=v::r/\MRL G F.toFx ρ H σv tv s [t] [v]/\RDs G ρ H ts r/\LB F.toFx ρ s.n (qq ts):=by
 have h:=M.rd
 erw[RDs] at h
 obtain⟨v,r,rfl,h1,h2⟩:=h
 exact⟨v,r,rfl,⟨M.m,RDs.one h1,λl h=>M.lb l (by erw[qq,l4] at h⊢;exact i7 _ h)⟩,h2,λl h=>M.lb l (by erw[qq];exact i4 _ h)⟩
def PGs.imp0{es:List bh}{t t':TGs}(h:PGs X es t)(hi: ∀vs σ H Q,t' vs σ H Q->t vs σ H Q):PGs X es t':=λqx s σ H vs us Q I r q=>h qx s σ H vs us Q I r (hi vs σ H Q q)
def PG.imp0{t t':TG}(h:PG X e t)(hi: ∀v σ H Q,t' v σ H Q->t v σ H Q):PG X e t':=λqx s σ H v u Q I r q=>h qx s σ H v u Q I r (hi v σ H Q q)
noncomputable def G9(c:M Bool)(b:MS):Nat->MS
 |0=>λ_=> .no
 |f+1=>z1o c λk=>zbH k (λs=>match b s with
  | .nx s'=>G9 c b f s'
  | .ct s'=>G9 c b f s'
  | .bk s'=> .nx s'
  | .rt d s'=> .rt d s'
  | .ex d s'=> .ex d s'
  | .no=> .no) sNx
noncomputable def z1H(fuel:Stt->Nat)(c:M Bool)(b:MS):MS:=λs=>G9 c b (fuel s) s
end
structure ItK where
 k:Nat
 at':Nat->Qq->Option (Option D)
 len:Qq->Nat
noncomputable def zfN(i:Nat):Qq->Option (Option D)
 |some c::_=>(zeg c).map λds=>ds[i]?
 |_=>none
noncomputable def zfO(i:Nat):Qq->Option (Option D)
 |some (.tup ds)::_=>some ds[i]?
 |_=>none
noncomputable def zbI:Qq->Nat
 |some (.tup ds)::_=>ds.length
 |some (.lst _ ds)::_=>ds.length
 |some (.ro ds)::_=>ds.length
 |_=>0
noncomputable def kLst:ItK:=⟨1,zfN,zbI⟩
noncomputable def zbJ:ItK:=⟨1,zfO,zbI⟩
noncomputable def z7H(lo:Int)(n:Nat):ItK:=⟨0,λi _=>some (if i<n then some (.int (lo+i)) else none),λ_=>n⟩
noncomputable def Stt.popn(s:Stt)(k:Nat):Stt:={s with tm:=s.tm.drop k}
section
variable{X:Cx}{G:Gx}{F:Fy}{e a b c tg iter:bh}{pos:bT}
def MR.popn{F:Fx}{ρ:Nat->Addr}{H:Hp}{σv tvs tv:List (Option V)}{s:Stt}(M:MR G F ρ H σv (tvs++tv) s):MR G F ρ H σv tv (s.popn tvs.length):=by
 have sub: ∀l∈V2 (s.popn tvs.length),l∈V2 s:=λl h=>by
  rcases i9.mp h with h|h
  .exact i7 _ h
  .refine i4 _ ?_
   have e:=Q3 (s.tm.take tvs.length) (s.tm.drop tvs.length)
   rw[D3] at e
   rw[e]
   exact i4 _ h
 exact⟨M.sl,(Sl.split tvs M.tm).2,M.inj,M.dom,λl h=>M.lab l (sub l h),λl h=>M.own l (sub l h),M.frm,M.kd,M.frb,M.bas⟩
noncomputable def zfP(G:Gx)(J:It)(K:ItK)(tvs:List (Option V)):Prop:= ∀(F:Fx) ρ H σv tvp tv s i,MR G F ρ H σv (tvp++(tvs++tv)) s->match K.at' i (s.tm.drop tvp.length) with
 |none=>True
 |some none=>J.stop i H
 |some (some d)=>J.go i H/\∀x H',J.yld i H x H'->MRL G F ρ H' σv (tvp++(tvs++tv)) s [d] [x]
noncomputable def tI(G:Gx)(F:Fy)(m:M ItK):TI:=λ σv H R=> ∃tv,F.tv0<:+tv/\∃ρ s,MR G F.toFx ρ H σv tv s/\match m s with
 | .ok K s'=> ∀ρ' H' tvs J,tvs.length=K.k->MR G F.toFx ρ' H' σv (tvs++tv) s'->zfP G J K tvs->R J H'
 | .ex d s'=>F.xw d s'
 | .no=>False
noncomputable def SI(X:Cx)(G:Gx)(F:Fy)(tg iter:bh)(m:M ItK):Prop:=PI X tg iter (tI G F m)
def PI.imp0{w w':TI}(h:PI X tg iter w)(hi: ∀σ H R,w' σ H R->w σ H R):PI X tg iter w':=λqx s σ H R I q=>h qx s σ H R I (hi σ H R q)
noncomputable def zjZ(K:W.Frag)(tl:TE):TI:=λ σ H R=>tl σ H λx H1=> ∃a,x= .ref a/\(((∃xs,SqL K H1 a xs)/\R (Itl K a) H1)\/((∃xs,SqT K H1 a xs)/\R (Itt K a) H1))
def zfQ{l:bh}{tl:TE}(hl:PE X l tl):PI X tg l (zjZ X.K tl):=by
 intro qx s σ H R I h
 refine thn (hl qx s σ H _ I h) ?_
 rintro v s1 ⟨x,H1,I1,r1,q1⟩
 obtain⟨a,e,q|q⟩:=q1
 .subst e
  cases r1
  obtain⟨⟨xs,hq⟩,q⟩:=q
  obtain⟨its,rv,p,hz⟩:=I1.list hq
  refine cD p.isList ?_
  refine⟨s1.heap.objs.size,[s1.heap.objs.size],_,_,H1,rfl,I1.kept (t':=s1.toks) λb o e=>Heap.get?_push_of_some _ e,z7S a _,⟨_,Heap.get?_push_size _ rfl,rfl,rfl⟩,λb hb=> ?_,q⟩
  have e:b=s1.heap.objs.size:=by simpa using hb
  subst e
  exact I1.fpOk (i8 _) (I1.hok.fresh (i8 _))
 .subst e
  cases r1
  obtain⟨⟨xs,hq⟩,q⟩:=q
  obtain⟨its,rv,p,hz⟩:=I1.tuple hq
  refine wpAny_pyIter_tuple (show s1.heap.IsTuple a its.toArray from p) ?_
  refine⟨s1.heap.objs.size,[s1.heap.objs.size],_,_,H1,rfl,I1.kept (t':=s1.toks) λb o e=>Heap.get?_push_of_some _ e,z77 a _,⟨_,Heap.get?_push_size _ rfl,rfl,rfl⟩,λb hb=> ?_,q⟩
  have e:b=s1.heap.objs.size:=by simpa using hb
  subst e
  exact I1.fpOk (i8 _) (I1.hok.fresh (i8 _))
noncomputable def v4(m:M D):M ItK:=bd m λd s=>match d with
 | .tup _=> .ok zbJ (s.psh d)
 | .lst _ _=> .ok kLst (s.psh d)
 | .ro _=> .ok kLst (s.psh d)
 |_=> .no
def SqT.two{K:W.Frag}{H:Hp}{a:Addr}{xs ys:List V}(k:KD K H)(h:SqT K H a xs)(h':SqT K H a ys):xs=ys:=by
 rcases h with(h|⟨o,h⟩)|⟨o,its,n,h,_,hd,_,r⟩<;>rcases h' with(h'|⟨o',h'⟩)|⟨o',its',n',h',_,hd',_,r'⟩
 .rw[h] at h';cases h';rfl
 .rw[h] at h';cases h'
 .rw[k _ _ h'] at h;cases h
 .rw[h] at h';cases h'
 .rw[h] at h';cases h';rfl
 .rw[k _ _ h'] at h;cases h
 .rw[k _ _ h] at h';cases h'
 .rw[k _ _ h] at h';cases h'
 .rw[h] at h';cases h';rw[hd] at hd';cases hd';exact r.inj r'
def SqL.two{K:W.Frag}{H:Hp}{a:Addr}{xs ys:List V}(k:KD K H)(h:SqL K H a xs)(h':SqL K H a ys):xs=ys:=by
 rcases h with(h|⟨o,h⟩)|⟨o,its,n,h,_,_,hd,_,r⟩<;>rcases h' with(h'|⟨o',h'⟩)|⟨o',its',n',h',_,_,hd',_,r'⟩
 .rw[h] at h';cases h';rfl
 .rw[h] at h';cases h'
 .rw[k _ _ h'] at h;cases h
 .rw[h] at h';cases h'
 .rw[h] at h';cases h';rfl
 .rw[k _ _ h'] at h;cases h
 .rw[k _ _ h] at h';cases h'
 .rw[k _ _ h] at h';cases h'
 .rw[h] at h';cases h';rw[hd] at hd';cases hd';exact r.inj r'
def MR.head{F:Fx}{ρ:Nat->Addr}{H:Hp}{σv tv:List (Option V)}{s:Stt}{v:V}{c:D}{r:Qq}(M:MR G F ρ H σv (some v::tv) s)(e:s.tm=some c::r):RD G ρ H c v/\LB F ρ s.n (labs c):=by
 obtain⟨σ,tm,n⟩:=s
 have e:tm=some c::r:=e
 subst e
 exact⟨MR.top (s:=⟨σ,r,n⟩) M,MR.topl (s:=⟨σ,r,n⟩) M⟩
def z6E{a:Addr}:zfP G (Itl G.K a) kLst [some (.ref a)]:=by
 intro F ρ H σv tvp tv s i M
 dsimp only[kLst]
 cases e:s.tm.drop tvp.length with
 |nil=>trivial
 |cons o r=>
  cases o with
  |none=>trivial
  |some c=>
   erw[zfN]
   obtain⟨h,lb⟩:=MR.head (s:=s.popn tvp.length) M.popn e
   cases e1:zeg c with
   |none=>trivial
   |some ds=>
    erw[l7]
    obtain⟨a',xs,ea,sq,rr,sub⟩:=h.lstq e1
    cases ea
    cases e2:ds[i]? with
    |none=>
     refine⟨xs,sq, ?_⟩
     rw[<-rr.length]
     exact List.getElem?_eq_none_iff.mp e2
    |some d=>
     obtain⟨x,ex,rx⟩:=rr.get i d e2
     refine⟨⟨xs,x,sq,ex⟩, ?_⟩
     rintro x' H' ⟨rfl,hx⟩
     rw[hx xs sq] at ex
     cases ex
     exact⟨M,RDs.one rx,λl hl=>lb l (sub l (G5 (List.mem_of_getElem? e2) l (by simpa only[qq,l4] using hl)))⟩
def zap{a:Addr}:zfP G (Itt G.K a) zbJ [some (.ref a)]:=by
 intro F ρ H σv tvp tv s i M
 dsimp only[zbJ]
 cases e:s.tm.drop tvp.length with
 |nil=>trivial
 |cons o r=>
  cases o with
  |none=>trivial
  |some c=>
   obtain⟨h,lb⟩:=MR.head (s:=s.popn tvp.length) M.popn e
   cases c with
   |tup ds=>
    erw[zfO]
    obtain⟨a',xs,ea,sq,rr⟩:=h.tupq
    cases ea
    cases e2:ds[i]? with
    |none=>
     refine⟨xs,sq, ?_⟩
     rw[<-rr.length]
     exact List.getElem?_eq_none_iff.mp e2
    |some d=>
     obtain⟨x,ex,rx⟩:=rr.get i d e2
     refine⟨⟨xs,x,sq,ex⟩, ?_⟩
     rintro x' H' ⟨rfl,hx⟩
     rw[hx xs sq] at ex
     cases ex
     exact⟨M,RDs.one rx,λl hl=>lb l (by erw[labs];exact G5 (List.mem_of_getElem? e2) l (by simpa only[qq,l4] using hl))⟩
   |_=>trivial
noncomputable def zfR(ts:List D):M ItK:=match ts with
 |[.int j]=>if -(2^62)<=j/\j<2^62 then rt (z7H 0 j.toNat) else fl
 |_=>fl
noncomputable def V4(ms:List (M D)):M ItK:=bd (Q2 ms) zfR
def zaq{lo:Int}{n:Nat}:zfP G (Itr lo n) (z7H lo n) []:=by
 intro F ρ H σv tvp tv s i M
 erw[z7H]
 by_cases h:i<n
 .rw[qw h]
  refine⟨h, ?_⟩
  rintro x H' ⟨rfl,rfl⟩
  exact⟨M,RDs.one (by erw[RD]),λl hl=>by simp[qq,labs] at hl⟩
 .rw[qy h]
  exact P4.mp h
noncomputable def forGo(K:ItK)(g:Tg)(b:MS):Nat->Nat->MS
 |f,i=>λs=>match K.at' i s.tm with
  |none=> .no
  |some none=> .nx (s.popn K.k)
  |some (some d)=>match f with
   |0=> .no
   |f+1=>match asg g d s.σ with
    |none=> .no
    |some σ'=>match b {s with σ:=σ'} with
     | .nx s'=>forGo K g b f (i+1) s'
     | .ct s'=>forGo K g b f (i+1) s'
     | .bk s'=> .nx (s'.popn K.k)
     | .rt t s'=> .rt t (s'.popn K.k)
     | .ex d s'=> .ex d s'
     | .no=> .no
noncomputable def z1p(mi:M ItK)(g:Tg)(b:MS):MS:=z1o mi λK s=>forGo K g b (K.len s.tm) 0 s
def MRL.popn{ρ:Nat->Addr}{H:Hp}{σv tvs tv:List (Option V)}{s:Stt}{ts:List D}{vs:List V}(M:MRL G F.toFx ρ H σv (tvs++tv) s ts vs):MRL G F.toFx ρ H σv tv (s.popn tvs.length) ts vs:=⟨M.m.popn,M.rd,M.lb⟩
def zk0{tvs tv:List (Option V)}(h:F.tv0<:+tv):F.tv0<:+tvs++tv:=h.trans (T9 _ _)
def z8J{m:M ItK}{f:ItK->MS}{tv:List (Option V)}{D:Ends}{σ:St}{H:Hp}{R:It->Hp->Prop}(h:tSv G F (z1o m f) tv D σ H)
 (k: ∀K ρ' H' tvs J s',tvs.length=K.k->MR G F.toFx ρ' H' σ (tvs++tv) s'->zfP G J K tvs->wS G F tv (f K s') D->R J H'):tI G F m σ H R:=by
 obtain⟨hs,ρ,s,M,W⟩:=h
 refine⟨tv,hs,ρ,s,M, ?_⟩
 unfold z1o at W
 cases e:m s with
 |ok K s1=>rw[e] at W;exact λ ρ' H' tvs J hl M' hok=>k K ρ' H' tvs J s1 hl M' hok W
 |ex d s1=>rw[e] at W;exact W
 |no=>rw[e] at W;exact W
end
noncomputable def Q0:Qq->Option (List D)
 |[]=>some []
 |some d::r=>(Q0 r).map (d:: ·)
 |none::_=>none
noncomputable def K4(K:ItK)(g:Tg)(mt:M Bool)(me:M D)(ol:Nat):Nat->Nat->Nat->M D
 |f,i,k=>λs=>match K.at' i (s.tm.drop (k+ol)) with
  |none=> .no
  |some none=>match Q0 (s.tm.take k).reverse with
   |some ds=> .ok (.lst s.n ds) {σ:=(s.tm.drop k).take ol,tm:=s.tm.drop (k+ol+K.k),n:=s.n+1}
   |none=> .no
  |some (some d)=>match f with
   |0=> .no
   |f+1=>match asg g d s.σ with
    |none=> .no
    |some σ'=>match mt {s with σ:=σ'} with
     | .ok false s1=>K4 K g mt me ol f (i+1) k s1
     | .ok true s1=>if k<qh then match me s1 with
      | .ok y s2=>K4 K g mt me ol f (i+1) (k+1) (s2.psh y)
      |_=> .no
      else .no
     |_=> .no
noncomputable def z8K(own:Nat)(ix:List Nat)(s:Stt):Stt:={σ:=A8 own none++ix.map (λi=>(s.σ[i]?).getD none),tm:=s.σ++s.tm,n:=s.n}
noncomputable def J3(mi:M ItK)(g:Tg)(mt:M Bool)(me:M D)(own:Nat)(ix:List Nat):M D:=bd mi λK s=>K4 K g mt me s.σ.length (K.len s.tm) 0 0 (z8K own ix s)
section
variable{X:Cx}{G:Gx}{F:Fy}{e a b c tg iter elt:bh}{pos:bT}
noncomputable def Fy.prot(F:Fy)(D:Addr)(ys:List V)(h:F.H0 D=none):Fy where
 A0:=F.A0
 H0:=upd F.H0 D (.lst ys)
 Z:=λa=>a=D\/F.Z a
 zA:=λa z=>by
  rcases z with rfl|z
  .exact⟨⟨_,Z6⟩,λq=>by obtain⟨o,e⟩:=F.aH _ q;rw[h] at e;cases e⟩
  .obtain⟨⟨o,e⟩,n⟩:=F.zA a z
   exact⟨⟨o,by rw[Z7 (U6 e h)];exact e⟩,n⟩
 aH:=λa q=>by
  obtain⟨o,e⟩:=F.aH a q
  exact⟨o,by rw[Z7 (U6 e h)];exact e⟩
 n0:=F.n0
 ρ0:=F.ρ0
 tv0:=[]
 xw:=λ_ _=>False
theorem Sl.none_map{ρ:Nat->Addr}{H:Hp}: ∀k:Nat,Sl G ρ H (A8 k none) (A8 k none)
 |0=>by simp[Sl]
 |k+1=>by erw[S9,Sl];exact⟨_,_,rfl,Sl.none_map k⟩
theorem Sl.pick{ρ:Nat->Addr}{H:Hp}{σ:Qq}{σv:List (Option V)}(h:Sl G ρ H σ σv): ∀ix:List Nat,Sl G ρ H (ix.map λi=>(σ[i]?).getD none) (ix.map λi=>(σv[i]?).getD none)
 |[]=>by simp[Sl]
 |i::ix=>by
  erw[i6]
  cases e:σ[i]? with
  |none=>erw[N6,Sl];exact⟨_,_,rfl,Sl.pick h ix⟩
  |some o=>
   cases o with
   |none=>erw[B2,Sl];exact⟨_,_,rfl,Sl.pick h ix⟩
   |some d=>
    obtain⟨v,e1,r⟩:=h.get i d e
    erw[B2,Sl,e1]
    exact⟨_,_,rfl,r,Sl.pick h ix⟩
theorem z1I{σ:Qq}{l:Nat}: ∀{ix:List Nat},l∈Y6 (ix.map λi=>(σ[i]?).getD none)->l∈Y6 σ
 |[],h=>by simp[Y6] at h
 |i::ix,h=>by
  erw[i6] at h
  cases e:σ[i]? with
  |none=>rw[e] at h;erw[N6,Y6] at h;exact z1I h
  |some o=>
   rw[e] at h
   cases o with
   |none=>erw[B2,Y6] at h;exact z1I h
   |some d=>
    erw[B2,Y6] at h
    rcases i9.mp h with h|h
    .exact z1G e l h
    .exact z1I h
theorem z30{l:Nat}: ∀k:Nat,¬l∈Y6 (A8 k (none:Option D))
 |0,h=>by simp[Y6] at h
 |k+1,h=>by erw[S9,Y6] at h;exact z30 k h
def MR.enter{ρ:Nat->Addr}{H:Hp}{σv tv:List (Option V)}{s:Stt}{D:Addr}(M:MR G F.toFx ρ H σv tv s)(hD:H D=none)(k:KD G.K (upd H D (.lst [])))(own:Nat)(ix:List Nat):
 MR G (F.prot D [] (M.fresh0 hD)).toFx ρ (upd H D (.lst [])) (z1E own ix σv) (σv++tv) (z8K own ix s):=by
 have sm:=z3s.new (.lst []) hD
 have M1:=M.same sm k
 have nD: ∀l,l<s.n->ρ l≠D:=λl hl e=>by
  obtain⟨o,q⟩:=M.dom l hl
  rw[e,hD] at q;cases q
 have sub: ∀l∈V2 (z8K own ix s),l∈V2 s:=λl h=>by
  rcases i9.mp h with h|h
  .have h:l∈Y6 (A8 own none++ix.map (λi=>(s.σ[i]?).getD none)):=h
   rw[Q3] at h
   rcases i9.mp h with h|h
   .exact absurd h (z30 own)
   .exact i7 _ (z1I h)
  .have h:l∈Y6 (s.σ++s.tm):=h
   rw[Q3] at h
   exact h
 refine⟨?_,M1.sl.append M1.tm,M1.inj,M1.dom,λl h=>M.lab l (sub l h),λl h=> ?_,λa o e=> ?_,k,λl hl z=> ?_,M.bas⟩
 .exact(Sl.none_map own).append (M1.sl.pick ix)
 .rcases M.own l (sub l h) with q|q
  .exact .inl q
  .refine .inr ?_
   show upd F.H0 D (.lst []) (ρ l)=none
   rw[Z7 (nD l (M.lab l (sub l h)))];exact q
 .have e:upd F.H0 D (.lst []) a=some o:=e
  by_cases ha:a=D
  .subst ha
   rw[Z6] at e;cases e
   exact⟨⟨_,Z6⟩,λ_=>Z6⟩
  .rw[Z7 ha] at e
   exact M1.frm a o e
 .rcases z with z|z
  .exact nD l hl z
  .exact M.frb l hl z
def MR.turnD{ρ:Nat->Addr}{H:Hp}{σv tv:List (Option V)}{s:Stt}{D:Addr}{ys ys':List V}{hf:F.H0 D=none}(M:MR G (F.prot D ys hf).toFx ρ H σv tv s):
 H D=some (.lst ys)/\MR G (F.prot D ys' hf).toFx ρ (upd H D (.lst ys')) σv tv s:=by
 have hD:H D=some (.lst ys):=(M.frm D (.lst ys) Z6).2 ((F.prot D ys hf).zA D (.inl rfl)).2
 have nD: ∀l,l<s.n->ρ l≠D:=λl hl e=>M.frb l hl (.inl e)
 have st:v6 H (upd H D (.lst ys')):=⟨λb xs e=>by rw[Z7 (z0j e hD (by intro z;cases z))];exact e,λb o u e=>by rw[Z7 (z0j e hD (by intro z;cases z))];exact e⟩
 refine⟨hD,⟨Sl.stay st M.sl λl hl=>⟨rfl,λo e=> ?_⟩,Sl.stay st M.tm λl hl=>⟨rfl,λo e=> ?_⟩,M.inj,λl hl=> ?_,M.lab,λl h=> ?_,λa o e=> ?_,λa o e=> ?_,λl hl=>M.frb l hl,M.bas⟩⟩
 .rw[Z7 (nD l (M.lab l (i7 _ hl)))];exact e
 .rw[Z7 (nD l (M.lab l (i4 _ hl)))];exact e
 .rw[Z7 (nD l hl)];exact M.dom l hl
 .rcases M.own l h with q|q
  .exact .inl q
  .refine .inr ?_
   have q:upd F.H0 D (.lst ys) (ρ l)=none:=q
   show upd F.H0 D (.lst ys') (ρ l)=none
   rw[Z7 (nD l (M.lab l h))] at q⊢;exact q
 .have e:upd F.H0 D (.lst ys') a=some o:=e
  by_cases ha:a=D
  .subst ha
   rw[Z6] at e;cases e
   exact⟨⟨_,Z6⟩,λ_=>Z6⟩
  .rw[Z7 ha] at e⊢
   exact M.frm a o (by show upd F.H0 D (.lst ys) a=some o;rw[Z7 ha];exact e)
 .by_cases ha:a=D
  .subst ha
   rw[M.kd a o e] at hD;cases hD
  .rw[Z7 ha];exact M.kd a o e
theorem Sl.all{ρ:Nat->Addr}{H:Hp}: ∀{tm:Qq} {ys:List V} {ds:List D},Sl G ρ H tm (ys.map some)->Q0 tm=some ds->RDs G ρ H ds ys/\qq ds=Y6 tm
 |[],ys,ds,h,e=>by
  erw[Sl] at h
  erw[Q0,Option.some.injEq] at e
  subst e
  have:ys=[]:=by simpa using h
  subst this
  simp[RDs,qq,Y6]
 |none::r,ys,ds,h,e=>by erw[Q0] at e;cases e
 |some d::r,ys,ds,h,e=>by
  erw[Sl] at h
  obtain⟨v,q,e1,h1,h2⟩:=h
  cases ys with
  |nil=>cases e1
  |cons y ys=>
   erw[i6,List.cons.injEq,Option.some.injEq] at e1
   obtain⟨rfl,rfl⟩:=e1
   erw[Q0] at e
   cases e2:Q0 r with
   |none=>rw[e2] at e;cases e
   |some es=>
    rw[e2] at e
    cases e
    obtain⟨r1,r2⟩:=Sl.all h2 e2
    refine⟨?_,by erw[qq,Y6,r2]⟩
    erw[RDs]
    exact⟨_,_,rfl,h1,r1⟩
theorem Sl.reverse{ρ:Nat->Addr}{H:Hp}: ∀{tm:Qq} {ys:List (Option V)},Sl G ρ H tm ys->Sl G ρ H tm.reverse ys.reverse
 |[],ys,h=>by erw[Sl] at h;subst h;simp[Sl]
 |none::r,ys,h=>by
  erw[Sl] at h
  obtain⟨o,q,rfl,h⟩:=h
  rw[A6,A6]
  exact(Sl.reverse h).append (by erw[Sl];exact⟨_,_,rfl,rfl⟩)
 |some d::r,ys,h=>by
  erw[Sl] at h
  obtain⟨o,q,rfl,h1,h⟩:=h
  rw[A6,A6]
  exact(Sl.reverse h).append (by erw[Sl];exact⟨_,_,rfl,h1,rfl⟩)
theorem z31{l:Nat}: ∀{tm:Qq},l∈Y6 tm.reverse↔l∈Y6 tm
 |[]=>by simp
 |none::r=>by
  rw[A6,Q3]
  erw[Y6,l4]
  exact z31
 |some d::r=>by
  rw[A6,Q3]
  erw[Y6,l4,i9]
  rw[z31]
  exact Or.comm
def MR.leave{ρ:Nat->Addr}{H:Hp}{σi σv tvs tv:List (Option V)}{s:Stt}{A1:Addr}{ys:List V}{hf:F.H0 A1=none}{ds:List D}{kk:Nat}
 (M:MR G (F.prot A1 ys hf).toFx ρ H σi ((ys.reverse.map some)++(σv++(tvs++tv))) s) (hk:tvs.length=kk) (ol:Nat) (ho:σv.length=ol) (e:Q0 (s.tm.take ys.length).reverse=some ds):
 MRL G F.toFx (ext ρ s.n A1) H σv tv {σ:=(s.tm.drop ys.length).take ol,tm:=s.tm.drop (ys.length+ol+kk),n:=s.n+1} [.lst s.n ds] [.ref A1]:=by
 subst hk ho
 have hD:=(MR.turnD (ys':=ys) M).1
 have nD: ∀l,l<s.n->ρ l≠A1:=λl hl e=>M.frb l hl (.inl e)
 have t0:=Sl.split (ys.reverse.map some) M.tm
 erw[l0,F5] at t0
 obtain⟨t1,t2⟩:=t0
 obtain⟨t3,t4⟩:=Sl.split σv t2
 obtain⟨_,t6⟩:=Sl.split tvs t4
 rw[D9] at t4
 rw[D9,D9] at t6
 have t6':Sl G ρ H (s.tm.drop (ys.length+σv.length+tvs.length)) tv:=by rw[C6];exact t6
 have t1':=t1.reverse
 rw[<-u0c,S8] at t1'
 obtain⟨r1,r2⟩:=Sl.all t1' e
 have lt: ∀l,l∈Y6 (s.tm.take ys.length)->l∈V2 s:=λl h=>i4 _ (by
  have e:=Q3 (s.tm.take ys.length) (s.tm.drop ys.length)
  rw[D3] at e
  rw[e];exact i7 _ h)
 have ld: ∀l k,l∈Y6 (s.tm.drop k)->l∈V2 s:=λl k h=>i4 _ (by
  have e:=Q3 (s.tm.take k) (s.tm.drop k)
  rw[D3] at e
  rw[e];exact i4 _ h)
 have ldt: ∀l k j,l∈Y6 ((s.tm.drop k).take j)->l∈V2 s:=λl k j h=>ld l k (by
  have e:=Q3 ((s.tm.drop k).take j) ((s.tm.drop k).drop j)
  rw[D3] at e
  rw[e];exact i7 _ h)
 have own: ∀l∈V2 s,F.A0 (ρ l)\/F.H0 (ρ l)=none:=λl h=>by
  rcases M.own l h with q|q
  .exact .inl q
  .refine .inr ?_
   have q:upd F.H0 A1 (.lst ys) (ρ l)=none:=q
   rw[Z7 (nD l (M.lab l h))] at q;exact q
 have st:=v6.refl H
 have stay: ∀l,l<s.n->ext ρ s.n A1 l=ρ l/\∀o,H (ρ l)=some o->H (ρ l)=some o:=λl hl=>⟨j3 hl,λo e=>e⟩
 have all: ∀l∈V2 {σ:=(s.tm.drop ys.length).take σv.length,tm:=s.tm.drop (ys.length+σv.length+tvs.length),n:=s.n+1},l∈V2 s:=λl h=>by
  rcases i9.mp h with h|h
  .exact ldt l _ _ h
  .exact ld l _ h
 have dsl: ∀l∈qq ds,l∈V2 s:=λl h=>lt l (by rw[r2] at h;exact z31.mp h)
 refine⟨⟨Sl.stay st t3 λl hl=>stay l (M.lab l (ldt l _ _ hl)),Sl.stay st t6' λl hl=>stay l (M.lab l (ld l _ hl)),λi j hi hj eq=> ?_,λl hl=> ?_,λl h=>F3 (M.lab l (all l h)),λl h=> ?_,λa o e=> ?_,M.kd,λl hl z=> ?_,⟨u06 M.bas.1,λl hl=>by rw[j3 (t7 hl M.bas.1)];exact M.bas.2 l hl⟩⟩, ?_,λl h=> ?_⟩
 .have hi:i<s.n+1:=hi
  have hj:j<s.n+1:=hj
  by_cases h1:i=s.n
  .by_cases h2:j=s.n
   .lia
   .rw[h1,G8,j3 ⋯] at eq
    exact absurd eq.symm (nD j ⋯)
  .by_cases h2:j=s.n
   .rw[h2,G8,j3 ⋯] at eq
    exact absurd eq (nD i ⋯)
   .rw[j3 ⋯,j3 ⋯] at eq
    exact M.inj i j ⋯ ⋯ eq
 .have hl:l<s.n+1:=hl
  by_cases h1:l=s.n
  .subst h1;rw[G8];exact⟨_,hD⟩
  .rw[j3 ⋯];exact M.dom l ⋯
 .rw[j3 (M.lab l (all l h))];exact own l (all l h)
 .exact M.frm a o (by show upd F.H0 A1 (.lst ys) a=some o;rw[Z7 (U6 e hf)];exact e)
 .have hl:l<s.n+1:=hl
  by_cases h1:l=s.n
  .subst h1;rw[G8] at z
   obtain⟨⟨o,e⟩,_⟩:=F.zA A1 z
   rw[hf] at e;cases e
  .rw[j3 ⋯] at z
   exact M.frb l ⋯ (.inr z)
 .refine RDs.one ?_
  erw[RD]
  rw[G8]
  exact⟨rfl,ys,hD,RDs.stay st ds ys r1 λl hl=>stay l (M.lab l (dsl l hl))⟩
 .erw[qq,labs,l4] at h
  rcases l6.mp h with q|q
  .rw[q,G8];exact⟨B0 _, .inr hf⟩
  .have q2:=dsl l q
   exact⟨F3 (M.lab l q2),by rw[j3 (M.lab l q2)];exact own l q2⟩
noncomputable def tMx(G:Gx)(m:M D):TE:=λ σ H Q=> ∃F:Fy,tM G F m σ H Q
noncomputable def tBx(G:Gx)(m:M Bool):TT:=λ σ H Q=> ∃F:Fy,tMB G F m σ H Q
noncomputable def tGx(G:Gx)(g:Tg):TG:=λv σ H Q=> ∃F:Fy,tGn G F g v σ H Q
noncomputable def STs(X:Cx)(G:Gx)(F:Fy)(ifs:List bh)(m:M Bool):Prop:=PTs X ifs (tMB G F m)
def z6F{K:W.Frag}{k:Nat}{ix:List Nat}{mi:M ItK}{g:Tg}{mt:M Bool}{me:M D}{σ:St}{H:Hp}{Q:VK}(hk:K=G.K)(h:tM G F (J3 mi g mt me k ix) σ H Q):z57 K (tI G F mi) (tGx G g) (tBx G mt) (tMx G me) k ix σ H Q:=by
 obtain⟨tv,hsf,ρ,s,M,W⟩:=h
 refine⟨tv,hsf,ρ,s,M, ?_⟩
 unfold J3 bd at W
 cases em:mi s with
 |ex d s1=>rw[em] at W;exact W
 |no=>rw[em] at W;exact W
 |ok K s1=>
  rw[em] at W
  intro ρ1 H1 tvs J hl M1 hok A1 hA1 kd
  subst hk
  have kd:KD G.K (upd H1 A1 (.lst [])):=kd
  have hf:=M1.fresh0 hA1
  refine⟨λi m ys σ' H'=> ∃ρ s,MR G (F.prot A1 ys hf).toFx ρ H' σ' ((ys.reverse.map some)++(σ++(tvs++tv))) s/\wM G F σ tv (K4 K g mt me s1.σ.length m i ys.length s) Q,⟨_,ρ1,_,M1.enter hA1 kd k ix,W⟩, ?_⟩
  rintro i m ys σ' H' ⟨ρ2,s2,M2,W2⟩
  have hD:=(MR.turnD (ys':=ys) M2).1
  refine⟨hD, ?_⟩
  have ol:s1.σ.length=σ.length:=M1.sl.length
  have ok:=hok (F.prot A1 ys hf).toFx ρ2 H' σ' ((ys.reverse.map some)++σ) tv s2 i (by rw[m9];exact M2)
  simp only[l8,l0,F5,<-ol,m9] at ok
  unfold K4 at W2
  cases e:K.at' i (s2.tm.drop (ys.length+s1.σ.length)) with
  |none=>erw[e] at W2;exact False.elim W2
  |some o=>
   rw[e] at ok
   cases o with
   |none=>
    erw[e] at W2 ok
    refine .inl ⟨ok, ?_⟩
    cases ea:Q0 (s2.tm.take ys.length).reverse with
    |none=>erw[ea] at W2;exact False.elim W2
    |some ds=>
     erw[ea] at W2
     exact W2 _ _ _ (MR.leave M2 hl _ ol.symm ea)
   |some d=>
    erw[e] at W2 ok
    cases m with
    |zero=>exact False.elim W2
    |succ f=>
     dsimp only at W2
     cases e2:asg g d s2.σ with
     |none=>erw[e2] at W2;exact False.elim W2
     |some σ3=>
      erw[e2] at W2
      refine .inr ⟨ok.1,λx H2 y=> ?_⟩
      have hx:=ok.2 x H2 y
      refine⟨F.prot A1 ys hf,_,ρ2,s2,d,hx,σ3,e2,λ σv' M3=>⟨F.prot A1 ys hf,_,L3,ρ2,_,M3, ?_⟩⟩
      cases e3:mt {s2 with σ:=σ3} with
      |ex d s4=>erw[e3] at W2;exact False.elim W2
      |no=>erw[e3] at W2;exact False.elim W2
      |ok b s4=>
       intro ρ4 H4 M4
       cases b with
       |false=>
        erw[e3] at W2
        rw[qy A5]
        exact⟨f,B0 _,ρ4,s4,M4,W2⟩
       |true=>
        erw[e3] at W2
        rw[qw rfl]
        by_cases hz:ys.length<qh
        .rw[qw hz] at W2
         refine⟨F.prot A1 ys hf,_,L3,ρ4,s4,M4, ?_⟩
         cases e5:me s4 with
         |ex d s5=>erw[e5] at W2;exact False.elim W2
         |no=>erw[e5] at W2;exact False.elim W2
         |ok y s5=>
          erw[e5] at W2
          intro ρ5 v H5 M5
          obtain⟨hD5,M6⟩:=MR.turnD (ys':=ys++[v]) M5.push
          refine⟨hD5,hz,f,B0 _,ρ5,s5.psh y, ?_, ?_⟩
          .rw[F7,A6,F8,A4,t8]
           exact M6
          .rw[l8];exact W2
        .rw[qy hz] at W2;exact False.elim W2
end
mutual
noncomputable def findT(l:Nat):D->Option D
 | .tup ds=>findL l ds
 | .ro ds=>findL l ds
 | .fdc _ vs=>findL l vs
 | .lst k ds=>if k=l then some (.lst k ds) else findL l ds
 | .dct k ks vs=>if k=l then some (.dct k ks vs) else findL l vs
 | .obj k c ns vs=>if k=l then some (.obj k c ns vs) else findL l vs
 | .non=>none| .bool _=>none| .int _=>none| .str _=>none| .exc _=>none| .fn _=>none
noncomputable def findL(l:Nat):List D->Option D
 |[]=>none
 |d::ds=>match findT l d with
  |some x=>some x
  |none=>findL l ds
end
section
variable{G:Gx}{ρ:Nat->Addr}{H:Hp}
mutual
theorem zar(l:Nat): ∀(t:D) (v:V) (d:D),RD G ρ H t v->findT l t=some d->RD G ρ H d (.ref (ρ l))/\∀k∈labs d,k∈labs t
 | .non,v,d,h,e=>by erw[findT] at e;cases e
 | .bool b,v,d,h,e=>by erw[findT] at e;cases e
 | .int b,v,d,h,e=>by erw[findT] at e;cases e
 | .str b,v,d,h,e=>by erw[findT] at e;cases e
 | .exc b,v,d,h,e=>by erw[findT] at e;cases e
 | .fn b,v,d,h,e=>by erw[findT] at e;cases e
 | .tup ds,v,d,h,e=>by
  erw[findT,RD,labs] at h e⊢
  obtain⟨a,xs,_,_,r⟩:=h
  exact findL_rd l ds xs d r e
 | .ro ds,v,d,h,e=>by
  erw[findT,RD,labs] at h e⊢
  obtain⟨a,xs,_,_,r⟩:=h
  exact findL_rd l ds xs d r e
 | .fdc ks vs,v,d,h,e=>by
  erw[findT,RD,labs] at h e⊢
  obtain⟨a,o,u,xs,_,_,_,r⟩:=h
  exact findL_rd l vs _ d r e
 | .lst k ds,v,d,h,e=>by
  erw[findT] at e
  by_cases hk:k=l
  .rw[qw hk] at e;cases e
   subst hk
   have h':=h
   erw[RD] at h'
   obtain⟨rfl,_⟩:=h'
   exact⟨h,λ_ q=>q⟩
  .rw[qy hk] at e
   erw[RD] at h
   obtain⟨_,xs,_,r⟩:=h
   obtain⟨q1,q2⟩:=findL_rd l ds xs d r e
   exact⟨q1,λj hj=>by erw[labs];exact i5 _ (q2 j hj)⟩
 | .dct k ks vs,v,d,h,e=>by
  erw[findT] at e
  by_cases hk:k=l
  .rw[qw hk] at e;cases e
   subst hk
   have h':=h
   erw[RD] at h'
   obtain⟨rfl,_⟩:=h'
   exact⟨h,λ_ q=>q⟩
  .rw[qy hk] at e
   erw[RD] at h
   obtain⟨_,⟨kvs,_,_,r⟩|⟨kvs,_,_,r⟩⟩:=h
   .obtain⟨q1,q2⟩:=findL_rd l vs _ d r e
    exact⟨q1,λj hj=>by erw[labs];exact i5 _ (i4 _ (q2 j hj))⟩
   .obtain⟨q1,q2⟩:=findL_rd l vs _ d r e
    exact⟨q1,λj hj=>by erw[labs];exact i5 _ (i4 _ (q2 j hj))⟩
 | .obj k c ns vs,v,d,h,e=>by
  erw[findT] at e
  by_cases hk:k=l
  .rw[qw hk] at e;cases e
   subst hk
   have h':=h
   erw[RD] at h'
   obtain⟨rfl,_⟩:=h'
   exact⟨h,λ_ q=>q⟩
  .rw[qy hk] at e
   erw[RD] at h
   obtain⟨_,C,dx,fs,_,_,_,r⟩:=h
   obtain⟨q1,q2⟩:=findL_rd l vs _ d r e
   exact⟨q1,λj hj=>by erw[labs];exact i5 _ (q2 j hj)⟩
theorem findL_rd(l:Nat): ∀(t:List D) (v:List V) (d:D),RDs G ρ H t v->findL l t=some d->RD G ρ H d (.ref (ρ l))/\∀k∈labs d,k∈qq t
 |[],v,d,h,e=>by erw[findL] at e;cases e
 |t::ts,v,d,h,e=>by
  erw[findL,RDs,qq] at h e⊢
  obtain⟨x,r,_,h1,h2⟩:=h
  cases e1:findT l t with
  |some y=>
   rw[e1] at e;cases e
   obtain⟨q1,q2⟩:=zar l t x _ h1 e1
   exact⟨q1,λj hj=>i7 _ (q2 j hj)⟩
  |none=>
   rw[e1] at e
   obtain⟨q1,q2⟩:=findL_rd l ts r d h2 e
   exact⟨q1,λj hj=>i4 _ (q2 j hj)⟩
end
def roL_two{K:W.Frag}{a:Addr}{xs ys:List V}(k:KD K H)(h:RoL K H a xs)(h':RoL K H a ys):xs=ys:=SqL.two k h.sq h'.sq
noncomputable def z6G(G:Gx)(H:Hp)(a:Addr):Nat->Prop
 |0=> ∃xs,SqT G.K H a xs
 |1=> ∃xs,RoL G.K H a xs
 |2=> ∃xs,H a=some (.lst xs)
 |3=>(∃kvs,H a=some (.dK kvs))\/∃kvs,H a=some (.dT kvs)
 |4=> ∃C dx fs,H a=some (.ins C dx fs)
 |5=> ∃o φ,H a=some (.frz o (.ext φ))
 |6=> ∃c,G.cl c=some a
 |_=> ∃o u,H a=some (.frz o u)/\((∃kvs,u= .dK kvs)\/∃kvs,u= .dT kvs)
open Classical in
noncomputable def kd(K:W.Frag)(H:Hp)(a:Addr):Nat:=match H a with
 |some (.tup _)=>0|some (.frz _ (.tup _))=>0|some (.frz _ (.lst _))=>1|some (.lst _)=>2|some (.dK _)=>3|some (.dT _)=>3|some (.ins _ _ _)=>4|some (.frz _ (.ext _))=>5|some (.frz _ (.dT _))=>7|some (.frz _ (.dK _))=>7
 |some _=>9
 |none=>match K.lookup a with
  |some o=>if(∃its n,o.data= .seq its n) then(if o.cls= .type "tuple" then 0 else 1) else 6
  |none=>8
def zfS{a:Addr}(k:KD G.K H): ∀{i:Nat},z6G G H a i->i<=7->kd G.K H a=i:=by
 have tl: ¬((.type "list" :bb)= .type "tuple"):=by intro h;injection h with h;exact absurd h (by decide)
 intro i hi li
 match i,hi,li with
 |0,⟨xs,h⟩,_=>
  rcases h with(h|⟨o,h⟩)|⟨o,its,n,h,hc,hd,_⟩
  .delta kd;rw[h]
  .delta kd;rw[h]
  .delta kd;rw[k _ _ h];dsimp only;rw[h];dsimp only;rw[qw ⟨its,n,hd⟩,qw hc]
 |1,⟨xs,h⟩,_=>
  rcases h with⟨o,h⟩|⟨o,its,n,h,hc,_,hd,_⟩
  .delta kd;rw[h]
  .delta kd;rw[k _ _ h];dsimp only;rw[h];dsimp only;rw[qw ⟨its,n,hd⟩,qy (by rw[hc];exact tl)]
 |2,⟨xs,h⟩,_=>delta kd;rw[h]
 |3,h,_=>rcases h with⟨_,h⟩|⟨_,h⟩<;>(delta kd;rw[h])
 |4,⟨_,_,_,h⟩,_=>delta kd;rw[h]
 |5,⟨_,_,h⟩,_=>delta kd;rw[h]
 |6,⟨c,h⟩,_=>
  obtain⟨o,h1,h2⟩:=G.ck c a h
  delta kd;rw[k _ _ h1];dsimp only;rw[h1];dsimp only;rw[qy (λ⟨its,n,q⟩=>h2 its n q)]
 |7,⟨_,_,h,e⟩,_=>rcases e with⟨_,e⟩|⟨_,e⟩<;>(delta kd;rw[h,e])
 |n+8,_,li=>lia
def zas{a:Addr}(k:KD G.K H){i j:Nat}(hi:z6G G H a i)(hj:z6G G H a j)(li:i<=7)(lj:j<=7):i=j:=(zfS k hi li).symm.trans (zfS k hj lj)
noncomputable def ix:D->Nat
 | .tup _=>0| .ro _=>1| .lst _ _=>2| .dct _ _ _=>3| .obj _ _ _ _=>4| .exc _=>5| .fn _=>6| .fdc _ _=>7|_=>8
noncomputable def flD:V->D
 | .bl b=> .bool b| .int b=> .int b| .str b=> .str b|_=> .non
def RD.kind{t:D}{v:V}(h:RD G ρ H t v):(t=flD v/\∀a,v≠ .ref a)\/∃a,v= .ref a/\ix t<=7/\z6G G H a (ix t):=by
 cases t<;>erw[RD] at h
 .exact .inl (by rw[h];exact⟨rfl,nofun⟩)
 .exact .inl (by rw[h];exact⟨rfl,nofun⟩)
 .exact .inl (by rw[h];exact⟨rfl,nofun⟩)
 .exact .inl (by rw[h];exact⟨rfl,nofun⟩)
 .obtain⟨a',xs,e,s,r⟩:=h;exact .inr ⟨a',e,B9 rfl,xs,SqT.of s⟩
 .obtain⟨a',xs,e,s,r⟩:=h;exact .inr ⟨a',e,B9 rfl,xs,s⟩
 .obtain⟨e,xs,s,r⟩:=h;exact .inr ⟨_,e,B9 rfl,xs,s⟩
 .obtain⟨e,⟨kvs,s,_⟩|⟨kvs,s,_⟩⟩:=h
  .exact .inr ⟨_,e,B9 rfl, .inl ⟨kvs,s⟩⟩
  .exact .inr ⟨_,e,B9 rfl, .inr ⟨kvs,s⟩⟩
 .obtain⟨e,C,dx,fs,_,s,_⟩:=h;exact .inr ⟨_,e,B9 rfl,C,dx,fs,s⟩
 .obtain⟨a',o,C,e,_,_,_,s⟩:=h;exact .inr ⟨a',e,B9 rfl,o,_,s⟩
 .obtain⟨a',e,s⟩:=h;exact .inr ⟨a',e,B9 rfl,_,s⟩
 .obtain⟨a',o,u,xs,e,s,f,_⟩:=h
  refine .inr ⟨a',e,B9 rfl,o,u,s, ?_⟩
  obtain⟨kvs,e,_⟩|⟨kvs,e,_⟩:=f
  .exact .inl ⟨kvs,e⟩
  .exact .inr ⟨kvs,e⟩
def ix0{t:D}(h:ix t=0): ∃ds,t= .tup ds:=by cases t<;>first|exact⟨_,rfl⟩|cases h
def ix1{t:D}(h:ix t=1): ∃ds,t= .ro ds:=by cases t<;>first|exact⟨_,rfl⟩|cases h
def ix2{t:D}(h:ix t=2): ∃l ds,t= .lst l ds:=by cases t<;>first|exact⟨_,_,rfl⟩|cases h
def ix3{t:D}(h:ix t=3): ∃l ks vs,t= .dct l ks vs:=by cases t<;>first|exact⟨_,_,_,rfl⟩|cases h
def ix4{t:D}(h:ix t=4): ∃l c ns vs,t= .obj l c ns vs:=by cases t<;>first|exact⟨_,_,_,_,rfl⟩|cases h
def ix5{t:D}(h:ix t=5): ∃c,t= .exc c:=by cases t<;>first|exact⟨_,rfl⟩|cases h
def ix6{t:D}(h:ix t=6): ∃c,t= .fn c:=by cases t<;>first|exact⟨_,rfl⟩|cases h
def ix7{t:D}(h:ix t=7): ∃ks vs,t= .fdc ks vs:=by cases t<;>first|exact⟨_,_,rfl⟩|cases h
def RD.ixE{t t':D}{v:V}(k:KD G.K H)(h:RD G ρ H t v)(h':RD G ρ H t' v):t=t'\/ix t=ix t':=by
 rcases RD.kind h with⟨e,n⟩|⟨a,e,l,q⟩<;>rcases RD.kind h' with⟨e',n'⟩|⟨a',e',l',q'⟩
 .exact .inl (e.trans e'.symm)
 .exact absurd e' (n _)
 .exact absurd e (n' _)
 .cases e.symm.trans e';exact .inr (zas k q q' l l')
section
variable(k:KD G.K H){n:Nat}(inj: ∀i j,i<n->j<n->ρ i=ρ j->i=j)
include k inj
mutual
theorem RD.uniq: ∀(t t':D) (v:V),RD G ρ H t v->RD G ρ H t' v->(∀l∈labs t,l<n)->(∀l∈labs t',l<n)->t=t'
 | .non,t',v,h,h',_,_=>(RD.kind h').elim (λe=>by erw[RD] at h;subst h;exact e.1.symm) λ⟨_,e,_⟩=>by erw[RD] at h;subst h;cases e
 | .bool b,t',v,h,h',_,_=>(RD.kind h').elim (λe=>by erw[RD] at h;subst h;exact e.1.symm) λ⟨_,e,_⟩=>by erw[RD] at h;subst h;cases e
 | .int b,t',v,h,h',_,_=>(RD.kind h').elim (λe=>by erw[RD] at h;subst h;exact e.1.symm) λ⟨_,e,_⟩=>by erw[RD] at h;subst h;cases e
 | .str b,t',v,h,h',_,_=>(RD.kind h').elim (λe=>by erw[RD] at h;subst h;exact e.1.symm) λ⟨_,e,_⟩=>by erw[RD] at h;subst h;cases e
 | .exc c,t',v,h,h',lb,lb'=>by
  rcases RD.ixE k h h' with e|e
  .exact e
  obtain⟨c',rfl⟩:=ix5 e.symm
  erw[RD] at h h'
  obtain⟨a,o,C,rfl,h1,h2,_,s⟩:=h
  obtain⟨a',o',C',e,h1',h2',_,s'⟩:=h'
  cases e
  rw[s] at s';cases s'
  rw[h2] at h2';cases h2'
  rw[G.ci c c' C h1 h1']
 | .fn c,t',v,h,h',lb,lb'=>by
  rcases RD.ixE k h h' with e|e
  .exact e
  obtain⟨c',rfl⟩:=ix6 e.symm
  erw[RD] at h h'
  obtain⟨a,rfl,h1⟩:=h
  obtain⟨a',e,h1'⟩:=h'
  cases e
  rw[G.ci c c' a h1 h1']
 | .tup ds,t',v,h,h',lb,lb'=>by
  rcases RD.ixE k h h' with e|e
  .exact e
  obtain⟨es,rfl⟩:=ix0 e.symm
  obtain⟨a,xs,rfl,s,r⟩:=h.tupq
  obtain⟨a',ys,e,s',r'⟩:=h'.tupq
  cases e
  cases SqT.two k s s'
  rw[RDs.uniq ds es xs r r' lb lb']
 | .fdc ks vs,t',v,h,h',lb,lb'=>by
  rcases RD.ixE k h h' with e|e
  .exact e
  obtain⟨ks',vs',rfl⟩:=ix7 e.symm
  erw[RD] at h h'
  obtain⟨a,o,u,xs,rfl,s,s2,r⟩:=h
  obtain⟨a',o',u',xs',e,s',s2',r'⟩:=h'
  cases e
  rw[s] at s';cases s'
  obtain⟨rfl,rfl⟩:=s2.one s2'
  rw[RDs.uniq vs vs' _ r r' lb lb']
 | .ro ds,t',v,h,h',lb,lb'=>by
  rcases RD.ixE k h h' with e|e
  .exact e
  obtain⟨es,rfl⟩:=ix1 e.symm
  erw[RD] at h h'
  obtain⟨a,xs,rfl,s,r⟩:=h
  obtain⟨a',ys,e,s',r'⟩:=h'
  cases e
  cases roL_two k s s'
  rw[RDs.uniq ds es xs r r' lb lb']
 | .lst l ds,t',v,h,h',lb,lb'=>by
  rcases RD.ixE k h h' with e|e
  .exact e
  obtain⟨l',es,rfl⟩:=ix2 e.symm
  erw[RD] at h h'
  obtain⟨rfl,xs,s,r⟩:=h
  obtain⟨e,ys,s',r'⟩:=h'
  cases inj l l' (lb l (.head _)) (lb' l' (.head _)) (V.ref.inj e)
  rw[s] at s';cases s'
  rw[RDs.uniq ds es xs r r' (λj hj=>lb j (.tail _ hj)) λj hj=>lb' j (.tail _ hj)]
 | .dct l ks vs,t',v,h,h',lb,lb'=>by
  rcases RD.ixE k h h' with e|e
  .exact e
  obtain⟨l',ks',vs',rfl⟩:=ix3 e.symm
  erw[RD] at h h'
  obtain⟨rfl,q⟩:=h
  obtain⟨e,q'⟩:=h'
  cases inj l l' (lb l (.head _)) (lb' l' (.head _)) (V.ref.inj e)
  have b1: ∀j∈qq vs,j<n:=λj hj=>lb j (.tail _ (i4 _ hj))
  have b2: ∀j∈qq vs',j<n:=λj hj=>lb' j (.tail _ (i4 _ hj))
  rcases q with⟨kvs,s,s2,r⟩|⟨kvs,s,s2,r⟩<;>rcases q' with⟨kvs',s',s2',r'⟩|⟨kvs',s',s2',r'⟩<;>rw[s] at s'<;>cases s'
  .rw[s2,s2',RDs.uniq vs vs' _ r r' b1 b2]
  .rw[s2,s2',RDs.uniq vs vs' _ r r' b1 b2]
 | .obj l c ns vs,t',v,h,h',lb,lb'=>by
  rcases RD.ixE k h h' with e|e
  .exact e
  obtain⟨l',c',ns',vs',rfl⟩:=ix4 e.symm
  erw[RD] at h h'
  obtain⟨rfl,C,dx,fs,hC,s,s2,r⟩:=h
  obtain⟨e,C',dx',fs',hC',s',s2',r'⟩:=h'
  cases inj l l' (lb l (.head _)) (lb' l' (.head _)) (V.ref.inj e)
  rw[s] at s';cases s'
  rw[s2,s2',G.ci c c' C hC hC',RDs.uniq vs vs' _ r r' (λj hj=>lb j (.tail _ hj)) λj hj=>lb' j (.tail _ hj)]
theorem RDs.uniq: ∀(t t':List D) (v:List V),RDs G ρ H t v->RDs G ρ H t' v->(∀l∈qq t,l<n)->(∀l∈qq t',l<n)->t=t'
 |[],t',v,h,h',_,_=>by
  erw[RDs] at h;subst h
  cases t' with
  |nil=>rfl
  |cons d ds=>erw[RDs] at h';obtain⟨_,_,e,_⟩:=h';cases e
 |d::ds,t',v,h,h',lb,lb'=>by
  erw[RDs] at h
  obtain⟨x,q,rfl,h1,h2⟩:=h
  cases t' with
  |nil=>erw[RDs] at h';cases h'
  |cons d' ds'=>
   erw[RDs] at h'
   obtain⟨_,_,e,h1',h2'⟩:=h'
   cases e
   rw[RD.uniq d d' x h1 h1' (λl hl=>lb l (by erw[qq];exact i7 _ hl)) λl hl=>lb' l (by erw[qq];exact i7 _ hl),
    RDs.uniq ds ds' q h2 h2' (λl hl=>lb l (by erw[qq];exact i4 _ hl)) λl hl=>lb' l (by erw[qq];exact i4 _ hl)]
end
end
end
open PySem.Spec PyProof.Rows
inductive RF where
 |ok (t:D) (ts:List D) (n:Nat)|ex (d:D) (ts:List D) (n:Nat)|no
noncomputable abbrev FM:=List D->Nat->RF
structure z7k(G:Gx)(ρ:Nat->Addr)(n:Nat)(ts:List D)(vs:List V)(H:Hp)(ρ':Nat->Addr)(n':Nat)(ts':List D)(H':Hp):Prop where
 old: ∀l,l<n->ρ' l=ρ l
 le:n<=n'
 inj: ∀i j,i<n'->j<n'->ρ' i=ρ' j->i=j
 dom: ∀l,l<n'->∃o,H' (ρ' l)=some o
 rd:RDs G ρ' H' ts' vs
 lb: ∀l∈qq ts',l<n'/\(l<n->l∈qq ts)
 fr: ∀a o,H a=some o->(∃o',H' a=some o')/\((∀l∈qq ts,a≠ρ l)->H' a=some o)
 new: ∀l,n<=l->l<n'->H (ρ' l)=none
 kd:KD G.K H'
section
variable{G:Gx}{ρ ρ':Nat->Addr}{H H':Hp}
def z8L(k:Key):labs (z1k k)=[]:=by cases k<;>erw[z1k,labs]
theorem z8M: ∀ks:List Key,qq (ks.map z1k)=[]
 |[]=>by erw[m8,qq]
 |k::ks=>by erw[i6,qq,z8L,z8M ks,l4]
def z5Q(z:Key⊕List Key):labs (nkD z)=[]:=by
 cases z with
 |inl k=>exact z8L k
 |inr ks=>erw[nkD,labs,z8M]
mutual
theorem z8N: ∀(t:D) (v:V),RD G ρ H t v->∀l∈labs t,∃o,H (ρ l)=some o/\(∀xs,o≠ .tup xs)/\∀u w,o≠ .frz u w
 | .non,v,h,l,hl=>by erw[labs] at hl;cases hl
 | .bool b,v,h,l,hl=>by erw[labs] at hl;cases hl
 | .int b,v,h,l,hl=>by erw[labs] at hl;cases hl
 | .str b,v,h,l,hl=>by erw[labs] at hl;cases hl
 | .exc b,v,h,l,hl=>by erw[labs] at hl;cases hl
 | .fn b,v,h,l,hl=>by erw[labs] at hl;cases hl
 | .tup ds,v,h,l,hl=>by
  erw[labs,RD] at h hl
  obtain⟨a,xs,_,_,r⟩:=h
  exact labL_mut ds xs r l hl
 | .fdc ks vs,v,h,l,hl=>by
  erw[labs,RD] at h hl
  obtain⟨a,o,u,xs,_,_,_,r⟩:=h
  exact labL_mut vs _ r l hl
 | .ro ds,v,h,l,hl=>by
  erw[labs,RD] at h hl
  obtain⟨a,xs,_,_,r⟩:=h
  exact labL_mut ds xs r l hl
 | .lst k ds,v,h,l,hl=>by
  erw[labs,RD] at h hl
  obtain⟨_,xs,s,r⟩:=h
  rcases l6.mp hl with rfl|hl
  .exact⟨_,s,(λ_ q=>nomatch q),(λ_ _ q=>nomatch q)⟩
  .exact labL_mut ds xs r l hl
 | .dct k ks vs,v,h,l,hl=>by
  erw[labs,RD] at h hl
  obtain⟨_,⟨kvs,s,s2,r⟩|⟨kvs,s,s2,r⟩⟩:=h
  .rcases l6.mp hl with rfl|hl
   .exact⟨_,s,(λ_ q=>nomatch q),(λ_ _ q=>nomatch q)⟩
   .rcases i9.mp hl with hl|hl
    .rw[s2] at hl
     obtain⟨d,hd,hl⟩:=X7 hl
     rcases l6.mp hd with rfl|hd
     .erw[labs] at hl;cases hl
     obtain⟨p,_,rfl⟩:=m5.mp hd
     obtain⟨kk,_⟩:=p
     cases kk<;>erw[z1k,labs] at hl<;>cases hl
    .exact labL_mut vs _ r l hl
  .rcases l6.mp hl with rfl|hl
   .exact⟨_,s,(λ_ q=>nomatch q),(λ_ _ q=>nomatch q)⟩
   .rcases i9.mp hl with hl|hl
    .rw[s2] at hl
     obtain⟨d,hd,hl⟩:=X7 hl
     obtain⟨p,_,rfl⟩:=m5.mp hd
     erw[dkD,labs] at hl
     obtain⟨d,hd,hl⟩:=X7 hl
     obtain⟨kk,_,rfl⟩:=m5.mp hd
     rw[z5Q] at hl;cases hl
    .exact labL_mut vs _ r l hl
 | .obj k c ns vs,v,h,l,hl=>by
  erw[labs,RD] at h hl
  obtain⟨_,C,dx,fs,_,s,_,r⟩:=h
  rcases l6.mp hl with rfl|hl
  .exact⟨_,s,(λ_ q=>nomatch q),(λ_ _ q=>nomatch q)⟩
  .exact labL_mut vs _ r l hl
theorem labL_mut: ∀(t:List D) (v:List V),RDs G ρ H t v->∀l∈qq t,∃o,H (ρ l)=some o/\(∀xs,o≠ .tup xs)/\∀u w,o≠ .frz u w
 |[],v,h,l,hl=>by erw[qq] at hl;cases hl
 |d::ds,v,h,l,hl=>by
  erw[qq,RDs] at h hl
  obtain⟨x,r,_,h1,h2⟩:=h
  rcases i9.mp hl with hl|hl
  .exact z8N d x h1 l hl
  .exact labL_mut ds r h2 l hl
end
def z7l{kvs:List (Key×V)}{l:Nat}(hl:l∈qq (kvs.map λp=>z1k p.1)):False:=by
 obtain⟨d,hd,hl⟩:=X7 hl
 obtain⟨p,_,rfl⟩:=m5.mp hd
 obtain⟨kk,_⟩:=p
 cases kk<;>erw[z1k,labs] at hl<;>cases hl
def z5R{kvs:List (NK×V)}{l:Nat}(hl:l∈qq (kvs.map λp=>dkD p.1)):False:=by
 obtain⟨d,hd,hl⟩:=X7 hl
 obtain⟨p,_,rfl⟩:=m5.mp hd
 erw[dkD,labs] at hl
 obtain⟨d,hd,hl⟩:=X7 hl
 obtain⟨kk,_,rfl⟩:=m5.mp hd
 rw[z5Q] at hl;cases hl
mutual
theorem z7m(l:Nat): ∀(t:D) (v:V),RD G ρ H t v->l∈labs t->(findT l t).isSome=true
 | .non,v,h,hl=>by erw[labs] at hl;cases hl
 | .bool b,v,h,hl=>by erw[labs] at hl;cases hl
 | .int b,v,h,hl=>by erw[labs] at hl;cases hl
 | .str b,v,h,hl=>by erw[labs] at hl;cases hl
 | .exc b,v,h,hl=>by erw[labs] at hl;cases hl
 | .fn b,v,h,hl=>by erw[labs] at hl;cases hl
 | .tup ds,v,h,hl=>by
  erw[labs,RD,findT] at h hl⊢
  obtain⟨a,xs,_,_,r⟩:=h
  exact findL_some l ds xs r hl
 | .fdc ks vs,v,h,hl=>by
  erw[labs,RD,findT] at h hl⊢
  obtain⟨a,o,u,xs,_,_,_,r⟩:=h
  exact findL_some l vs _ r hl
 | .ro ds,v,h,hl=>by
  erw[labs,RD,findT] at h hl⊢
  obtain⟨a,xs,_,_,r⟩:=h
  exact findL_some l ds xs r hl
 | .lst k ds,v,h,hl=>by
  erw[labs,RD,findT] at h hl⊢
  obtain⟨_,xs,s,r⟩:=h
  by_cases e:k=l
  .rw[qw e];rfl
  .rw[qy e]
   rcases l6.mp hl with q|q
   .exact absurd q.symm e
   .exact findL_some l ds xs r q
 | .dct k ks vs,v,h,hl=>by
  erw[labs,RD,findT] at h hl⊢
  obtain⟨_,⟨kvs,s,s2,r⟩|⟨kvs,s,s2,r⟩⟩:=h
  .by_cases e:k=l
   .rw[qw e];rfl
   .rw[qy e]
    rcases l6.mp hl with q|q
    .exact absurd q.symm e
    .rcases i9.mp q with q|q
     .rw[s2] at q;exact(z7l q).elim
     .exact findL_some l vs _ r q
  .by_cases e:k=l
   .rw[qw e];rfl
   .rw[qy e]
    rcases l6.mp hl with q|q
    .exact absurd q.symm e
    .rcases i9.mp q with q|q
     .rw[s2] at q;exact(z5R q).elim
     .exact findL_some l vs _ r q
 | .obj k c ns vs,v,h,hl=>by
  erw[labs,RD,findT] at h hl⊢
  obtain⟨_,C,dx,fs,_,s,_,r⟩:=h
  by_cases e:k=l
  .rw[qw e];rfl
  .rw[qy e]
   rcases l6.mp hl with q|q
   .exact absurd q.symm e
   .exact findL_some l vs _ r q
theorem findL_some(l:Nat): ∀(t:List D) (v:List V),RDs G ρ H t v->l∈qq t->(findL l t).isSome=true
 |[],v,h,hl=>by erw[qq] at hl;cases hl
 |d::ds,v,h,hl=>by
  erw[qq,RDs,findL] at h hl⊢
  obtain⟨x,r,_,h1,h2⟩:=h
  cases e:findT l d with
  |some y=>rfl
  |none=>
   rcases i9.mp hl with q|q
   .have:=z7m l d x h1 q
    rw[e] at this;cases this
   .exact findL_some l ds r h2 q
end
def z7k.stays{n n':Nat}{ts ts':List D}{vs:List V}(P:z7k G ρ n ts vs H ρ' n' ts' H')(r:RDs G ρ H ts vs):v6 H H':=by
 refine⟨λb xs e=>(P.fr b _ e).2 λl hl z=> ?_,λb o u e=>(P.fr b _ e).2 λl hl z=> ?_⟩
 .obtain⟨o,q,q1,_⟩:=labL_mut ts vs r l hl
  rw[<-z,e] at q;cases q;exact q1 _ rfl
 .obtain⟨o,q,_,q1⟩:=labL_mut ts vs r l hl
  rw[<-z,e] at q;cases q;exact q1 _ _ rfl
section
variable(k:KD G.K H){n:Nat}(inj: ∀i j,i<n->j<n->ρ i=ρ j->i=j){ts:List D}{vs:List V}(r:RDs G ρ H ts vs)(lb: ∀l∈qq ts,l<n)
include k inj r lb
mutual
theorem z3H: ∀(t:D) (v:V),RD G ρ H t v->(∀l∈labs t,l<n)->rp (λl=>findL l ts) t=t
 | .non,v,h,hl=>rfl
 | .bool b,v,h,hl=>rfl
 | .int b,v,h,hl=>rfl
 | .str b,v,h,hl=>rfl
 | .exc b,v,h,hl=>rfl
 | .fn b,v,h,hl=>rfl
 | .tup ds,v,h,hl=>by
  erw[labs,RD,rp] at h hl⊢
  obtain⟨a,xs,_,_,r1⟩:=h
  rw[rpL_find_id ds xs r1 hl]
 | .fdc ks vs,v,h,hl=>by
  erw[labs,RD,rp] at h hl⊢
  obtain⟨a,o,u,xs,_,_,_,r1⟩:=h
  rw[rpL_find_id vs _ r1 hl]
 | .ro ds,v,h,hl=>by
  erw[labs,RD,rp] at h hl⊢
  obtain⟨a,xs,_,_,r1⟩:=h
  rw[rpL_find_id ds xs r1 hl]
 | .lst l ds,v,h,hl=>by
  erw[rp]
  cases e:findL l ts with
  |some d=>
   dsimp only
   obtain⟨q1,q2⟩:=findL_rd l ts vs d r e
   have h':=h
   erw[RD] at h'
   obtain⟨rfl,_⟩:=h'
   exact RD.uniq k inj _ _ _ q1 h (λj hj=>lb j (q2 j hj)) hl
  |none=>
   dsimp only
   erw[labs,RD] at h hl
   obtain⟨_,xs,s,r1⟩:=h
   rw[rpL_find_id ds xs r1 λj hj=>hl j (i5 _ hj)]
 | .dct l ks vs',v,h,hl=>by
  erw[rp]
  cases e:findL l ts with
  |some d=>
   dsimp only
   obtain⟨q1,q2⟩:=findL_rd l ts vs d r e
   have h':=h
   erw[RD] at h'
   obtain⟨rfl,_⟩:=h'
   exact RD.uniq k inj _ _ _ q1 h (λj hj=>lb j (q2 j hj)) hl
  |none=>
   dsimp only
   erw[labs,RD] at h hl
   obtain⟨_,⟨kvs,s,s2,r1⟩|⟨kvs,s,s2,r1⟩⟩:=h
   .rw[rpL_find_id vs' _ r1 λj hj=>hl j (i5 _ (i4 _ hj))]
   .rw[rpL_find_id vs' _ r1 λj hj=>hl j (i5 _ (i4 _ hj))]
 | .obj l c ns vs',v,h,hl=>by
  erw[rp]
  cases e:findL l ts with
  |some d=>
   dsimp only
   obtain⟨q1,q2⟩:=findL_rd l ts vs d r e
   have h':=h
   erw[RD] at h'
   obtain⟨rfl,_⟩:=h'
   exact RD.uniq k inj _ _ _ q1 h (λj hj=>lb j (q2 j hj)) hl
  |none=>
   dsimp only
   erw[labs,RD] at h hl
   obtain⟨_,C,dx,fs,_,s,_,r1⟩:=h
   rw[rpL_find_id vs' _ r1 λj hj=>hl j (i5 _ hj)]
theorem rpL_find_id: ∀(t:List D) (v:List V),RDs G ρ H t v->(∀l∈qq t,l<n)->rpL (λl=>findL l ts) t=t
 |[],v,h,hl=>rfl
 |d::ds,v,h,hl=>by
  erw[qq,RDs,rpL] at h hl⊢
  obtain⟨x,q,_,h1,h2⟩:=h
  rw[z3H d x h1 λj hj=>hl j (i7 _ hj),rpL_find_id ds q h2 λj hj=>hl j (i4 _ hj)]
end
theorem z0E: ∀(t:Qq) (v:List (Option V)),Sl G ρ H t v->(∀l∈Y6 t,l<n)->rpO (λl=>findL l ts) t=t
 |[],v,h,hl=>rfl
 |none::r',v,h,hl=>by
  erw[Y6,Sl,rpO] at h hl⊢
  obtain⟨o,q,_,h⟩:=h
  rw[z0E r' q h hl]
 |some d::ds,v,h,hl=>by
  erw[Y6,Sl,rpO] at h hl⊢
  obtain⟨x,q,_,h1,h2⟩:=h
  rw[z3H k inj r lb d x h1 λj hj=>hl j (i7 _ hj),z0E ds q h2 λj hj=>hl j (i4 _ hj)]
end
variable{F:Fy}{σv tv:List (Option V)}{s:Stt}{np:Nat}
def MR.call{ts ts':List D}{vs:List V}{n':Nat}(M:MR G F.toFx ρ H σv tv s)(r:RDs G ρ H ts vs)(lb:LB F.toFx ρ s.n (qq ts))(P:z7k G ρ s.n ts vs H ρ' n' ts' H')
 (hc: ∀l∈V2 s,l∈qq ts->(findL l ts').isSome=true):MR G F.toFx ρ' H' σv tv {σ:=rpO (λl=>findL l ts') s.σ,tm:=rpO (λl=>findL l ts') s.tm,n:=n'}:=by
 have st:=P.stays r
 have step: ∀l∈V2 s,ρ' l=ρ l/\(match findL l ts' with|some d=>RD G ρ' H' d (.ref (ρ l))|none=> ∀o,H (ρ l)=some o->H' (ρ l)=some o):=λl hl=>by
  have ol:=P.old l (M.lab l hl)
  refine⟨ol, ?_⟩
  cases e:findL l ts' with
  |some d=>
   have q:=(findL_rd l ts' vs d P.rd e).1
   rw[ol] at q;exact q
  |none=>
   intro o e1
   refine(P.fr _ _ e1).2 λj hj z=> ?_
   have:l=j:=M.inj l j (M.lab l hl) (lb j hj).1 z
   subst this
   have:=hc l hl hj
   rw[e] at this;cases this
 have hn: ∀l,l<n'->l<s.n\/H (ρ' l)=none:=λl hl=>by
  by_cases h:l<s.n
  .exact .inl h
  .exact .inr (P.new l (P4.mp h) hl)
 have hlab: ∀(xs:Qq),(∀l∈Y6 xs,l∈V2 s)->∀l∈Y6 (rpO (λl=>findL l ts') xs),l<n'/\(l<s.n->l∈V2 s\/l∈qq ts):=λxs hx l h=>by
  rcases z2A l xs h with q|⟨k,d,q1,q2,q3⟩
  .exact⟨t7 (M.lab l (hx l q)) P.le,λ_=> .inl (hx l q)⟩
  .obtain⟨b1,b2⟩:=P.lb l ((findL_rd k ts' vs d P.rd q2).2 l q3)
   exact⟨b1,λz=> .inr (b2 z)⟩
 have all: ∀l∈V2 {σ:=rpO (λl=>findL l ts') s.σ,tm:=rpO (λl=>findL l ts') s.tm,n:=n'},l<n'/\(l<s.n->l∈V2 s\/l∈qq ts):=λl h=>by
  rcases i9.mp h with h|h
  .exact hlab s.σ (λl q=>i7 _ q) l h
  .exact hlab s.tm (λl q=>i4 _ q) l h
 refine⟨Sl.rp st M.sl λl hl=>step l (i7 _ hl),Sl.rp st M.tm λl hl=>step l (i4 _ hl),P.inj,P.dom,λl h=>(all l h).1,λl h=> ?_,λa o e=> ?_,P.kd,λl hl z=> ?_,⟨C1 M.bas.1 P.le,λl hl=> ?_⟩⟩
 .rcases hn l (all l h).1 with q|q
  .rw[P.old l q]
   rcases(all l h).2 q with z|z
   .exact M.own l z
   .exact(lb l z).2
  .exact .inr (M.fresh0 q)
 .obtain⟨⟨o1,e1⟩,e2⟩:=M.frm a o e
  obtain⟨e3,e4⟩:=P.fr a o1 e1
  refine⟨e3,λnA=> ?_⟩
  have e5:=e2 nA
  rw[e1] at e5;cases e5
  refine e4 λl hl z=> ?_
  rcases(lb l hl).2 with q|q
  .exact nA (z▸q)
  .rw[<-z,e] at q;cases q
 .rcases hn l hl with q|q
  .rw[P.old l q] at z;exact M.frb l q z
  .obtain⟨⟨o,e⟩,_⟩:=F.zA _ z
   obtain⟨⟨o',e'⟩,_⟩:=M.frm _ o e
   rw[q] at e';cases e'
 .rw[P.old l (t7 hl M.bas.1)];exact M.bas.2 l hl
def MR.call0{ts:List D}{vs:List V}{n':Nat}(M:MR G F.toFx ρ H σv tv s)(r:RDs G ρ H ts vs)(lb:LB F.toFx ρ s.n (qq ts))(P:z7k G ρ s.n ts vs H ρ' n' ts H'):MR G F.toFx ρ' H' σv tv {s with n:=n'}:=by
 have hf: ∀l∈qq ts,(findL l ts).isSome=true:=λl hl=>findL_some l ts vs r hl
 have M2:=M.call r lb P λl _ hl=>hf l hl
 rw[z0E M.kd M.inj r (λl hl=>(lb l hl).1) s.σ σv M.sl λl hl=>M.lab l (i7 _ hl),z0E M.kd M.inj r (λl hl=>(lb l hl).1) s.tm tv M.tm λl hl=>M.lab l (i4 _ hl)] at M2
 exact M2
open Classical in
noncomputable def z32(r:RF)(ts:List D):M D:=λs=>match r with
 | .ok t ts' n'=>if ts'=ts then .ok t {s with n:=n'} else
  if ∀l∈V2 s,l∈qq ts->(findL l ts').isSome=true then .ok t {σ:=rpO (λl=>findL l ts') s.σ,tm:=rpO (λl=>findL l ts') s.tm,n:=n'} else .no
 |_=> .no
noncomputable def Z8(f:FM)(ms:List (M D)):M D:=bd (Q2 ms) λts s=>z32 (f ts s.n) ts s
noncomputable def spM(G:Gx)(np:Nat)(f:FM):Sp:=λvs H Q _=>vs.length=np/\∃ρ n ts,RDs G ρ H ts vs/\(∀i j,i<n->j<n->ρ i=ρ j->i=j)/\(∀l,l<n->∃o,H (ρ l)=some o)/\(∀l∈qq ts,l<n)/\KD G.K H/\match f ts n with
 | .ok t ts' n'=> ∀ρ' v H',z7k G ρ n ts vs H ρ' n' ts' H'->RD G ρ' H' t v->(∀l∈labs t,l<n'/\(l<n->l∈qq ts))->Q v H'
 |_=>False
def z8O{ts:List D}{vs:List V}{f:FM}{Q:VK}{E:XK}(hl:vs.length=np)(M:MRL G F.toFx ρ H σv tv s ts vs)(W:wM G F σv tv (z32 (f ts s.n) ts s) Q):spM G np f vs H Q E:=by
 refine⟨hl,ρ,s.n,ts,M.rd,M.m.inj,M.m.dom,λl h=>(M.lb l h).1,M.m.kd, ?_⟩
 cases e:f ts s.n with
 |no=>rw[e] at W;exact W
 |ex d ts' n'=>rw[e] at W;exact W
 |ok t ts' n'=>
  rw[e] at W
  intro ρ' v H' P rd lbt
  have own: ∀l∈labs t,F.A0 (ρ' l)\/F.H0 (ρ' l)=none:=λl h=>by
   obtain⟨b1,b2⟩:=lbt l h
   by_cases hn:l<s.n
   .rw[P.old l hn];exact(M.lb l (b2 hn)).2
   .exact .inr (M.m.fresh0 (P.new l (P4.mp hn) b1))
  delta z32 at W
  dsimp only at W
  split at W
  .rename_i et
   subst et
   exact W.out (M.m.call0 M.rd M.lb P) rd λl h=>⟨(lbt l h).1,own l h⟩
  .split at W
   .rename_i hc
    exact W.out (M.m.call M.rd M.lb P hc) rd λl h=>⟨(lbt l h).1,own l h⟩
   .exact False.elim W
def z8P: ∀(ms:List (M D)) (s:Stt) (ts:List D) (s':Stt),Q2 ms s= .ok ts s'->ts.length=ms.length:=by
 intro ms
 induction ms with
 |nil=>intro s ts s' e;erw[Q2,rt,Res.ok.injEq] at e;rw[<-e.1];rfl
 |cons m ms ih=>
  intro s ts s' e
  erw[Q2,bd,psh] at e
  cases e1:m s with
  |ok t s1=>
   erw[e1] at e
   cases e2:Q2 ms (s1.psh t) with
   |ok ys s2=>
    erw[e2,pop] at e
    cases e3:s2.tm with
    |nil=>erw[e3] at e;cases e
    |cons o r=>
     cases o with
     |none=>erw[e3] at e;cases e
     |some t'=>
      erw[e3,rt,Res.ok.injEq] at e
      rw[<-e.1,o0,o0,ih _ _ _ e2]
   |ex d s2=>erw[e2] at e;cases e
   |no=>erw[e2] at e;cases e
  |ex d s1=>erw[e1] at e;cases e
  |no=>erw[e1] at e;cases e
noncomputable def z33(nl:Nat)(mb:MS):FM:=λts n=>match mb {σ:=ts.map some++A8 (nl -ts.length) none,tm:=ts.map some,n:=n} with
 | .nx s'=>match Q0 s'.tm with|some ts'=> .ok .non ts' s'.n|none=> .no
 | .rt t s'=>match Q0 s'.tm with|some ts'=> .ok t ts' s'.n|none=> .no
 | .ex d s'=>match Q0 s'.tm with|some ts'=> .ex d ts' s'.n|none=> .no
 |_=> .no
noncomputable def zat(G:Gx)(ρ:Nat->Addr)(n:Nat)(ts:List D)(vs:List V)(H:Hp)(lb: ∀l∈qq ts,l<n)(dom: ∀l,l<n->∃o,H (ρ l)=some o):Fy where
 A0:=λa=> ∃l∈qq ts,a=ρ l
 H0:=H
 Z:=λa=>(∃o,H a=some o)/\∀l,l<n->a≠ρ l
 zA:=λa z=>⟨z.1,λ⟨l,hl,e⟩=>z.2 l (lb l hl) e⟩
 aH:=λa ⟨l,hl,e⟩=>e▸dom l (lb l hl)
 n0:=n
 ρ0:=ρ
 tv0:=vs.map some
 xw:=λ_ _=>False
theorem RDs.sl: ∀{ts:List D} {vs:List V},RDs G ρ H ts vs->Sl G ρ H (ts.map some) (vs.map some)/\Y6 (ts.map some)=qq ts
 |[],vs,h=>by erw[RDs] at h;subst h;simp[Sl,Y6,qq]
 |d::ds,vs,h=>by
  erw[RDs] at h
  obtain⟨x,q,rfl,h1,h2⟩:=h
  obtain⟨q1,q2⟩:=RDs.sl h2
  refine⟨?_,by erw[i6,Y6,qq,q2]⟩
  erw[i6,Sl]
  exact⟨_,_,rfl,h1,q1⟩
def z6H{ts ts':List D}{vs:List V}{n:Nat}{lb: ∀l∈qq ts,l<n}{dom: ∀l,l<n->∃o,H (ρ l)=some o}(inj: ∀i j,i<n->j<n->ρ i=ρ j->i=j)(M:MR G (zat G ρ n ts vs H lb dom).toFx ρ' H' σv (vs.map some) s)(e:Q0 s.tm=some ts'):
 z7k G ρ n ts vs H ρ' s.n ts' H'/\∀l,l<s.n->((zat G ρ n ts vs H lb dom).A0 (ρ' l)\/H (ρ' l)=none)->l<n->l∈qq ts:=by
 have own: ∀l,l<s.n->((zat G ρ n ts vs H lb dom).A0 (ρ' l)\/H (ρ' l)=none)->l<n->l∈qq ts:=λl hl q hn=>by
  have ol:=M.bas.2 l hn
  have ol:ρ' l=ρ l:=ol
  rcases q with⟨j,hj,q⟩|q
  .rw[ol] at q
   rw[inj l j hn (lb j hj) q];exact hj
  .rw[ol] at q
   obtain⟨o,z⟩:=dom l hn
   rw[z] at q;cases q
 obtain⟨r1,r2⟩:=Sl.all M.tm e
 refine⟨⟨M.bas.2,M.bas.1,M.inj,M.dom,r1,λl hl=> ?_,λa o e1=> ?_,λl h1 h2=> ?_,M.kd⟩,own⟩
 .rw[r2] at hl
  have m:l∈V2 s:=i4 _ hl
  exact⟨M.lab l m,own l (M.lab l m) (M.own l m)⟩
 .obtain⟨q1,q2⟩:=M.frm a o e1
  exact⟨q1,λz=>q2 λ⟨l,hl,e⟩=>z l hl e⟩
 .cases q:H (ρ' l) with
  |none=>rfl
  |some o=>
   refine absurd ⟨⟨o,q⟩,λj hj e=> ?_⟩ (M.frb l h2)
   have oj:ρ' j=ρ j:=M.bas.2 j hj
   have:=M.inj l j h2 (t7 hj M.bas.1) (e.trans oj.symm)
   lia
end
mutual
noncomputable def sz:D->Nat
 | .tup ds=>szL ds+1
 | .ro ds=>szL ds+1
 | .fdc _ vs=>szL vs+1
 | .lst _ ds=>szL ds+1
 | .dct _ _ vs=>szL vs+1
 | .obj _ _ _ vs=>szL vs+1
 | .non=>1| .bool _=>1| .int _=>1| .str _=>1| .exc _=>1| .fn _=>1
noncomputable def szL:List D->Nat
 |[]=>0
 |d::ds=>sz d+szL ds
end
mutual
theorem zau(l:Nat): ∀(t d:D),findT l t=some d->sz d<=sz t
 | .non,d,e=>by erw[findT] at e;cases e
 | .bool b,d,e=>by erw[findT] at e;cases e
 | .int b,d,e=>by erw[findT] at e;cases e
 | .str b,d,e=>by erw[findT] at e;cases e
 | .exc b,d,e=>by erw[findT] at e;cases e
 | .fn b,d,e=>by erw[findT] at e;cases e
 | .tup ds,d,e=>by erw[findT,sz] at e⊢;have:=findL_sz l ds d e;lia
 | .ro ds,d,e=>by erw[findT,sz] at e⊢;have:=findL_sz l ds d e;lia
 | .fdc ks vs,d,e=>by erw[findT,sz] at e⊢;have:=findL_sz l vs d e;lia
 | .lst k ds,d,e=>by
  erw[findT] at e
  by_cases h:k=l
  .rw[qw h] at e;cases e;exact i8 _
  .rw[qy h] at e;erw[sz];have:=findL_sz l ds d e;lia
 | .dct k ks vs,d,e=>by
  erw[findT] at e
  by_cases h:k=l
  .rw[qw h] at e;cases e;exact i8 _
  .rw[qy h] at e;erw[sz];have:=findL_sz l vs d e;lia
 | .obj k c ns vs,d,e=>by
  erw[findT] at e
  by_cases h:k=l
  .rw[qw h] at e;cases e;exact i8 _
  .rw[qy h] at e;erw[sz];have:=findL_sz l vs d e;lia
theorem findL_sz(l:Nat): ∀(t:List D) (d:D),findL l t=some d->sz d<=szL t
 |[],d,e=>by erw[findL] at e;cases e
 |t::ts,d,e=>by
  erw[findL] at e
  erw[szL]
  cases e1:findT l t with
  |some y=>rw[e1] at e;cases e;have:=zau l t _ e1;lia
  |none=>rw[e1] at e;have:=findL_sz l ts d e;lia
end
section
variable{G:Gx}{F:Fy}{ρ:Nat->Addr}{H:Hp}{σv tv:List (Option V)}{s:Stt}{t:D}{ts ds es:List D}{v:V}{vs xs ys:List V}{l:Nat}{Q:VK}
def z4b(M:MR G F.toFx ρ H σv tv s)(h:RD G ρ H (.lst l ds) v)(lb: ∀j∈labs (.lst l ds),j<s.n):l∉qq ds:=λhl=>by
 have h0:=h
 erw[RD] at h0
 obtain⟨rfl,xs,q,r⟩:=h0
 have:=findL_some l ds xs r hl
 cases e:findL l ds with
 |none=>rw[e] at this;cases this
 |some d=>
  obtain⟨q1,q2⟩:=findL_rd l ds xs d r e
  have e2:=RD.uniq M.kd M.inj _ _ _ q1 h (λj hj=>lb j (by erw[labs];exact i5 _ (q2 j hj))) lb
  have e3:=findL_sz l ds d e
  rw[e2] at e3
  erw[sz] at e3
  lia
def MR.put2{o:HO}{d:D}(M:MR G F.toFx ρ H σv tv s)(ln:l<s.n)(ow:F.A0 (ρ l)\/F.H0 (ρ l)=none)(ts:v6 H (upd H (ρ l) o))(k:KD G.K (upd H (ρ l) o))(hd:RD G ρ (upd H (ρ l) o) d (.ref (ρ l)))(hb:LB F.toFx ρ s.n (labs d)):
 MR G F.toFx ρ (upd H (ρ l) o) σv tv (s.put l d):=by
 have step: ∀k,k∈V2 s->ρ k=ρ k/\(match (if k=l then some d else none:Option D) with|some d=>RD G ρ (upd H (ρ l) o) d (.ref (ρ k))|none=> ∀o',H (ρ k)=some o'->upd H (ρ l) o (ρ k)=some o'):=λk hk=>by
  refine⟨rfl, ?_⟩
  by_cases e:k=l
  .rw[qw e];subst e;exact hd
  .rw[qy e]
   intro o' q
   rw[Z7 (λz=>e (M.inj k l (M.lab k hk) ln z))]
   exact q
 have sub: ∀(xs:Qq) (j:Nat),j∈Y6 (rpO (λk=>if k=l then some d else none) xs)->(∀i∈Y6 xs,i∈V2 s)->j<s.n/\(F.A0 (ρ j)\/F.H0 (ρ j)=none):=λxs j h hx=>by
  rcases z2A j xs h with q|⟨k,d',q1,q2,q3⟩
  .exact⟨M.lab j (hx j q),M.own j (hx j q)⟩
  .by_cases e:k=l
   .rw[qw e] at q2;cases q2;exact hb j q3
   .rw[qy e] at q2;cases q2
 have all: ∀j∈V2 (s.put l d),j<s.n/\(F.A0 (ρ j)\/F.H0 (ρ j)=none):=λj h=>by
  rcases i9.mp h with h|h
  .exact sub s.σ j h λi hi=>i7 _ hi
  .exact sub s.tm j h λi hi=>i4 _ hi
 refine⟨Sl.rp ts M.sl λk hk=>step k (i7 _ hk),Sl.rp ts M.tm λk hk=>step k (i4 _ hk),M.inj,λk hk=> ?_,λj h=>(all j h).1,λj h=>(all j h).2,λa o' e=> ?_,k,M.frb,M.bas⟩
 .by_cases e:ρ k=ρ l
  .rw[e];exact⟨o,Z6⟩
  .rw[Z7 e];exact M.dom k hk
 .obtain⟨⟨o1,e1⟩,e2⟩:=M.frm a o' e
  by_cases ea:a=ρ l
  .subst ea
   refine⟨⟨o,Z6⟩,λn=> ?_⟩
   rcases ow with q|q
   .exact absurd q n
   .rw[e] at q;cases q
  .rw[Z7 ea]
   exact⟨⟨o1,e1⟩,e2⟩
def z34{o o':HO}{a:Addr}(k:KD G.K H)(e:H a=some o):KD G.K (upd H a o'):=λb ob q=>by
 by_cases h:b=a
 .subst h;rw[k _ _ q] at e;cases e
 .rw[Z7 h];exact k _ _ q
def z5d{o':HO}{a:Addr}{xs:List V}(e:H a=some (.lst xs)):v6 H (upd H a o'):=
 ⟨λb ys q=>by rw[Z7 (z0j q e (by intro z;cases z))];exact q,λb o u q=>by rw[Z7 (z0j q e (by intro z;cases z))];exact q⟩
def RDs.upd{o:HO}{a:Addr}(st:v6 H (upd H (ρ l) o))(inj: ∀i j,i<s.n->j<s.n->ρ i=ρ j->i=j)(ln:l<s.n)(r:RDs G ρ H ds xs)(lb: ∀j∈qq ds,j<s.n/\j≠l):RDs G ρ (L2.upd H (ρ l) o) ds xs:=
 RDs.stay st ds xs r λj hj=>⟨rfl,λo' e=>by rw[Z7 (λz=>(lb j hj).2 (inj j l (lb j hj).1 ln z))];exact e⟩
def MR.putL(M:MR G F.toFx ρ H σv tv s)(hl:H (ρ l)=some (.lst xs))(ln:l<s.n)(ow:F.A0 (ρ l)\/F.H0 (ρ l)=none)(r:RDs G ρ H es ys)(lb:LB F.toFx ρ s.n (qq es))(ne:l∉qq es):
 MR G F.toFx ρ (upd H (ρ l) (.lst ys)) σv tv (s.put l (.lst l es)):=by
 refine M.put2 ln ow (z5d hl) (z34 M.kd hl) ?_ λj hj=> ?_
 .erw[RD]
  exact⟨trivial,ys,Z6,RDs.upd (a:=0) (z5d hl) M.inj ln r λj hj=>⟨(lb j hj).1,λz=>ne (z▸hj)⟩⟩
 .erw[labs] at hj
  rcases l6.mp hj with q|q
  .rw[q];exact⟨ln,ow⟩
  .exact lb j q
end
noncomputable def z5e:D->List D->M D
 | .lst l ds,[y]=>λs=>if ds.length<qh/\l∉labs y then .ok .non (s.put l (.lst l (ds++[y]))) else .no
 |_,_=>fl
noncomputable def z2r:D->List D->M D
 | .lst l ds,[y]=>λs=>match z5C y with
  |some es=>if ds.length+es.length<=qh/\l∉qq es then .ok .non (s.put l (.lst l (ds++es))) else .no
  |none=> .no
 |_,_=>fl
noncomputable def zel:D->List D->M D
 | .lst l ds,[]=>λs=> .ok .non (s.put l (.lst l ds.reverse))
 |_,_=>fl
noncomputable def isL(x:D):M Unit:=λs=>match zeg x with|some _=> .ok () s|none=> .no
noncomputable def u2(mo:M D)(ms:List (M D))(g:D->List D->M D):M D:=bd mo λx=>bd (isL x) λ_=>bd (psh x) λ_=>bd (Q2 ms) λys=>bd pop λx'=>g x' ys
section
variable{X:Cx}{G:Gx}{F:Fy}{e o:bh}{es:List bh}{apos cpos:bT}
noncomputable def zd7(G:Gx)(F:Fy)(r:V->List V->Hp->VK->Prop)(g:D->List D->M D):Prop:= ∀ρ s t ts v vs H σv tv Q,MRL G F.toFx ρ H σv tv s (t::ts) (v::vs)->wM G F σv tv (g t ts s) Q->r v vs H (λw H'=>KD G.K H'->Q w H')
def MRL.hd{ρ:Nat->Addr}{H:Hp}{σv tv:List (Option V)}{s:Stt}{t:D}{ts:List D}{v:V}{vs:List V}(M:MRL G F.toFx ρ H σv tv s (t::ts) (v::vs)):RD G ρ H t v/\RDs G ρ H ts vs/\LB F.toFx ρ s.n (labs t)/\LB F.toFx ρ s.n (qq ts):=by
 have h:=M.rd
 erw[RDs] at h
 obtain⟨_,_,e,h1,h2⟩:=h
 cases e
 exact⟨h1,h2,λl h=>M.lb l (by erw[qq];exact i7 _ h),λl h=>M.lb l (by erw[qq];exact i4 _ h)⟩
def zfT:zd7 G F z84 z5e:=by
 intro ρ s t ts v vs H σv tv Q M W
 obtain⟨h1,h2,b1,b2⟩:=M.hd
 delta z5e at W
 split at W
 .rename_i l ds y
  split at W
  .rename_i hc
   have h1':=h1
   erw[RD] at h1
   obtain⟨rfl,xs,hx,r⟩:=h1
   erw[RDs] at h2
   obtain⟨u,q,rfl,h2,rfl⟩:=h2
   have ns:=z4b M.m h1' λj hj=>(b1 j hj).1
   have bl:=b1 l (by erw[labs];exact l5 ..)
   refine⟨_,xs,u,rfl,rfl,hx,by rw[<-r.length];exact hc.1,λ_=>W.out (M.m.putL hx bl.1 bl.2 (r.append (RDs.one h2)) ?_ ?_) (by erw[RD]) λl h=>by simp[labs] at h⟩
   .intro j hj
    rw[U2] at hj
    rcases i9.mp hj with q|q
    .exact b1 j (by erw[labs];exact i5 _ q)
    .exact b2 j q
   .intro hj
    rw[U2] at hj
    rcases i9.mp hj with q|q
    .exact ns q
    .erw[qq,l4] at q;exact hc.2 q
  .exact False.elim W
 .exact wfl W
def zfU:zd7 G F z6v zel:=by
 intro ρ s t ts v vs H σv tv Q M W
 obtain⟨h1,h2,b1,b2⟩:=M.hd
 delta zel at W
 split at W
 .rename_i l ds
  have h1':=h1
  erw[RD] at h1
  obtain⟨rfl,xs,hx,r⟩:=h1
  erw[RDs] at h2
  subst h2
  have ns:=z4b M.m h1' λj hj=>(b1 j hj).1
  have bl:=b1 l (by erw[labs];exact l5 ..)
  have mm: ∀j,j∈qq ds.reverse->j∈qq ds:=λj hj=>by
   obtain⟨d,h1,h2⟩:=X7 hj
   exact G5 (u09.mp h1) j h2
  exact⟨_,xs,rfl,rfl,hx,λ_=>W.out (M.m.putL hx bl.1 bl.2 r.reverse (λj hj=>b1 j (by erw[labs];exact i5 _ (mm j hj))) λhj=>ns (mm l hj)) (by erw[RD]) λl h=>by simp[labs] at h⟩
 .exact wfl W
def zfV:zd7 G F (zfn G.K) z2r:=by
 intro ρ s t ts v vs H σv tv Q M W
 obtain⟨h1,h2,b1,b2⟩:=M.hd
 delta z2r at W
 split at W
 .rename_i l ds y
  cases ey:z5C y with
  |none=>erw[ey] at W;exact False.elim W
  |some es=>
   erw[ey] at W
   split at W
   .rename_i hc
    have h1':=h1
    erw[RD] at h1
    obtain⟨rfl,xs,hx,r⟩:=h1
    erw[RDs] at h2
    obtain⟨u,q,rfl,h2,rfl⟩:=h2
    obtain⟨a,ys,rfl,sq,r2,sub⟩:=h2.seq ey
    have ns:=z4b M.m h1' λj hj=>(b1 j hj).1
    have bl:=b1 l (by erw[labs];exact l5 ..)
    refine⟨_,a,xs,ys,rfl,rfl,hx,sq.symm,by rw[<-r.length,<-r2.length];exact hc.1,λ_=>W.out (M.m.putL hx bl.1 bl.2 (r.append r2) ?_ ?_) (by erw[RD]) λl h=>by simp[labs] at h⟩
    .intro j hj
     rw[U2] at hj
     rcases i9.mp hj with q|q
     .exact b1 j (by erw[labs];exact i5 _ q)
     .exact b2 j (by erw[qq,l4];exact sub j q)
    .intro hj
     rw[U2] at hj
     rcases i9.mp hj with q|q
     .exact ns q
     .exact hc.2 q
   .exact False.elim W
 .exact wfl W
def z6I{T:String}{mo:M D}{ms:List (M D)}{g:D->List D->M D}{r:V->List V->Hp->VK->Prop}{σ:L2.St}{H:Hp}{Q:VK}(hT:T= "list")(hg:zd7 G F r g)(h:tM G F (u2 mo ms g) σ H Q):
 tM G F mo σ H λx H1=>tyV G.K T x H1/\tML G F (Q2 ms) σ H1 λxs H2=>r x xs H2 λw H'=>KD G.K H'->Q w H':=by
 obtain⟨tv,h⟩:=h
 have hs:=h.1
 refine⟨tv,(zaj h).mono λv H1 ⟨ρ1,s1,t,M1,W⟩=> ?_⟩
 erw[bd,isL] at W
 cases e1:zeg t with
 |none=>erw[e1] at W;exact False.elim W
 |some ds=>
  erw[e1,psh] at W
  obtain⟨a,xs,rfl,sq,_⟩:=M1.rd1.lstq e1
  refine⟨.inl ⟨hT,xs,sq⟩,some (.ref a)::tv,z8C hs,ρ1,s1.psh t,M1.push, ?_⟩
  cases e2:Q2 ms (s1.psh t) with
  |ex d s2=>erw[e2] at W;exact W
  |no=>erw[e2] at W;exact W
  |ok ys s2=>
   erw[e2,pop] at W
   intro ρ2 us H2 M2
   cases e3:s2.tm with
   |nil=>erw[e3] at W;exact False.elim W
   |cons o r=>
    cases o with
    |none=>erw[e3] at W;exact False.elim W
    |some t'=>
     erw[e3] at W
     exact hg _ _ _ _ _ _ _ _ _ _ (M2.down e3) W
def zd8{name:Str}{id:String}{r:V->List V->Hp->VK->Prop}{mo:M D}{ms:List (M D)}{g:D->List D->M D}(hk:X.K=G.K)(slot:Slot "list" name id)(hty:dN (.builtin id)=pure (.type "method_descriptor"))(hm:MtR X id r)(hg:zd7 G F r g)(ho:SE X G F o mo)(ha:SA X G F (e::es) (Q2 ms))
 (hbase:bP o name X.env (bF o X.env)=bF o X.env:=by rfl)
 (hfew:((bN cpos (bj (e::es) X.env)).all (λx=> !x.1)&&(dH cpos (cC [] X.env)).all (λx=>x.1.isSome)
  &&decide ((e::es).length+([]:List cx).length+(if([]:List cx).isEmpty then 0 else 1)<30))=true:=by rfl)
 (hline:(apos.endLine==cpos.line)=true:=by rfl) (hs:bj (e::es) X.env=(false,bF e X.env)::bj es X.env:=by rfl) (hplain:(bN cpos (bj es X.env)).any (·.1)=false:=by rfl):SE X G F (.Call (.Attribute o name apos) (e::es) [] cpos) (u2 mo ms g):=by
 refine PE.imp hk (zhW PySem.F.plainAttrs_list slot hty hm ho ha hbase hfew hline hs hplain) λ σ H Q h=> ?_
 rw[hk]
 exact z6I rfl hg h
def zav{name:Str}{id:String}{r:V->List V->Hp->VK->Prop}{mo:M D}{g:D->List D->M D}(hk:X.K=G.K)(slot:Slot "list" name id)(hty:dN (.builtin id)=pure (.type "method_descriptor"))(hm:MtR X id r)(hg:zd7 G F r g)(ho:SE X G F o mo)
 (hbase:bP o name X.env (bF o X.env)=bF o X.env:=by rfl) (hline:(apos.endLine==cpos.line)=true:=by rfl):SE X G F (.Call (.Attribute o name apos) [] [] cpos) (u2 mo [] g):=by
 refine PE.imp hk (zeR PySem.F.plainAttrs_list slot hty hm ho hbase hline) λ σ H Q h=> ?_
 rw[hk]
 obtain⟨tv,h2⟩:=z6I rfl hg h
 refine⟨tv,h2.mono λv H1 ⟨q1,tv1,hs,ρ1,s1,M1,W⟩=>⟨q1, ?_⟩⟩
 exact W ρ1 [] H1 ⟨M1,rfl,λl h=>by simp[qq] at h⟩
noncomputable def zd9(o i v:D):MS:=λs=>match o,i with
 | .lst l ds, .int k=>match ixN ds.length k with
  |some j=>if l∉labs v then .nx (s.put l (.lst l (ds.set j v))) else .no
  |none=> .no
 |_,_=> .no
noncomputable def z4c(me mo mi:M D)(g:D->D->D->MS):MS:=z1o me λv=>z1o (psh v) λ_=>z1o mo λo=>z1o (psh o) λ_=>z1o mi λi=>z1o pop λo'=>z1o pop λv'=>g o' i v'
def zaw{mo mi:M D}{g:D->D->D->MS}{tv:List (Option V)}{Dd:Ends}{σ:L2.St}{H1:Hp}{ρ1:Nat->Addr}{s1:Stt}{t:D}{v:V}(hs:F.tv0<:+tv)(M1:MRL G F.toFx ρ1 H1 σ tv s1 [t] [v])
 (W:wS G F tv ((z1o (psh t) λ_=>z1o mo λo=>z1o (psh o) λ_=>z1o mi λi=>z1o pop λo'=>z1o pop λv'=>g o' i v') s1) Dd):
 tM G F mo σ H1 λo H2=>tM G F mi σ H2 λi H3=> ∃ρ s t1 t2 t3,MRL G F.toFx ρ H3 σ tv s [t1,t2,t3] [v,o,i]/\wS G F tv (g t2 t3 t1 s) Dd:=by
 refine⟨some v::tv,z8C hs,ρ1,s1.psh t,M1.push, ?_⟩
 erw[z1o,psh] at W
 cases e1:mo (s1.psh t) with
 |ex d s2=>erw[e1] at W;exact W
 |no=>erw[e1] at W;exact W
 |ok o s2=>
  erw[e1] at W
  intro ρ2 u H2 M2
  refine⟨some u::some v::tv,z8C (z8C hs),ρ2,s2.psh o,M2.push, ?_⟩
  cases e2:mi (s2.psh o) with
  |ex d s3=>erw[e2] at W;exact W
  |no=>erw[e2] at W;exact W
  |ok i s3=>
   erw[e2,pop] at W
   intro ρ3 w H3 M3
   cases e3:s3.tm with
   |nil=>erw[e3] at W;exact False.elim W
   |cons o3 r3=>
    cases o3 with
    |none=>erw[e3] at W;exact False.elim W
    |some x3=>
     erw[e3] at W
     cases r3 with
     |nil=>exact False.elim W
     |cons o4 r4=>
      cases o4 with
      |none=>exact False.elim W
      |some x4=>
       have M4:=M3.down e3
       have M5:=M4.down (s':={s3 with tm:=some x4::r4}) rfl
       exact⟨ρ3,_,x4,x3,i,M5,W⟩
def z4d{me mo mi:M D}{g:D->D->D->MS}{tv:List (Option V)}{Dd:Ends}{σ:L2.St}{H:Hp}(h:tSv G F (z4c me mo mi g) tv Dd σ H):
 tM G F me σ H λv H1=>tM G F mo σ H1 λo H2=>tM G F mi σ H2 λi H3=> ∃ρ s t1 t2 t3,MRL G F.toFx ρ H3 σ tv s [t1,t2,t3] [v,o,i]/\wS G F tv (g t2 t3 t1 s) Dd:=
 ⟨tv,(z0D h).mono λv H1 ⟨ρ1,s1,t,M1,W⟩=>zaw h.1 M1 W⟩
def zfW{ρ:Nat->Addr}{s:Stt}{t1 t2 t3:D}{v o i:V}{H:Hp}{σv tv:List (Option V)}{Dd:Ends}(M:MRL G F.toFx ρ H σv tv s [t1,t2,t3] [v,o,i])(W:wS G F tv (zd9 t2 t3 t1 s) Dd):zcz o i v H λH'=>Dd.nx σv H':=by
 have h:=M.rd
 erw[RDs] at h
 obtain⟨_,_,e,h1,_,_,e2,h2,_,_,e3,h3,_⟩:=h
 cases e;cases e2;cases e3
 have b1:LB F.toFx ρ s.n (labs t1):=λl h=>M.lb l (by erw[qq];exact i7 _ h)
 have b2:LB F.toFx ρ s.n (labs t2):=λl h=>M.lb l (by erw[qq];exact i4 _ (i7 _ h))
 cases t2 with
 |lst l ds=>
  cases t3 with
  |int k=>
   erw[zd9] at W
   cases ek:ixN ds.length k with
   |none=>erw[ek] at W;exact False.elim W
   |some j=>
    erw[ek] at W
    by_cases hc:l∉labs t1
    .rw[qw hc] at W
     have h2':=h2
     erw[RD] at h2 h3
     obtain⟨rfl,xs,hx,r⟩:=h2
     subst h3
     have ns:=z4b M.m h2' λj hj=>(b2 j hj).1
     have bl:=b2 l (by erw[labs];exact l5 ..)
     have mm: ∀q,q∈qq (ds.set j t1)->q∈qq ds\/q∈labs t1:=λq hq=>by
      obtain⟨d,h1,h2⟩:=X7 hq
      rcases List.mem_or_eq_of_mem_set h1 with z|z
      .exact .inl (G5 z q h2)
      .subst z;exact .inr h2
     refine⟨_,xs,k,j,rfl,rfl,hx,by rw[<-r.length];exact ek,W ρ σv _ (M.m.putL hx bl.1 bl.2 (r.set j h1) (λq hq=> ?_) λhq=> ?_)⟩
     .rcases mm q hq with z|z
      .exact b2 q (by erw[labs];exact i5 _ z)
      .exact b1 q z
     .rcases mm l hq with z|z
      .exact ns z
      .exact hc z
    .rw[qy hc] at W;exact False.elim W
  |_=>exact False.elim W
 |_=>exact False.elim W
variable{a b c:bh}{pos:bT}{ma mb mc m:M D}
structure Cm(X:Cx)(G:Gx)(F:Fy)(op:fe)(g:D->D->M D):Prop where
 h: ∃r,OpR X (bH op) r/\z1W G F r g
def zax:Cm X G F .Lt ltD:=⟨_,zhM,zih⟩
def z5S:Cm X G F .Gt gtD:=⟨_,zhN,zii⟩
def z3x(hk:X.K=G.K)(hu:X.A.units+64<cLine):Cm X G F .Eq eqD:=⟨_,hk▸zfl hu,zij⟩
def zay(hk:X.K=G.K)(hu:X.A.units+64<cLine):Cm X G F .NotEq neD:=⟨_,hk▸zfm hu,zik⟩
def zfX(hk:X.K=G.K)(hu:X.A.units+64<cLine):Cm X G F .NotIn zbF:=⟨_,hk▸z8g hu,zfy⟩
def zbK:Cm X G F .Is isN:=⟨_,zeJ,zfz⟩
def zda:Cm X G F .IsNot zeh:=⟨_,zco,zcZ⟩
structure Cb(X:Cx)(G:Gx)(F:Fy)(f:bb)(g:List D->M D):Prop where
 h: ∃r,CallR X f r/\K3 G F r g
def zfY(hk:X.K=G.K):Cb X G F (.builtin "len") X8:=⟨_,hk▸z4V,zfF⟩
def zfZ:Cb X G F (.builtin "abs") zej:=⟨_,za0,zfG⟩
def zbL(hc:X.calm=true):Cb X G F (.builtin "min") zd5:=⟨_,z7W hc,zfH⟩
def zg0(hc:X.calm=true):Cb X G F (.builtin "max") zek:=⟨_,z7V hc,zfI⟩
def zbM(hk:X.K=G.K)(hd:X.A.handled=none):Cb X G F (.builtin "any") zan:=⟨_,hk▸z8h hd,zfJ⟩
def z8Q:Cb X G F (.type "int") z9L:=⟨_,z7X,zfK⟩
def z1J(hk:X.K=G.K):Cb X G F (.type "tuple") z5b:=⟨_,hk▸z8n,zd6⟩
def z5T(hk:X.K=G.K):Cb X G F (.type "list") z3w:=⟨_,hk▸z4W,zao⟩
structure Cl(X:Cx)(G:Gx)(F:Fy)(id:String)(g:D->List D->M D):Prop where
 h: ∃r,MtR X id r/\zd7 G F r g
def z0Y:Cl X G F "list.append" z5e:=⟨_,z4X,zfT⟩
def k7(hk:X.K=G.K):Cl X G F "list.extend" z2r:=⟨_,hk▸zcM,zfV⟩
def z7n:Cl X G F "list.reverse" zel:=⟨_,z7e,zfU⟩
end
noncomputable def G0(K:W.Frag):Gx:=⟨K,λ_=>none,λ_ _ _ h=>(by cases h),λ_ _ h=>(by cases h)⟩
inductive SEs(X:Cx)(G:Gx)(F:Fy):List bh->List (M D)->Prop
 |nil:SEs X G F [] []
 |cons {e:bh} {m:M D} {es:List bh} {ms:List (M D)}:SE X G F e m->nst e=true->SEs X G F es ms->SEs X G F (e::es) (m::ms)
def sa_of{X:Cx}{G:Gx}{F:Fy}{es:List bh}{ms:List (M D)}(hk:X.K=G.K)(h:SEs X G F es ms):SA X G F es (Q2 ms):=by
 induction h with
 |nil=>exact zfu hk
 |cons h1 h2 _ ih=>exact zcV hk h1 ih h2
section
variable{X:Cx}{G:Gx}{F:Fy}{a b tg:bh}{pos:bT}
noncomputable def z0s(lo:Int)(n:Nat):List D:=(B5 n).map λ(k:Nat)=>D.int (lo+(k:Int))
end
open PyProof.Rows (envOfC)
open Classical in
noncomputable def zju(r:RF)(ts:List D):M D:=λs=>match r with
 | .ok t ts' n'=>if ts'=ts then .ok t {s with n:=n'} else
  if ∀l∈V2 s,l∈qq ts->(findL l ts').isSome=true then .ok t {σ:=rpO (λl=>findL l ts') s.σ,tm:=rpO (λl=>findL l ts') s.tm,n:=n'} else .no
 | .ex d ts' n'=>if ts'=ts then .ex d {s with n:=n'} else
  if ∀l∈V2 s,l∈qq ts->(findL l ts').isSome=true then .ex d {σ:=rpO (λl=>findL l ts') s.σ,tm:=rpO (λl=>findL l ts') s.tm,n:=n'} else .no
 | .no=> .no
noncomputable def X2:D->Option Key
 | .int i=>some (.inl i)
 | .str x=>some (.inr x)
 |_=>none
noncomputable def z0Z:List D->Option (List Key)
 |[]=>some []
 |d::ds=>match X2 d with
  |some k=>match z0Z ds with
   |some ks=>some (k::ks)
   |none=>none
  |none=>none
noncomputable def zbN:D->Option (Key⊕List Key)
 | .tup ds=>match z0Z ds with|some ks=>some (.inr ks)|none=>none
 |d=>match X2 d with|some k=>some (.inl k)|none=>none
noncomputable def z35:List D->Option NK
 |[]=>some []
 |d::ds=>match zbN d with
  |some k=>match z35 ds with
   |some ks=>some (k::ks)
   |none=>none
  |none=>none
noncomputable def z1S:D->Option NK
 | .tup ds=>z35 ds
 |_=>none
noncomputable def isT:List D->Bool
 | .non::_=>false
 |_=>true
section
variable{G:Gx}{ρ:Nat->Addr}{H:Hp}
def z2C{d:D}{v:V}{k:Key}(h:RD G ρ H d v)(e:X2 d=some k):v=kV k/\d=z1k k:=by
 cases d<;>erw[X2] at e<;>cases e<;>(erw[RD] at h;exact⟨h,rfl⟩)
theorem z5f: ∀{ds:List D} {xs:List V} {ks:List Key},RDs G ρ H ds xs->z0Z ds=some ks->xs=ks.map kV/\ds=ks.map z1k
 |[],xs,ks,h,e=>by erw[RDs] at h;erw[z0Z] at e;cases e;exact⟨h,rfl⟩
 |d::ds,xs,ks,h,e=>by
  erw[RDs] at h
  obtain⟨x,r,rfl,h1,h2⟩:=h
  erw[z0Z] at e
  cases e1:X2 d with
  |none=>rw[e1] at e;cases e
  |some k=>
   rw[e1] at e
   cases e2:z0Z ds with
   |none=>erw[e2] at e;cases e
   |some ks'=>
    erw[e2] at e
    cases e
    obtain⟨a1,a2⟩:=z2C h1 e1
    obtain⟨b1,b2⟩:=z5f h2 e2
    rw[a1,b1,a2,b2]
    exact⟨rfl,rfl⟩
def zdb{d:D}{v:V}{k:Key⊕List Key}(h:RD G ρ H d v)(e:zbN d=some k):TKi H k v/\d=nkD k:=by
 have flat: ∀{d:D} {v:V},RD G ρ H d v->(match X2 d with|some k=>some (Sum.inl k:Key⊕List Key)|none=>none)=some k->TKi H k v/\d=nkD k:=by
  intro d v h e
  cases e1:X2 d with
  |none=>rw[e1] at e;cases e
  |some k'=>
   rw[e1] at e
   cases e
   obtain⟨a1,a2⟩:=z2C h e1
   exact⟨a1,a2⟩
 cases d with
 |tup ds=>
  erw[zbN] at e
  cases e1:z0Z ds with
  |none=>rw[e1] at e;cases e
  |some ks=>
   rw[e1] at e
   cases e
   erw[RD] at h
   obtain⟨a,xs,e2,s,r⟩:=h
   obtain⟨b1,b2⟩:=z5f r e1
   exact⟨⟨a,e2,b1▸s⟩,by rw[b2];rfl⟩
 |_=>exact flat h e
theorem z6J: ∀{ds:List D} {xs:List V} {ks:NK},RDs G ρ H ds xs->z35 ds=some ks->bJ (TKi H) ks xs/\ds=ks.map nkD
 |[],xs,ks,h,e=>by erw[RDs] at h;erw[z35] at e;cases e;subst h;exact⟨.nil,rfl⟩
 |d::ds,xs,ks,h,e=>by
  erw[RDs] at h
  obtain⟨x,r,rfl,h1,h2⟩:=h
  erw[z35] at e
  cases e1:zbN d with
  |none=>rw[e1] at e;cases e
  |some k=>
   rw[e1] at e
   cases e2:z35 ds with
   |none=>erw[e2] at e;cases e
   |some ks'=>
    erw[e2] at e
    cases e
    obtain⟨a1,a2⟩:=zdb h1 e1
    obtain⟨b1,b2⟩:=z6J h2 e2
    rw[a2,b2]
    exact⟨.cons a1 b1,rfl⟩
def z36{t:D}{v:V}{k:NK}(h:RD G ρ H t v)(e:z1S t=some k): ∃b,v= .ref b/\TK H k b/\t=dkD k:=by
 cases t<;>erw[z1S] at e<;>try cases e
 erw[RD] at h
 obtain⟨a,xs,e1,s,r⟩:=h
 obtain⟨b1,b2⟩:=z6J r e
 exact⟨a,e1,⟨xs,s,b1⟩,by rw[b2];rfl⟩
theorem z3I: ∀k:List Key,z0Z (k.map z1k)=some k
 |[]=>rfl
 |k::ks=>by
  erw[i6,z0Z]
  have:X2 (z1k k)=some k:=by cases k<;>rfl
  rw[this,z3I ks]
def zdc(z:Key⊕List Key):zbN (nkD z)=some z:=by
 cases z with
 |inl k=>cases k<;>rfl
 |inr ks=>erw[nkD,zbN,z3I]
theorem z5g: ∀k:NK,z35 (k.map nkD)=some k
 |[]=>rfl
 |k::ks=>by erw[i6,z35,zdc,z5g ks]
def z4e(k:NK):z1S (dkD k)=some k:=z5g k
theorem z5U{ρ:Nat->Addr}: ∀k:List Key,RDs G ρ H (k.map z1k) (k.map kV)
 |[]=>by erw[m8,RDs]
 | .inl i::k=>by erw[i6,RDs];exact⟨_,_,rfl,by erw[z1k,RD];rfl,z5U k⟩
 | .inr i::k=>by erw[i6,RDs];exact⟨_,_,rfl,by erw[z1k,RD];rfl,z5U k⟩
theorem z8R{ρ:Nat->Addr}: ∀{k:NK} {xs:List V},bJ (TKi H) k xs->RDs G ρ H (k.map nkD) xs
 |_,_, .nil=>by erw[m8,RDs]
 | .inl i::k,_, .cons a b=>by
  have e:=(show _=kV i from a)
  erw[i6,RDs]
  refine⟨_,_,rfl, ?_,z8R b⟩
  rw[e]
  cases i<;>(erw[nkD,z1k,RD];rfl)
 | .inr ks::k,_, .cons a b=>by
  obtain⟨c,e,hc⟩:=a
  erw[i6,RDs]
  refine⟨_,_,rfl, ?_,z8R b⟩
  erw[nkD,RD]
  exact⟨c,_,e,hc,z5U ks⟩
def zg1{ρ:Nat->Addr}{k:NK}{b:Addr}(h:TK H k b):RD G ρ H (dkD k) (.ref b):=by
 obtain⟨xs,h1,h2⟩:=h
 erw[dkD,RD]
 exact⟨b,xs,rfl,h1,z8R h2⟩
noncomputable def rdD:D->Option (List D×List D)
 | .dct _ ks vs=>if isT ks=true then some (ks,vs) else none
 | .fdc ks vs=>if isT ks=true then some (ks,vs) else none
 |_=>none
def RD.rdq{t:D}{ks vs:List D}{v:V}(h:RD G ρ H t v)(e:rdD t=some (ks,vs)): ∃a kvs,v= .ref a/\Rd H a (.dT kvs)/\ks=kvs.map (λp:NK×V=>dkD p.1)/\RDs G ρ H vs (kvs.map (·.2))/\∀l∈qq vs,l∈labs t:=by
 cases t<;>erw[rdD] at e<;>try cases e
 .rename_i l ks' vs'
  by_cases hT:isT ks'=true
  .rw[qw hT] at e;cases e
   erw[RD] at h
   obtain⟨e,⟨kvs,s,s2,r⟩|⟨kvs,s,s2,r⟩⟩:=h
   .rw[s2] at hT;cases hT
   .exact⟨ρ l,kvs,e, .inl s,s2,r,λj hj=>by erw[labs];exact i5 _ (i4 _ hj)⟩
  .rw[qy hT] at e;cases e
 .rename_i ks' vs'
  by_cases hT:isT ks'=true
  .rw[qw hT] at e;cases e
   erw[RD] at h
   obtain⟨a,o,u,xs,e,s,⟨kvs,rfl,s2,rfl⟩|⟨kvs,rfl,s2,rfl⟩,r⟩:=h
   .rw[s2] at hT;cases hT
   .exact⟨a,kvs,e, .inr ⟨o,s⟩,s2,r,λj hj=>by erw[labs];exact hj⟩
  .rw[qy hT] at e;cases e
def RD.dctq{l:Nat}{ks vs:List D}{v:V}(h:RD G ρ H (.dct l ks vs) v)(hn:isT ks=true):v= .ref (ρ l)/\∃kvs:List (NK×V),H (ρ l)=some (.dT kvs)/\ks=kvs.map (λp=>dkD p.1)/\RDs G ρ H vs (kvs.map (·.2)):=by
 erw[RD] at h
 obtain⟨e,⟨kvs,s,s2,r⟩|h⟩:=h
 .rw[s2] at hn;cases hn
 .exact⟨e,h⟩
noncomputable def findK:List D->List D->NK->Option D
 |d::ks,v::vs,k=>if z1S d=some k then some v else findK ks vs k
 |_,_,_=>none
theorem z1Z{k:NK}: ∀(kvs:List (NK×V)) (vs:List D) (t:D),RDs G ρ H vs (kvs.map (·.2))->findK (kvs.map λp=>dkD p.1) vs k=some t->∃v,valV kvs k=some v/\RD G ρ H t v/\t∈vs
 |[],_,_,_,e=>by erw[m8,findK] at e;cases e
 |p::kvs,[],_,_,e=>by erw[i6,findK] at e;cases e
 |p::kvs,w::vs,t,h,e=>by
  erw[i6,RDs] at h
  obtain⟨x,r,e1,h1,h2⟩:=h
  cases e1
  erw[i6,findK,z4e,Option.some.injEq] at e
  by_cases hk:p.1=k
  .rw[qw hk] at e;cases e
   exact⟨_,z1C hk,h1,l5 ..⟩
  .rw[qy hk] at e
   obtain⟨v,a,b,c⟩:=z1Z kvs vs t h2 e
   exact⟨v,by rw[z0z hk];exact a,b,i5 _ c⟩
theorem z3J{k:NK}: ∀(kvs:List (NK×V)) (vs:List D),RDs G ρ H vs (kvs.map (·.2))->findK (kvs.map λp=>dkD p.1) vs k=none->valV kvs k=none
 |[],_,_,_=>rfl
 |p::kvs,[],h,_=>by erw[i6,RDs] at h;cases h
 |p::kvs,w::vs,h,e=>by
  erw[i6,RDs] at h
  obtain⟨x,r,e1,h1,h2⟩:=h
  cases e1
  erw[i6,findK,z4e,Option.some.injEq] at e
  by_cases hk:p.1=k
  .rw[qw hk] at e;cases e
  .rw[qy hk] at e
   rw[z0z hk];exact z3J kvs vs h2 e
noncomputable def z4f(ks:List D)(k:NK):List D:=if(ks.any λd=>decide (z1S d=some k))=true then ks else ks++[dkD k]
noncomputable def z1K(ks vs:List D)(k:NK)(v:D):List D:=if(ks.any λd=>decide (z1S d=some k))=true then P0 (λd w=>if z1S d=some k then v else w) ks vs else vs++[v]
def zg2{k:NK}(kvs:List (NK×V)):((kvs.map λp=>dkD p.1).any λd=>decide (z1S d=some k))=kvs.any λkv=>decide (kv.1=k):=by
 rw[R9]
 congr 1
 funext p
 erw[Function.comp,z4e,Option.some.injEq]
theorem z5V{k:NK}{t:D}{v:V}(h:RD G ρ H t v): ∀(kvs:List (NK×V)) (vs:List D),RDs G ρ H vs (kvs.map (·.2))->
 RDs G ρ H (P0 (λd w=>if z1S d=some k then t else w) (kvs.map λp=>dkD p.1) vs) ((kvs.map (λkv=>if kv.1=k then(kv.1,v) else kv)).map (·.2))
 |[],[],_=>by simp[RDs]
 |[],_::_,h=>by erw[m8,RDs] at h;obtain⟨_,_,e,_⟩:=h;cases e
 |p::kvs,[],h=>by erw[i6,RDs] at h;cases h
 |p::kvs,w::vs,h'=>by
  erw[i6,RDs] at h'
  obtain⟨x,r,e1,h1,h2⟩:=h'
  cases e1
  erw[i6,L0,RDs,z4e,Option.some.injEq]
  by_cases hk:p.1=k
  .rw[qw hk,qw hk];exact⟨_,_,rfl,h,z5V h kvs vs h2⟩
  .rw[qy hk,qy hk];exact⟨_,_,rfl,h1,z5V h kvs vs h2⟩
def zbO{k:NK}{t:D}{v:V}{kvs:List (NK×V)}{vs:List D}(h:RD G ρ H t v)(r:RDs G ρ H vs (kvs.map (·.2))):
 z4f (kvs.map λp=>dkD p.1) k=(z2z kvs k v).map (λp=>dkD p.1)/\RDs G ρ H (z1K (kvs.map λp=>dkD p.1) vs k t) ((z2z kvs k v).map (·.2)):=by
 delta z4f z1K z2z
 rw[zg2]
 cases e:kvs.any λkv=>decide (kv.1=k) with
 |true=>
  erw[if_true]
  refine⟨?_,z5V h kvs vs r⟩
  rw[C7]
  refine D1 λp _=> ?_
  erw[Function.comp]
  split<;>rfl
 |false=>
  erw[t9,if_false,t8,i6,m8]
  exact⟨trivial,r.append (RDs.one h)⟩
variable{X:Cx}{F:Fy}{a b e:bh}{ma mb:M D}{pos:bT}
noncomputable def z2D(o t:D):M D:=match rdD o with
 |some (ks,vs)=>match z1S t with
  |some k=>(match findK ks vs k with|some d=>rt d|none=>fl)
  |none=>fl
 |none=>fl
def zg3:z9J G F (λx y H Q=> ∃a v,x= .ref a/\zbo H a y (some v)/\Q v H) z2D:=by
 intro ρ s t t' v u H σv tv Q M W
 obtain⟨h1,h2⟩:=M.rd2
 obtain⟨l1,l2⟩:=M.lb2
 delta z2D at W
 cases er:rdD t with
 |none=>rw[er] at W;exact False.elim W
 |some p=>
  obtain⟨ks,vs⟩:=p
  rw[er] at W
  dsimp only at W
  cases ek:z1S t' with
  |none=>rw[ek] at W;exact False.elim W
  |some k=>
   rw[ek] at W
   dsimp only at W
   obtain⟨a,kvs,rfl,hx,rfl,r,sub⟩:=h1.rdq er
   obtain⟨b,rfl,hb,_⟩:=z36 h2 ek
   cases ef:findK (kvs.map λp=>dkD p.1) vs k with
   |none=>rw[ef] at W;exact False.elim W
   |some d=>
    rw[ef] at W
    obtain⟨w,hv,hd,hm⟩:=z1Z kvs vs d r ef
    exact⟨a,w,rfl, .inr ⟨kvs,k,b,hx,rfl,hb,hv.symm⟩,λ_=>W.out M.m hd λj hj=>l1 j (sub j (G5 hm j hj))⟩
noncomputable def z37(t o:D):M D:=match rdD o with
 |some (ks,vs)=>match z1S t with
  |some k=>rt (.bool (!(findK ks vs k).isSome))
  |none=>fl
 |none=>fl
def zin{ρ:Nat->Addr}{H:Hp}{k:NK}{kvs:List (NK×V)}{vs:List D}(r:RDs G ρ H vs (kvs.map (·.2))):(findK (kvs.map λp=>dkD p.1) vs k).isSome=(valV kvs k).isSome:=by
 cases ef:findK (kvs.map λp=>dkD p.1) vs k with
 |none=>rw[z3J kvs vs r ef];rfl
 |some d=>obtain⟨w,hv,_⟩:=z1Z kvs vs d r ef;rw[hv];rfl
def zdd:z1W G F (λy x H Q=> ∃a o,x= .ref a/\zbo H a y o/\Q (.bl (!o.isSome)) H) z37:=by
 intro ρ s t t' v u H σv tv Q M W
 obtain⟨h1,h2⟩:=M.rd2
 delta z37 at W
 cases er:rdD t' with
 |none=>rw[er] at W;exact False.elim W
 |some p=>
  obtain⟨ks,vs⟩:=p
  rw[er] at W
  dsimp only at W
  cases ek:z1S t with
  |none=>rw[ek] at W;exact False.elim W
  |some k=>
   rw[ek] at W
   dsimp only at W
   obtain⟨a,kvs,rfl,hx,rfl,r,sub⟩:=h2.rdq er
   obtain⟨b,rfl,hb,_⟩:=z36 h1 ek
   refine⟨a,_,rfl, .inr ⟨kvs,k,b,hx,rfl,hb,rfl⟩, ?_⟩
   rw[<-zin r]
   exact W.flat M.m rfl
def z8S(hu:X.A.units+64<cLine):OpR X (bH .NotIn) (λy x H Q=> ∃a o,x= .ref a/\zbo H a y o/\Q (.bl (!o.isSome)) H):=by
 intro qx s σ H y x iv u Q I ry rx h
 obtain⟨a,o,rfl,g,q⟩:=h
 obtain rfl:u=Value.ref a:=rx
 exact zcC (show X.A.units+2<cLine by lia) I g ry λs3 I3=>⟨.bl (!o.isSome),H,I3,rfl,q⟩
def z8T(hu:X.A.units+64<cLine):Cm X G F .NotIn z37:=⟨_,z8S hu,zdd⟩
noncomputable def z5W:M D:=λs=> .ok (.dct s.n [] []) s.nxt
noncomputable def z20(o i v:D):MS:=λs=>match o with
 | .dct l ks vs=>match z1S i with
  |some k=>if isT ks=true/\ks.length<qh/\labs v=[]/\qq vs=[] then .nx (s.put l (.dct l (z4f ks k) (z1K ks vs k v))) else .no
  |none=> .no
 |_=> .no
def z4g(k:NK):labs (dkD k)=[]:=by
 have h: ∀k:NK,qq (k.map nkD)=[]:=λk=>by
  induction k with
  |nil=>rfl
  |cons z k ih=>erw[i6,qq,z5Q,ih,l4]
 erw[dkD,labs,h]
theorem z4h: ∀kvs:List (NK×V),qq (kvs.map λp=>dkD p.1)=[]
 |[]=>rfl
 |p::kvs=>by
  have e:labs (dkD p.1)=[]:=z4g p.1
  erw[i6,qq,e,z4h kvs];rfl
theorem G6: ∀{ds:List D},(∀d∈ds,labs d=[])->qq ds=[]
 |[],_=>rfl
 |d::ds,h=>by erw[qq,h d (l5 ..),G6 λx hx=>h x (i5 _ hx)];rfl
def z2g{ds:List D}(h:qq ds=[]): ∀d∈ds,labs d=[]:=λd hd=>by
 cases e:labs d with
 |nil=>rfl
 |cons l r=>exact absurd (G5 hd l (by rw[e];exact l5 ..)) (by rw[h];exact A2)
def z6K{ks vs:List D}{k:NK}{v:D}(hv:labs v=[])(h:qq vs=[]):qq (z1K ks vs k v)=[]:=by
 have h':=z2g h
 delta z1K
 split
 .refine G6 λd hd=> ?_
  obtain⟨i,hi,e⟩:=E4 hd
  rw[O2] at e
  subst e
  split
  .exact hv
  .exact h' _ (C3 _)
 .refine G6 λd hd=> ?_
  rcases i9.mp hd with q|q
  .exact h' d q
  .rw[m4.mp q];exact hv
def zde{ρ:Nat->Addr}{s:Stt}{t1 t2 t3:D}{v o i:V}{H:Hp}{σv tv:List (Option V)}{Dd:Ends}(M:MRL G F.toFx ρ H σv tv s [t1,t2,t3] [v,o,i])(W:wS G F tv (z20 t2 t3 t1 s) Dd): ∃a H4,o= .ref a/\z7F H a i v H4/\Dd.nx σv H4:=by
 have h:=M.rd
 erw[RDs] at h
 obtain⟨_,_,e,h1,_,_,e2,h2,_,_,e3,h3,_⟩:=h
 cases e;cases e2;cases e3
 have b2:LB F.toFx ρ s.n (labs t2):=λl h=>M.lb l (by erw[qq];exact i4 _ (i7 _ h))
 delta z20 at W
 cases t2 with
 |dct l ks vs=>
  dsimp only at W
  cases ek:z1S t3 with
  |none=>rw[ek] at W;exact False.elim W
  |some k=>
   rw[ek] at W
   dsimp only at W
   by_cases hc:isT ks=true/\ks.length<qh/\labs t1=[]/\qq vs=[]
   .rw[qw hc] at W
    obtain⟨hT,hz,hv,hvs⟩:=hc
    obtain⟨rfl,kvs,hx,rfl,r⟩:=h2.dctq hT
    obtain⟨b,rfl,hb,_⟩:=z36 h3 ek
    have bl:=b2 l (by erw[labs];exact l5 ..)
    have st:v6 H (upd H (ρ l) (.dT (z2z kvs k v))):=
     ⟨λb ys q=>by rw[Z7 (z0j q hx (by intro z;cases z))];exact q,λb o u q=>by rw[Z7 (z0j q hx (by intro z;cases z))];exact q⟩
    have pr:=zbO (k:=k) h1 r
    refine⟨ρ l,_,rfl,z7F.t hx hb (by simpa using hz),W ρ σv _ (M.m.put2 bl.1 bl.2 st (z34 M.m.kd hx) ?_ λj hj=> ?_)⟩
    .erw[RD]
     refine⟨trivial, .inr ⟨z2z kvs k v,Z6,pr.1, ?_⟩⟩
     exact RDs.stay st _ _ pr.2 λj hj=>by rw[z6K hv hvs] at hj;cases hj
    .erw[labs,pr.1,z4h,z6K hv hvs,l4,m4] at hj
     rw[hj];exact bl
   .rw[qy hc] at W;exact False.elim W
 |_=>exact False.elim W
end
noncomputable def zg4(i:Nat):Qq->Option (Option D)
 |some (.fdc ks _)::_=>some ks[i]?
 |_=>none
noncomputable def zbP:Qq->Nat
 |some (.fdc ks _)::_=>ks.length
 |_=>0
noncomputable def z3K:ItK:=⟨1,zg4,zbP⟩
noncomputable def z0U(m:M D):M ItK:=bd m λd s=>match d with
 | .dct l ks vs=>if isT ks=true/\qq vs=[] then .ok z3K ((s.put l (.fdc ks vs)).psh (.fdc ks vs)) else .no
 |_=> .no
noncomputable def Fy.frz(F:Fy)(a:Addr)(o:HO)(ha:F.A0 a\/F.H0 a=none)(hz: ¬F.Z a):Fy where
 A0:=λx=>F.A0 x/\x≠a
 H0:=upd F.H0 a o
 Z:=F.Z
 zA:=λx z=>by
  have hn:x≠a:=λe=>hz (e▸z)
  obtain⟨⟨o',e⟩,n⟩:=F.zA x z
  exact⟨⟨o',by rw[Z7 hn];exact e⟩,λq=>n q.1⟩
 aH:=λx q=>by
  obtain⟨o',e⟩:=F.aH x q.1
  exact⟨o',by rw[Z7 q.2];exact e⟩
 n0:=F.n0
 ρ0:=F.ρ0
 tv0:=F.tv0
 xw:=F.xw
section
variable{G:Gx}{F:Fy}{ρ:Nat->Addr}{H:Hp}{σv tv:List (Option V)}{s:Stt}{a:Addr}{o:HO}{ha:F.A0 a\/F.H0 a=none}{hz: ¬F.Z a}
theorem z6L: ∀{os:Qq} {vs:List (Option V)},Sl G ρ H os vs->∀l∈Y6 os,∃o,H (ρ l)=some o/\(∀xs,o≠ .tup xs)/\∀u w,o≠ .frz u w
 |[],_,_,l,hl=>by erw[Y6] at hl;cases hl
 |none::os,_,h,l,hl=>by
  erw[Sl,Y6] at h hl
  obtain⟨_,_,_,h⟩:=h
  exact z6L h l hl
 |some d::os,_,h,l,hl=>by
  erw[Sl,Y6] at h hl
  obtain⟨v,_,_,h1,h2⟩:=h
  rcases i9.mp hl with q|q
  .exact z8N d v h1 l q
  .exact z6L h2 l q
def MR.frzIn(M:MR G F.toFx ρ H σv tv s)(h:H a=some o)(hm: ∃u w,o= .frz u w):MR G (F.frz a o ha hz).toFx ρ H σv tv s:=by
 have ne: ∀l∈V2 s,ρ l≠a:=λl hl e=>by
  obtain⟨u,w,rfl⟩:=hm
  have: ∃o,H (ρ l)=some o/\(∀xs,o≠ .tup xs)/\∀u w,o≠ .frz u w:=by
   rcases i9.mp hl with q|q
   .exact z6L M.sl l q
   .exact z6L M.tm l q
  obtain⟨o',e1,_,e3⟩:=this
  rw[e,h] at e1
  cases e1
  exact e3 _ _ rfl
 refine⟨M.sl,M.tm,M.inj,M.dom,M.lab,λl hl=> ?_,λx o' e=> ?_,M.kd,M.frb,M.bas⟩
 .rcases M.own l hl with q|q
  .exact .inl ⟨q,ne l hl⟩
  .exact .inr (by show upd F.H0 a o (ρ l)=none;rw[Z7 (ne l hl)];exact q)
 .have e:upd F.H0 a o x=some o':=e
  by_cases hx:x=a
  .subst hx
   rw[Z6] at e
   cases e
   exact⟨⟨o,h⟩,λ_=>h⟩
  .rw[Z7 hx] at e
   obtain⟨q1,q2⟩:=M.frm x o' e
   exact⟨q1,λn=>q2 λz=>n ⟨z,hx⟩⟩
def MR.frzOut(M:MR G (F.frz a o ha hz).toFx ρ H σv tv s):MR G F.toFx ρ H σv tv s:=by
 refine⟨M.sl,M.tm,M.inj,M.dom,M.lab,λl hl=> ?_,λx o' e=> ?_,M.kd,M.frb,M.bas⟩
 .rcases M.own l hl with q|q
  .exact .inl q.1
  .have q:upd F.H0 a o (ρ l)=none:=q
   by_cases hx:ρ l=a
   .rw[hx,Z6] at q;cases q
   .rw[Z7 hx] at q;exact .inr q
 .by_cases hx:x=a
  .subst hx
   have q:=(M.frm x o Z6).1
   refine⟨q,λn=> ?_⟩
   rcases ha with z|z
   .exact absurd z n
   .rw[z] at e;cases e
  .obtain⟨q1,q2⟩:=M.frm x o' (by show upd F.H0 a o x=some o';rw[Z7 hx];exact e)
   exact⟨q1,λn=>q2 λz=>n z.1⟩
def MRL.frzOut{ts:List D}{vs:List V}(M:MRL G (F.frz a o ha hz).toFx ρ H σv tv s ts vs):MRL G F.toFx ρ H σv tv s ts vs:=by
 refine⟨M.m.frzOut,M.rd,λl hl=> ?_⟩
 obtain⟨q1,q⟩:=M.lb l hl
 refine⟨q1, ?_⟩
 rcases q with q|q
 .exact .inl q.1
 .have q:upd F.H0 a o (ρ l)=none:=q
  by_cases hx:ρ l=a
  .rw[hx,Z6] at q;cases q
  .rw[Z7 hx] at q;exact .inr q
def MR.frzAt(M:MR G (F.frz a o ha hz).toFx ρ H σv tv s):H a=some o:=(M.frm a o Z6).2 λz=>z.2 rfl
def MR.frzAt'{A1:Addr}{ys:List V}{hf:(F.frz a o ha hz).H0 A1=none}(M:MR G ((F.frz a o ha hz).prot A1 ys hf).toFx ρ H σv tv s):H a=some o:=by
 have hne:a≠A1:=λe=>by
  have:upd F.H0 a o A1=none:=hf
  rw[e,Z6] at this;cases this
 exact(M.frm a o (by show upd (upd F.H0 a o) A1 (.lst ys) a=some o;rw[Z7 hne,Z6])).2 λz=>z.2 rfl
def zbQ{u:bE}{kvs:List (NK×V)}{tvp:List (Option V)}{F':Fx}(M:MR G F' ρ H σv (tvp++([some (.ref a)]++tv)) s)(h:H a=some (.frz u (.dT kvs)))(i:Nat):match z3K.at' i (s.tm.drop tvp.length) with
 |none=>True
 |some none=>(ItD a u kvs).stop i H
 |some (some d)=>(ItD a u kvs).go i H/\∀x H',(ItD a u kvs).yld i H x H'->MRL G F' ρ H' σv (tvp++([some (.ref a)]++tv)) s [d] [x]:=by
 dsimp only[z3K]
 cases e:s.tm.drop tvp.length with
 |nil=>trivial
 |cons c0 r=>
  cases c0 with
  |none=>trivial
  |some c=>
   obtain⟨hc,lb⟩:=MR.head (s:=s.popn tvp.length) M.popn e
   cases c with
   |fdc ks vs=>
    erw[zg4]
    erw[RD] at hc
    obtain⟨a',u',w',xs',ea,hx,fz,_⟩:=hc
    cases ea
    rw[h] at hx
    cases hx
    obtain⟨kvs',e0,hk,hxs⟩|⟨kvs',e0,hk,hxs⟩:=fz
    .cases e0
    cases e0
    subst hk hxs
    cases e2:(kvs.map λp=>dkD p.1)[i]? with
    |none=>
     refine⟨?_,h⟩
     have:=List.getElem?_eq_none_iff.mp e2
     simpa using this
    |some d=>
     rw[List.getElem?_map] at e2
     cases e3:kvs[i]? with
     |none=>rw[e3] at e2;cases e2
     |some p=>
      rw[e3] at e2
      cases e2
      refine⟨⟨(List.getElem?_eq_some_iff.mp e3).1,h⟩, ?_⟩
      rintro x H' ⟨rfl,b,k,v,rfl,hk,hb⟩
      rw[hk] at e3
      cases e3
      refine⟨M,RDs.one ?_,λl hl=> ?_⟩
      .exact zg1 hb
      .have e:qq [dkD k]=[]:=by erw[qq,l4];exact z4g k
       rw[e] at hl;cases hl
   |_=>trivial
variable{X:Cx}{tg iter elt:bh}{pos:bT}
def z8U{K:W.Frag}{k:Nat}{ix:List Nat}{m0:M D}{g:Tg}{mt:M Bool}{me:M D}{σ:L2.St}{H:Hp}{Q:VK}(hk:K=G.K)(h:tM G F (J3 (z0U m0) g mt me k ix) σ H Q):z57 K (zfo (tM G F m0)) (tGx G g) (tBx G mt) (tMx G me) k ix σ H Q:=by
 obtain⟨tv,hsf,ρ,s,M,W⟩:=h
 refine⟨tv,hsf,ρ,s,M, ?_⟩
 unfold J3 z0U bd at W
 cases em:m0 s with
 |ex d s1=>rw[em] at W;exact W
 |no=>rw[em] at W;exact W
 |ok t s0=>
  rw[em] at W
  dsimp only at W
  intro ρ1 v H1 M0
  cases t with
  |dct l ks vs=>
   dsimp only at W
   by_cases hc:isT ks=true/\qq vs=[]
   .rw[qw hc] at W
    dsimp only at W
    obtain⟨hT,hvs⟩:=hc
    have rd0:=M0.rd1
    obtain⟨rfl,kvs,hx,hks,r⟩:=rd0.dctq hT
    have bl:=M0.lb1 l (by erw[labs];exact l5 ..)
    refine⟨ρ1 l,kvs,rfl,hx,λu A1 hA1 kd=> ?_⟩
    have st:v6 H1 (upd H1 (ρ1 l) (.frz u (.dT kvs))):=
     ⟨λb ys q=>by rw[Z7 (z0j q hx (by intro z;cases z))];exact q,λb o w q=>by rw[Z7 (z0j q hx (by intro z;cases z))];exact q⟩
    have rdF:RD G ρ1 (upd H1 (ρ1 l) (.frz u (.dT kvs))) (.fdc ks vs) (.ref (ρ1 l)):=by
     erw[RD]
     exact⟨ρ1 l,u,_,_,rfl,Z6, .inr ⟨kvs,rfl,hks,rfl⟩,RDs.stay st _ _ r λj hj=>by rw[hvs] at hj;cases hj⟩
    have lbF: ∀j∈labs (.fdc ks vs),j<s0.n/\(F.A0 (ρ1 j)\/F.H0 (ρ1 j)=none):=λj hj=>by erw[labs,hvs] at hj;cases hj
    have M2:MR G F.toFx ρ1 (upd H1 (ρ1 l) (.frz u (.dT kvs))) σ tv (s0.put l (.fdc ks vs)):=M0.m.put2 bl.1 bl.2 st (z34 M0.m.kd hx) rdF lbF
    have M3:MR G F.toFx ρ1 (upd H1 (ρ1 l) (.frz u (.dT kvs))) σ (some (.ref (ρ1 l))::tv) ((s0.put l (.fdc ks vs)).psh (.fdc ks vs)):=
     MRL.push ⟨M2,RDs.one rdF,λj hj=>by erw[qq,l4] at hj;exact lbF j hj⟩
    have M1:MR G (F.frz (ρ1 l) (.frz u (.dT kvs)) bl.2 (M0.m.frb l bl.1)).toFx ρ1 (upd H1 (ρ1 l) (.frz u (.dT kvs))) σ ([some (.ref (ρ1 l))]++tv) ((s0.put l (.fdc ks vs)).psh (.fdc ks vs)):=M3.frzIn Z6 ⟨_,_,rfl⟩
    generalize hs1:(s0.put l (.fdc ks vs)).psh (.fdc ks vs)=s1 at M1 W
    generalize hF1:F.frz (ρ1 l) (.frz u (.dT kvs)) bl.2 (M0.m.frb l bl.1)=F1 at M1
    have out: ∀{ρ H s ts vs},MRL G F1.toFx ρ H σ tv s ts vs->MRL G F.toFx ρ H σ tv s ts vs:=by subst hF1;exact λh=>h.frzOut
    subst hk
    have kd:KD G.K (upd (upd H1 (ρ1 l) (.frz u (.dT kvs))) A1 (.lst [])):=kd
    have hf:=M1.fresh0 hA1
    refine⟨λi m ys σ' H'=> ∃ρ s,MR G (F1.prot A1 ys hf).toFx ρ H' σ' ((ys.reverse.map some)++(σ++([some (.ref (ρ1 l))]++tv))) s/\wM G F σ tv (K4 z3K g mt me s1.σ.length m i ys.length s) Q,⟨_,ρ1,_,M1.enter hA1 kd k ix,W⟩, ?_⟩
    rintro i m ys σ' H' ⟨ρ2,s2,M2',W2⟩
    have hD:=(MR.turnD (ys':=ys) M2').1
    refine⟨hD, ?_⟩
    have ol:s1.σ.length=σ.length:=M1.sl.length
    have hfz:H' (ρ1 l)=some (.frz u (.dT kvs)):=by subst hF1;exact MR.frzAt' M2'
    have ok:=zbQ (tvp:=(ys.reverse.map some)++σ) (a:=ρ1 l) (tv:=tv) (by rw[m9];exact M2') hfz i
    simp only[l8,l0,F5,<-ol,m9] at ok
    unfold K4 at W2
    cases e:z3K.at' i (s2.tm.drop (ys.length+s1.σ.length)) with
    |none=>erw[e] at W2;exact False.elim W2
    |some o=>
     rw[e] at ok
     cases o with
     |none=>
      erw[e] at W2 ok
      refine .inl ⟨ok, ?_⟩
      cases ea:Q0 (s2.tm.take ys.length).reverse with
      |none=>erw[ea] at W2;exact False.elim W2
      |some ds=>
       erw[ea] at W2
       exact W2 _ _ _ (out (MR.leave M2' (kk:=z3K.k) rfl _ ol.symm ea))
     |some d=>
      erw[e] at W2 ok
      cases m with
      |zero=>exact False.elim W2
      |succ f=>
       dsimp only at W2
       cases e2:asg g d s2.σ with
       |none=>erw[e2] at W2;exact False.elim W2
       |some σ3=>
        erw[e2] at W2
        refine .inr ⟨ok.1,λx H2 y=> ?_⟩
        have hx:=ok.2 x H2 y
        refine⟨F1.prot A1 ys hf,_,ρ2,s2,d,hx,σ3,e2,λ σv' M3=>⟨F1.prot A1 ys hf,_,L3,ρ2,_,M3, ?_⟩⟩
        cases e3:mt {s2 with σ:=σ3} with
        |ex d s4=>erw[e3] at W2;exact False.elim W2
        |no=>erw[e3] at W2;exact False.elim W2
        |ok b s4=>
         intro ρ4 H4 M4
         cases b with
         |false=>
          erw[e3] at W2
          rw[qy A5]
          exact⟨f,B0 _,ρ4,s4,M4,W2⟩
         |true=>
          erw[e3] at W2
          rw[qw rfl]
          by_cases hz:ys.length<qh
          .rw[qw hz] at W2
           refine⟨F1.prot A1 ys hf,_,L3,ρ4,s4,M4, ?_⟩
           cases e5:me s4 with
           |ex d s5=>erw[e5] at W2;exact False.elim W2
           |no=>erw[e5] at W2;exact False.elim W2
           |ok y s5=>
            erw[e5] at W2
            intro ρ5 v H5 M5
            obtain⟨hD5,M6⟩:=MR.turnD (ys':=ys++[v]) M5.push
            refine⟨hD5,hz,f,B0 _,ρ5,s5.psh y, ?_, ?_⟩
            .rw[F7,A6,F8,A4,t8]
             exact M6
            .rw[l8];exact W2
          .rw[qy hz] at W2;exact False.elim W2
   .rw[qy hc] at W;exact False.elim W
  |_=>exact False.elim W
variable{kx vx:bh}
noncomputable def dp1(d k v:D):M D:=λs=>match d with
 | .dct l [] []=>match z1S k with
  |some ks=>if labs v=[] then .ok (.dct l [dkD ks] [v]) (s.put l (.dct l [dkD ks] [v])) else .no
  |none=> .no
 |_=> .no
noncomputable def z2h(mk mv:M D):M D:=λs=>match mk (s.nxt.psh (.dct s.n [] [])) with
 | .ok k s2=>(match mv (s2.psh k) with
  | .ok v s3=>(match s3.tm with
   |some k'::some d'::r=>dp1 d' k' v {s3 with tm:=r}
   |_=> .no)
  | .ex d s'=> .ex d s'
  | .no=> .no)
 | .ex d s'=> .ex d s'
 | .no=> .no
def zaz{mk mv:M D}{σ:L2.St}{H:Hp}{Q:VK}(h:tM G F (z2h mk mv) σ H Q):z8p G.K (tM G F mk) (tM G F mv) σ H (λv H'=>KD G.K H'->Q v H'):=by
 obtain⟨tv,hs,ρ,s,M,W⟩:=h
 intro p hp kd
 have rd:RD G (ext ρ s.n p) (upd H p (.dT [])) (.dct s.n [] []) (.ref p):=by
  erw[RD]
  rw[G8]
  exact⟨rfl, .inr ⟨[],Z6,rfl,by simp[RDs]⟩⟩
 have M1:MR G F.toFx (ext ρ s.n p) (upd H p (.dT [])) σ (some (.ref p)::tv) (s.nxt.psh (.dct s.n [] [])):=MRL.push ⟨M.new hp kd,RDs.one rd,λl hl=>by
  erw[labs,qq,l4,m4] at hl
  rw[hl]
  exact⟨B0 _,by rw[G8];exact .inr (M.fresh0 hp)⟩⟩
 unfold z2h at W
 show tM G F mk σ _ λx H1=>tM G F mv σ H1 λy H2=>_
 refine⟨some (.ref p)::tv,z8C hs,_,_,M1, ?_⟩
 cases e1:mk (s.nxt.psh (.dct s.n [] [])) with
 |ex d s'=>rw[e1] at W;exact W
 |no=>rw[e1] at W;exact W
 |ok k s2=>
  rw[e1] at W
  dsimp only at W
  intro ρ2 x H2 M2
  refine⟨some x::some (.ref p)::tv,z8C (z8C hs),ρ2,s2.psh k,M2.push, ?_⟩
  cases e2:mv (s2.psh k) with
  |ex d s'=>rw[e2] at W;exact W
  |no=>rw[e2] at W;exact W
  |ok v s3=>
   rw[e2] at W
   dsimp only at W
   intro ρ3 y H3 M3
   cases e3:s3.tm with
   |nil=>erw[e3] at W;exact False.elim W
   |cons o3 r3=>
    cases o3 with
    |none=>erw[e3] at W;exact False.elim W
    |some x3=>
     erw[e3] at W
     cases r3 with
     |nil=>exact False.elim W
     |cons o4 r4=>
      cases o4 with
      |none=>exact False.elim W
      |some x4=>
       dsimp only at W
       have M4:=M3.down e3
       have M5:=M4.down (s':={s3 with tm:=some x4::r4}) rfl
       show ∃b y' ks,_
       have h:=M5.rd
       erw[RDs] at h
       obtain⟨_,_,ee,h1,_,_,ee2,h2,_,_,ee3,h3,_⟩:=h
       cases ee;cases ee2;cases ee3
       unfold dp1 at W
       cases x4 with
       |dct l ks vs=>
        cases ks with
        |cons _ _=>exact False.elim W
        |nil=>
         cases vs with
         |cons _ _=>exact False.elim W
         |nil=>
          dsimp only at W
          cases ek:z1S x3 with
          |none=>rw[ek] at W;exact False.elim W
          |some kk=>
           rw[ek] at W
           dsimp only at W
           by_cases hv:labs v=[]
           .rw[qw hv] at W
            obtain⟨ep,kvs,hx,hks,r⟩:=h1.dctq rfl
            have e0:kvs=[]:=by cases kvs with|nil=>rfl|cons _ _=>simp at hks
            subst e0
            obtain⟨b,rfl,hb,_⟩:=z36 h2 ek
            have ep:p=ρ3 l:=by cases ep;rfl
            subst ep
            refine⟨b,_,kk,rfl,hx,hb,λkd'=> ?_⟩
            have bl:l<s3.n/\(F.A0 (ρ3 l)\/F.H0 (ρ3 l)=none):=M5.lb l (by erw[qq,labs];exact i7 _ (l5 ..))
            have st:v6 H3 (upd H3 (ρ3 l) (.dT [(kk,y)])):=
             ⟨λb ys q=>by rw[Z7 (z0j q hx (by intro z;cases z))];exact q,λb o u q=>by rw[Z7 (z0j q hx (by intro z;cases z))];exact q⟩
            have rd2:RD G ρ3 (upd H3 (ρ3 l) (.dT [(kk,y)])) (.dct l [dkD kk] [v]) (.ref (ρ3 l)):=by
             erw[RD]
             refine⟨trivial, .inr ⟨[(kk,y)],Z6,rfl, ?_⟩⟩
             refine RDs.stay st _ _ (RDs.one h3) λj hj=> ?_
             erw[qq,hv,l4] at hj;cases hj
            have lb2: ∀j∈labs (.dct l [dkD kk] [v]),j<s3.n/\(F.A0 (ρ3 j)\/F.H0 (ρ3 j)=none):=λj hj=>by
             have e:labs (dkD kk)=[]:=z4g kk
             erw[labs,qq,e,hv,l4,m4] at hj
             rw[hj];exact bl
            exact W.out (M5.m.put2 bl.1 bl.2 st kd' rd2 lb2) rd2 lb2
           .rw[qy hv] at W;exact False.elim W
       |_=>exact False.elim W
noncomputable def rdP:D->Option (List D×List D)
 | .dct _ (.non::ks) vs=>some (ks,vs)
 |_=>none
def RD.rdp{t:D}{ks vs:List D}{v:V}(h:RD G ρ H t v)(e:rdP t=some (ks,vs)): ∃a kvs,v= .ref a/\Rd H a (.dK kvs)/\ks=kvs.map (λp:Key×V=>z1k p.1)/\RDs G ρ H vs (kvs.map (·.2))/\∀l∈qq vs,l∈labs t:=by
 delta rdP at e
 split at e
 .rename_i l ks' vs'
  cases e
  erw[RD] at h
  obtain⟨e,⟨kvs,s,s2,r⟩|⟨kvs,s,s2,r⟩⟩:=h
  .cases s2
   exact⟨ρ l,kvs,e, .inl s,rfl,r,λj hj=>by erw[labs];exact i5 _ (i4 _ hj)⟩
  .cases kvs with
   |nil=>cases s2
   |cons p q=>cases s2
 .cases e
def z1L(k:Key):X2 (z1k k)=some k:=by cases k<;>rfl
noncomputable def z2s:List D->List D->Key->Option D
 |d::ks,v::vs,k=>if X2 d=some k then some v else z2s ks vs k
 |_,_,_=>none
theorem z3L{k:Key}: ∀(kvs:List (Key×V)) (vs:List D) (t:D),RDs G ρ H vs (kvs.map (·.2))->z2s (kvs.map λp=>z1k p.1) vs k=some t->∃v,valV kvs k=some v/\RD G ρ H t v/\t∈vs
 |[],_,_,_,e=>by erw[m8,z2s] at e;cases e
 |p::kvs,[],_,_,e=>by erw[i6,z2s] at e;cases e
 |p::kvs,w::vs,t,h,e=>by
  erw[i6,RDs] at h
  obtain⟨x,r,e1,h1,h2⟩:=h
  cases e1
  erw[i6,z2s,z1L,Option.some.injEq] at e
  by_cases hk:p.1=k
  .rw[qw hk] at e;cases e
   exact⟨_,z1C hk,h1,l5 ..⟩
  .rw[qy hk] at e
   obtain⟨v,a,b,c⟩:=z3L kvs vs t h2 e
   exact⟨v,by rw[z0z hk];exact a,b,i5 _ c⟩
theorem z3M{k:Key}: ∀(kvs:List (Key×V)) (vs:List D),RDs G ρ H vs (kvs.map (·.2))->z2s (kvs.map λp=>z1k p.1) vs k=none->valV kvs k=none
 |[],_,_,_=>rfl
 |p::kvs,[],h,_=>by erw[i6,RDs] at h;cases h
 |p::kvs,w::vs,h,e=>by
  erw[i6,RDs] at h
  obtain⟨x,r,e1,h1,h2⟩:=h
  cases e1
  erw[i6,z2s,z1L,Option.some.injEq] at e
  by_cases hk:p.1=k
  .rw[qw hk] at e;cases e
  .rw[qy hk] at e
   rw[z0z hk];exact z3M kvs vs h2 e
def zio{k:Key}{kvs:List (Key×V)}{vs:List D}(r:RDs G ρ H vs (kvs.map (·.2))):(z2s (kvs.map λp=>z1k p.1) vs k).isSome=(valV kvs k).isSome:=by
 cases ef:z2s (kvs.map λp=>z1k p.1) vs k with
 |none=>rw[z3M kvs vs r ef];rfl
 |some d=>obtain⟨w,hv,_⟩:=z3L kvs vs d r ef;rw[hv];rfl
end
section
variable{X:Cx}{G:Gx}{F:Fy}{a b e:bh}{ma mb:M D}{pos:bT}
noncomputable def z4i(t o:D):M D:=match rdP o with
 |some (ks,vs)=>match X2 t with
  |some k=>rt (.bool (!(z2s ks vs k).isSome))
  |none=>fl
 |none=>fl
def zaA:z1W G F (λy x H Q=> ∃a o,x= .ref a/\zbo H a y o/\Q (.bl (!o.isSome)) H) z4i:=by
 intro ρ s t t' v u H σv tv Q M W
 obtain⟨h1,h2⟩:=M.rd2
 delta z4i at W
 cases er:rdP t' with
 |none=>rw[er] at W;exact False.elim W
 |some p=>
  obtain⟨ks,vs⟩:=p
  rw[er] at W
  dsimp only at W
  cases ek:X2 t with
  |none=>rw[ek] at W;exact False.elim W
  |some k=>
   rw[ek] at W
   dsimp only at W
   obtain⟨a,kvs,rfl,hx,rfl,r,sub⟩:=h2.rdp er
   obtain⟨rfl,_⟩:=z2C h1 ek
   refine⟨a,_,rfl, .inl ⟨kvs,k,hx,rfl,rfl⟩, ?_⟩
   rw[<-zio r]
   exact W.flat M.m rfl
def zaB(hu:X.A.units+64<cLine):Cm X G F .NotIn z4i:=⟨_,z8S hu,zaA⟩
theorem RDs.at'{ρ:Nat->Addr}{H:Hp}: ∀{ds:List D} {xs:List V} {i:Nat} {d:D},RDs G ρ H ds xs->ds[i]? =some d->∃x,xs[i]? =some x/\RD G ρ H d x
 |[],xs,i,d,h,e=>by simp at e
 |d::ds,xs,0,d',h,e=>by erw[RDs] at h;obtain⟨x,q,rfl,h1,_⟩:=h;simp at e;subst e;exact⟨x,rfl,h1⟩
 |d::ds,xs,i+1,d',h,e=>by
  erw[RDs] at h
  obtain⟨x,q,rfl,h1,h2⟩:=h
  erw[List.getElem?_cons_succ] at e⊢
  exact RDs.at' h2 e
noncomputable def z2t(ds:List D):List D:=(So.perm ds.length (zcS (erL ds))).map λi=>ds.getD i .non
noncomputable def zem:List D->M D
 |[.lst l ds]=>λs=>if(plainL ds&&z8r (erL ds)&&(qq ds).isEmpty)=true then .ok (.lst s.n (z2t ds)) s.nxt else .no
 |_=>fl
theorem RDs.len2{ρ:Nat->Addr}{H:Hp}: ∀{ds:List D} {xs:List V},RDs G ρ H ds xs->ds.length=xs.length
 |[],xs,h=>by erw[RDs] at h;subst h;rfl
 |d::ds,xs,h=>by erw[RDs] at h;obtain⟨x,q,rfl,_,h2⟩:=h;rw[o0,o0,RDs.len2 h2]
theorem RDs.perm{ρ:Nat->Addr}{H:Hp}{ds:List D}{xs:List V}(h:RDs G ρ H ds xs): ∀q:List Nat,(∀i∈q,i<ds.length)->RDs G ρ H (q.map λi=>ds.getD i .non) (q.map λi=>xs.getD i .non)
 |[],_=>by erw[m8,RDs]
 |i::q,hq=>by
  erw[i6,RDs]
  refine⟨_,_,rfl, ?_,RDs.perm h q λj hj=>hq j (i5 _ hj)⟩
  have hi:=hq i l5
  obtain⟨x,ex,rx⟩:=RDs.at' (i:=i) (d:=ds.getD i .non) h (by simp[hi])
  rw[show xs.getD i .non=x by rw[List.getD_eq_getElem?_getD,ex];rfl]
  exact rx
theorem z5h{ds:List D}(h:qq ds=[]): ∀q:List Nat,qq (q.map λi=>ds.getD i .non)=[]
 |[]=>by erw[m8,qq]
 |i::q=>by
  erw[i6,qq]
  rw[z5h h q,l4]
  have gen: ∀(ds:List D) (i:Nat),qq ds=[]->labs (ds.getD i .non)=[]:=by
   intro ds
   induction ds with
   |nil=>intro i _;simp[labs]
   |cons d ds ih=>
    intro i h
    erw[qq,List.append_eq_nil_iff] at h
    cases i with
    |zero=>simpa using h.1
    |succ i=>simpa using ih i h.2
  exact gen ds i h
def zg5:K3 G F (zfr G.K) zem:=by
 intro ρ s ts vs H σv tv Q M W
 delta zem at W
 split at W
 .rename_i l ds
  split at W
  .rename_i hc
   erw[A3,List.isEmpty_iff] at hc
   obtain⟨⟨c1,c2⟩,c3⟩:=hc
   obtain⟨v,rfl,h,_⟩:=M.one
   obtain⟨p,xs,rfl,s1,r1,_⟩:=id (h.lstq (ds:=ds) rfl)
   refine⟨p,xs,erL ds,rfl,s1,RDs.dp _ _ r1 c1,c2,λl hl k=> ?_⟩
   have e:=RDs.len2 r1
   rw[<-e] at k⊢
   exact z1X W M.m (RDs.perm r1 _ So.perm_lt) (λj hj=>by delta z2t at hj;rw[z5h c3] at hj;cases hj) hl k
  .exact False.elim W
 .exact wfl W
def zg6(hk:X.K=G.K)(hu:X.A.units+64<cLine):Cb X G F (.builtin "sorted") zem:=⟨_,hk▸zah hu,zg5⟩
variable{pos':bT}
noncomputable def zg7(i:Nat)(a:Int):D->MS
 | .int b=>λs=> .nx {s with σ:=s.σ.set i (some (.int (a+b)))}
 |_=>λ_=> .no
noncomputable def z7o(i:Nat)(m:M D):MS:=λs=>match s.σ[i]? with
 |some (some (.int a))=>z1o m (zg7 i a) s
 |_=> .no
variable{tg:bh}
noncomputable def zg8(i:Nat)(ds es:List D):Option D:=match ds[i]?,es[i]? with
 |some d,some e=>some (.tup [d,e])
 |_,_=>none
variable{ρ:Nat->Addr}{H:Hp}
def RD.dctp{l:Nat}{ks vs:List D}{v:V}(h:RD G ρ H (.dct l (.non::ks) vs) v):v= .ref (ρ l)/\∃kvs:List (Key×V),H (ρ l)=some (.dK kvs)/\ks=kvs.map (λp=>z1k p.1)/\RDs G ρ H vs (kvs.map (·.2)):=by
 erw[RD] at h
 obtain⟨e,⟨kvs,s,s2,r⟩|⟨kvs,s,s2,r⟩⟩:=h
 .injection s2 with _ s2
  exact⟨e,kvs,s,s2,r⟩
 .cases kvs with
  |nil=>cases s2
  |cons p kvs=>erw[i6,dkD] at s2;injection s2 with s2 _;cases s2
noncomputable def z8V(ks:List D)(k:Key):List D:=if(ks.any λd=>decide (X2 d=some k))=true then ks else ks++[z1k k]
noncomputable def z5X(ks vs:List D)(k:Key)(v:D):List D:=if(ks.any λd=>decide (X2 d=some k))=true then P0 (λd w=>if X2 d=some k then v else w) ks vs else vs++[v]
def zg9{k:Key}(kvs:List (Key×V)):((kvs.map λp=>z1k p.1).any λd=>decide (X2 d=some k))=kvs.any λkv=>decide (kv.1=k):=by
 rw[R9]
 congr 1
 funext p
 erw[Function.comp,z1L,Option.some.injEq]
theorem z4j{k:Key}{t:D}{v:V}(h:RD G ρ H t v): ∀(kvs:List (Key×V)) (vs:List D),RDs G ρ H vs (kvs.map (·.2))->
 RDs G ρ H (P0 (λd w=>if X2 d=some k then t else w) (kvs.map λp=>z1k p.1) vs) ((kvs.map (λkv=>if kv.1=k then(kv.1,v) else kv)).map (·.2))
 |[],[],_=>by simp[RDs]
 |[],_::_,h=>by erw[m8,RDs] at h;obtain⟨_,_,e,_⟩:=h;cases e
 |p::kvs,[],h=>by erw[i6,RDs] at h;cases h
 |p::kvs,w::vs,h'=>by
  erw[i6,RDs] at h'
  obtain⟨x,r,e1,h1,h2⟩:=h'
  cases e1
  erw[i6,L0,RDs,z1L,Option.some.injEq]
  by_cases hk:p.1=k
  .rw[qw hk,qw hk];exact⟨_,_,rfl,h,z4j h kvs vs h2⟩
  .rw[qy hk,qy hk];exact⟨_,_,rfl,h1,z4j h kvs vs h2⟩
def zdf{k:Key}{t:D}{v:V}{kvs:List (Key×V)}{vs:List D}(h:RD G ρ H t v)(r:RDs G ρ H vs (kvs.map (·.2))):
 z8V (kvs.map λp=>z1k p.1) k=(z2z kvs k v).map (λp=>z1k p.1)/\RDs G ρ H (z5X (kvs.map λp=>z1k p.1) vs k t) ((z2z kvs k v).map (·.2)):=by
 delta z8V z5X z2z
 rw[zg9]
 cases e:kvs.any λkv=>decide (kv.1=k) with
 |true=>
  erw[if_true]
  refine⟨?_,z4j h kvs vs r⟩
  rw[C7]
  refine D1 λp _=> ?_
  erw[Function.comp]
  split<;>rfl
 |false=>
  erw[t9,if_false,t8,i6,m8]
  exact⟨trivial,r.append (RDs.one h)⟩
theorem z5i: ∀kvs:List (Key×V),qq (kvs.map λp=>z1k p.1)=[]
 |[]=>rfl
 |p::kvs=>by
  have e:labs (z1k p.1)=[]:=by cases p.1<;>rfl
  erw[i6,qq,e,z5i kvs];rfl
def z5j{ks vs:List D}{k:Key}{v:D}(hv:labs v=[])(h:qq vs=[]):qq (z5X ks vs k v)=[]:=by
 have h':=z2g h
 delta z5X
 split
 .refine G6 λd hd=> ?_
  obtain⟨i,hi,e⟩:=E4 hd
  rw[O2] at e
  subst e
  split
  .exact hv
  .exact h' _ (C3 _)
 .refine G6 λd hd=> ?_
  rcases i9.mp hd with q|q
  .exact h' d q
  .rw[m4.mp q];exact hv
variable{o:bh}{apos cpos:bT}{mo mi mx:M D}
noncomputable def z5Y:M D:=λs=> .ok (.dct s.n [.non] []) s.nxt
noncomputable def z5k(o i v:D):MS:=λs=>match o with
 | .dct l (.non::ks) vs=>match X2 i with
  |some k=>if ks.length<qh/\labs v=[]/\qq vs=[] then .nx (s.put l (.dct l (.non::z8V ks k) (z5X ks vs k v))) else .no
  |none=> .no
 |_=> .no
def zaC{ρ:Nat->Addr}{s:Stt}{t1 t2 t3:D}{v o i:V}{H:Hp}{σv tv:List (Option V)}{Dd:Ends}(M:MRL G F.toFx ρ H σv tv s [t1,t2,t3] [v,o,i])(W:wS G F tv (z5k t2 t3 t1 s) Dd): ∃a H4,o= .ref a/\z7F H a i v H4/\Dd.nx σv H4:=by
 have h:=M.rd
 erw[RDs] at h
 obtain⟨_,_,e,h1,_,_,e2,h2,_,_,e3,h3,_⟩:=h
 cases e;cases e2;cases e3
 have b2:LB F.toFx ρ s.n (labs t2):=λl h=>M.lb l (by erw[qq];exact i4 _ (i7 _ h))
 delta z5k at W
 split at W
 .rename_i l ks vs
  cases ek:X2 t3 with
  |none=>rw[ek] at W;exact False.elim W
  |some k=>
   rw[ek] at W
   dsimp only at W
   by_cases hc:ks.length<qh/\labs t1=[]/\qq vs=[]
   .rw[qw hc] at W
    obtain⟨hz,hv,hvs⟩:=hc
    obtain⟨rfl,kvs,hx,rfl,r⟩:=h2.dctp
    obtain⟨rfl,_⟩:=z2C h3 ek
    have bl:=b2 l (by erw[labs];exact l5 ..)
    have st:v6 H (upd H (ρ l) (.dK (z2z kvs k v))):=
     ⟨λb ys q=>by rw[Z7 (z0j q hx (by intro z;cases z))];exact q,λb o u q=>by rw[Z7 (z0j q hx (by intro z;cases z))];exact q⟩
    have pr:=zdf (k:=k) h1 r
    refine⟨ρ l,_,rfl,z7F.k hx (by simpa using hz),W ρ σv _ (M.m.put2 bl.1 bl.2 st (z34 M.m.kd hx) ?_ λj hj=> ?_)⟩
    .erw[RD]
     refine⟨trivial, .inl ⟨z2z kvs k v,Z6,by rw[pr.1], ?_⟩⟩
     exact RDs.stay st _ _ pr.2 λj hj=>by rw[z5j hv hvs] at hj;cases hj
    .erw[labs,qq,pr.1,z5i,z5j hv hvs,l4,m4] at hj
     rw[hj];exact bl
   .rw[qy hc] at W;exact False.elim W
 .exact False.elim W
end
noncomputable def zga(i:Nat):Qq->Option (Option D)
 |some (.fdc ks vs)::_=>some (zg8 i ks vs)
 |_=>none
noncomputable def zdg:ItK:=⟨1,zga,zbP⟩
noncomputable def z7p(m:M D):M ItK:=bd m λd s=>match d with
 | .dct l ks vs=>if isT ks=true/\qq vs=[] then .ok zdg ((s.put l (.fdc ks vs)).psh (.fdc ks vs)) else .no
 |_=> .no
section
variable{G:Gx}{F:Fy}{ρ:Nat->Addr}{H:Hp}{σv tv:List (Option V)}{s:Stt}{a:Addr}
def zgb{u:bE}{kvs:List (NK×V)}{tvp:List (Option V)}{F':Fx}(M:MR G F' ρ H σv (tvp++([some (.ref a)]++tv)) s)(h:H a=some (.frz u (.dT kvs)))(i:Nat):match zdg.at' i (s.tm.drop tvp.length) with
 |none=>True
 |some none=>(zef G.K a u kvs).stop i H
 |some (some d)=>(zef G.K a u kvs).go i H/\∀x H',(zef G.K a u kvs).yld i H x H'->MRL G F' ρ H' σv (tvp++([some (.ref a)]++tv)) s [d] [x]:=by
 dsimp only[zdg]
 cases e:s.tm.drop tvp.length with
 |nil=>trivial
 |cons c0 r=>
  cases c0 with
  |none=>trivial
  |some c=>
   obtain⟨hc,lb⟩:=MR.head (s:=s.popn tvp.length) M.popn e
   cases c with
   |fdc ks vs=>
    erw[zga]
    erw[RD] at hc
    obtain⟨a',u',w',xs',ea,hx,fz,rv⟩:=hc
    cases ea
    rw[h] at hx
    cases hx
    obtain⟨kvs',e0,hk,hxs⟩|⟨kvs',e0,hk,hxs⟩:=fz
    .cases e0
    cases e0
    subst hk hxs
    have lv:=RDs.len2 rv
    erw[l0] at lv
    erw[zg8]
    cases e3:kvs[i]? with
    |none=>
     rw[List.getElem?_map,e3]
     exact⟨List.getElem?_eq_none_iff.mp e3,h⟩
    |some p=>
     have hi:=(List.getElem?_eq_some_iff.mp e3).1
     cases e4:vs[i]? with
     |none=>exact absurd (List.getElem?_eq_none_iff.mp e4) ⋯
     |some d=>
      rw[List.getElem?_map,e3]
      refine⟨⟨hi,h⟩, ?_⟩
      rintro x H' ⟨q,b,k,v,hq,rfl,rfl,hk,hb,kd⟩
      rw[hk] at e3
      cases e3
      have sm:=z3s.new (.tup [.ref b,v]) hq
      obtain⟨w,ew,rw'⟩:=rv.get i d e4
      have ev:w=v:=by
       rw[List.getElem?_map,hk] at ew
       exact(Option.some.inj ew).symm
      subst ev
      refine⟨M.same sm kd,RDs.one ?_,λl hl=> ?_⟩
      .erw[RD]
       refine⟨q,_,rfl,Z6, ?_⟩
       have r1:=(RDs.one rw').same sm
       have r2:=(RDs.one (zg1 (G:=G) (ρ:=ρ) hb)).same sm
       erw[RDs] at r1 r2⊢
       obtain⟨_,_,e5,h1,_⟩:=r1
       cases e5
       obtain⟨_,_,e6,h2,_⟩:=r2
       cases e6
       exact⟨_,_,rfl,h2,_,_,rfl,h1,rfl⟩
      .erw[qq,labs,l4,z4g,A4] at hl
       exact lb l (by erw[labs];exact G5 (List.mem_of_getElem? e4) l hl)
   |_=>trivial
variable{X:Cx}{tg iter elt:bh}{pos:bT}
def z7q{K:W.Frag}{k:Nat}{ix:List Nat}{m0:M D}{g:Tg}{mt:M Bool}{me:M D}{σ:L2.St}{H:Hp}{Q:VK}(hk:K=G.K)(h:tM G F (J3 (z7p m0) g mt me k ix) σ H Q):z57 K (zfs K (tM G F m0)) (tGx G g) (tBx G mt) (tMx G me) k ix σ H Q:=by
 obtain⟨tv,hsf,ρ,s,M,W⟩:=h
 refine⟨tv,hsf,ρ,s,M, ?_⟩
 unfold J3 z7p bd at W
 cases em:m0 s with
 |ex d s1=>rw[em] at W;exact W
 |no=>rw[em] at W;exact W
 |ok t s0=>
  rw[em] at W
  dsimp only at W
  intro ρ1 v H1 M0
  cases t with
  |dct l ks vs=>
   dsimp only at W
   by_cases hc:isT ks=true/\qq vs=[]
   .rw[qw hc] at W
    dsimp only at W
    obtain⟨hT,hvs⟩:=hc
    have rd0:=M0.rd1
    obtain⟨rfl,kvs,hx,hks,r⟩:=rd0.dctq hT
    have bl:=M0.lb1 l (by erw[labs];exact l5 ..)
    refine⟨ρ1 l,kvs,rfl,hx,λu A1 hA1 kd=> ?_⟩
    have st:v6 H1 (upd H1 (ρ1 l) (.frz u (.dT kvs))):=
     ⟨λb ys q=>by rw[Z7 (z0j q hx (by intro z;cases z))];exact q,λb o w q=>by rw[Z7 (z0j q hx (by intro z;cases z))];exact q⟩
    have rdF:RD G ρ1 (upd H1 (ρ1 l) (.frz u (.dT kvs))) (.fdc ks vs) (.ref (ρ1 l)):=by
     erw[RD]
     exact⟨ρ1 l,u,_,_,rfl,Z6, .inr ⟨kvs,rfl,hks,rfl⟩,RDs.stay st _ _ r λj hj=>by rw[hvs] at hj;cases hj⟩
    have lbF: ∀j∈labs (.fdc ks vs),j<s0.n/\(F.A0 (ρ1 j)\/F.H0 (ρ1 j)=none):=λj hj=>by erw[labs,hvs] at hj;cases hj
    have M2:MR G F.toFx ρ1 (upd H1 (ρ1 l) (.frz u (.dT kvs))) σ tv (s0.put l (.fdc ks vs)):=M0.m.put2 bl.1 bl.2 st (z34 M0.m.kd hx) rdF lbF
    have M3:MR G F.toFx ρ1 (upd H1 (ρ1 l) (.frz u (.dT kvs))) σ (some (.ref (ρ1 l))::tv) ((s0.put l (.fdc ks vs)).psh (.fdc ks vs)):=
     MRL.push ⟨M2,RDs.one rdF,λj hj=>by erw[qq,l4] at hj;exact lbF j hj⟩
    have M1:MR G (F.frz (ρ1 l) (.frz u (.dT kvs)) bl.2 (M0.m.frb l bl.1)).toFx ρ1 (upd H1 (ρ1 l) (.frz u (.dT kvs))) σ ([some (.ref (ρ1 l))]++tv) ((s0.put l (.fdc ks vs)).psh (.fdc ks vs)):=M3.frzIn Z6 ⟨_,_,rfl⟩
    generalize hs1:(s0.put l (.fdc ks vs)).psh (.fdc ks vs)=s1 at M1 W
    generalize hF1:F.frz (ρ1 l) (.frz u (.dT kvs)) bl.2 (M0.m.frb l bl.1)=F1 at M1
    have out: ∀{ρ H s ts vs},MRL G F1.toFx ρ H σ tv s ts vs->MRL G F.toFx ρ H σ tv s ts vs:=by subst hF1;exact λh=>h.frzOut
    subst hk
    have kd:KD G.K (upd (upd H1 (ρ1 l) (.frz u (.dT kvs))) A1 (.lst [])):=kd
    have hf:=M1.fresh0 hA1
    refine⟨λi m ys σ' H'=> ∃ρ s,MR G (F1.prot A1 ys hf).toFx ρ H' σ' ((ys.reverse.map some)++(σ++([some (.ref (ρ1 l))]++tv))) s/\wM G F σ tv (K4 zdg g mt me s1.σ.length m i ys.length s) Q,⟨_,ρ1,_,M1.enter hA1 kd k ix,W⟩, ?_⟩
    rintro i m ys σ' H' ⟨ρ2,s2,M2',W2⟩
    have hD:=(MR.turnD (ys':=ys) M2').1
    refine⟨hD, ?_⟩
    have ol:s1.σ.length=σ.length:=M1.sl.length
    have hfz:H' (ρ1 l)=some (.frz u (.dT kvs)):=by subst hF1;exact MR.frzAt' M2'
    have ok:=zgb (tvp:=(ys.reverse.map some)++σ) (a:=ρ1 l) (tv:=tv) (by rw[m9];exact M2') hfz i
    simp only[l8,l0,F5,<-ol,m9] at ok
    unfold K4 at W2
    cases e:zdg.at' i (s2.tm.drop (ys.length+s1.σ.length)) with
    |none=>erw[e] at W2;exact False.elim W2
    |some o=>
     rw[e] at ok
     cases o with
     |none=>
      erw[e] at W2 ok
      refine .inl ⟨ok, ?_⟩
      cases ea:Q0 (s2.tm.take ys.length).reverse with
      |none=>erw[ea] at W2;exact False.elim W2
      |some ds=>
       erw[ea] at W2
       exact W2 _ _ _ (out (MR.leave M2' (kk:=zdg.k) rfl _ ol.symm ea))
     |some d=>
      erw[e] at W2 ok
      cases m with
      |zero=>exact False.elim W2
      |succ f=>
       dsimp only at W2
       cases e2:asg g d s2.σ with
       |none=>erw[e2] at W2;exact False.elim W2
       |some σ3=>
        erw[e2] at W2
        refine .inr ⟨ok.1,λx H2 y=> ?_⟩
        have hx:=ok.2 x H2 y
        refine⟨F1.prot A1 ys hf,_,ρ2,s2,d,hx,σ3,e2,λ σv' M3=>⟨F1.prot A1 ys hf,_,L3,ρ2,_,M3, ?_⟩⟩
        cases e3:mt {s2 with σ:=σ3} with
        |ex d s4=>erw[e3] at W2;exact False.elim W2
        |no=>erw[e3] at W2;exact False.elim W2
        |ok b s4=>
         intro ρ4 H4 M4
         cases b with
         |false=>
          erw[e3] at W2
          rw[qy A5]
          exact⟨f,B0 _,ρ4,s4,M4,W2⟩
         |true=>
          erw[e3] at W2
          rw[qw rfl]
          by_cases hz:ys.length<qh
          .rw[qw hz] at W2
           refine⟨F1.prot A1 ys hf,_,L3,ρ4,s4,M4, ?_⟩
           cases e5:me s4 with
           |ex d s5=>erw[e5] at W2;exact False.elim W2
           |no=>erw[e5] at W2;exact False.elim W2
           |ok y s5=>
            erw[e5] at W2
            intro ρ5 v H5 M5
            obtain⟨hD5,M6⟩:=MR.turnD (ys':=ys++[v]) M5.push
            refine⟨hD5,hz,f,B0 _,ρ5,s5.psh y, ?_, ?_⟩
            .rw[F7,A6,F8,A4,t8]
             exact M6
            .rw[l8];exact W2
          .rw[qy hz] at W2;exact False.elim W2
   .rw[qy hc] at W;exact False.elim W
  |_=>exact False.elim W
end
end Mi
namespace So
open PySem PySem.W PyProof.Rows
variable{n:Nat}{cmp:Nat->Nat->Bool}
end So
namespace Mi
open PySem L2 PySem.Spec PyProof.Rows
section
variable{X:Cx}{G:Gx}{F:Fy}{e:bh}
def zaD{ρ:Nat->Addr}{H:Hp}{σv tv:List (Option V)}{s:Stt}{l:Nat}{ks ds:List D}{v:V}{xs:List V}(M:MR G F.toFx ρ H σv tv s)(h:RD G ρ H (.dct l ks ds) v)(r:RDs G ρ H ds xs)(lb: ∀j∈labs (.dct l ks ds),j<s.n):l∉qq ds:=λhl=>by
 have e0:v= .ref (ρ l):=by erw[RD] at h;exact h.1
 subst e0
 have:=findL_some l ds xs r hl
 cases e:findL l ds with
 |none=>rw[e] at this;cases this
 |some d=>
  obtain⟨q1,q2⟩:=findL_rd l ds xs d r e
  have e2:=RD.uniq M.kd M.inj _ _ _ q1 h (λj hj=>lb j (by erw[labs];exact i5 _ (i4 _ (q2 j hj)))) lb
  have e3:=findL_sz l ds d e
  rw[e2] at e3
  erw[sz] at e3
  lia
theorem z5l{j:Nat}: ∀{ds:List D},j∈qq ds->∃d∈ds,j∈labs d
 |[],h=>by erw[qq] at h;cases h
 |d::ds,h=>by
  erw[qq] at h
  rcases i9.mp h with q|q
  .exact⟨d,l5 ..,q⟩
  .obtain⟨e,he,hj⟩:=z5l q
   exact⟨e,i5 _ he,hj⟩
def z8W{ks vs:List D}{k:NK}{v:D}{j:Nat}(h:j∈qq (z1K ks vs k v)):j∈labs v\/j∈qq vs:=by
 obtain⟨d,hd,hj⟩:=z5l h
 delta z1K at hd
 split at hd
 .obtain⟨i,hi,e⟩:=E4 hd
  rw[O2] at e
  subst e
  split at hj
  .exact .inl hj
  .exact .inr (G5 (C3 _) j hj)
 .rcases i9.mp hd with q|q
  .exact .inr (G5 q j hj)
  .rw[m4.mp q] at hj;exact .inl hj
noncomputable def z5Z(o i v:D):MS:=λs=>match o with
 | .dct l ks vs=>match z1S i with
  |some k=>if isT ks=true/\ks.length<qh/\l∉labs v then .nx (s.put l (.dct l (z4f ks k) (z1K ks vs k v))) else .no
  |none=> .no
 |_=> .no
def zaE{ρ:Nat->Addr}{s:Stt}{t1 t2 t3:D}{v o i:V}{H:Hp}{σv tv:List (Option V)}{Dd:Ends}(M:MRL G F.toFx ρ H σv tv s [t1,t2,t3] [v,o,i])(W:wS G F tv (z5Z t2 t3 t1 s) Dd): ∃a H4,o= .ref a/\z7F H a i v H4/\Dd.nx σv H4:=by
 have h:=M.rd
 erw[RDs] at h
 obtain⟨_,_,e,h1,_,_,e2,h2,_,_,e3,h3,_⟩:=h
 cases e;cases e2;cases e3
 have b1:LB F.toFx ρ s.n (labs t1):=λl h=>M.lb l (by erw[qq];exact i7 _ h)
 have b2:LB F.toFx ρ s.n (labs t2):=λl h=>M.lb l (by erw[qq];exact i4 _ (i7 _ h))
 delta z5Z at W
 cases t2 with
 |dct l ks vs=>
  dsimp only at W
  cases ek:z1S t3 with
  |none=>rw[ek] at W;exact False.elim W
  |some k=>
   rw[ek] at W
   dsimp only at W
   by_cases hc:isT ks=true/\ks.length<qh/\l∉labs t1
   .rw[qw hc] at W
    obtain⟨hT,hz,hv⟩:=hc
    have h2':=h2
    obtain⟨rfl,kvs,hx,rfl,r⟩:=h2.dctq hT
    have ns:=zaD M.m h2' r λj hj=>(b2 j hj).1
    obtain⟨b,rfl,hb,_⟩:=z36 h3 ek
    have bl:=b2 l (by erw[labs];exact l5 ..)
    have bv:LB F.toFx ρ s.n (qq vs):=λj hj=>b2 j (by erw[labs];exact i5 _ (i4 _ hj))
    have st:v6 H (upd H (ρ l) (.dT (z2z kvs k v))):=
     ⟨λb ys q=>by rw[Z7 (z0j q hx (by intro z;cases z))];exact q,λb o u q=>by rw[Z7 (z0j q hx (by intro z;cases z))];exact q⟩
    have pr:=zbO (k:=k) h1 r
    have lbp: ∀j∈qq (z1K (kvs.map λp=>dkD p.1) vs k t1),(j<s.n/\(F.A0 (ρ j)\/F.H0 (ρ j)=none))/\j≠l:=λj hj=>by
     rcases z8W hj with q|q
     .exact⟨b1 j q,λz=>hv (z▸q)⟩
     .exact⟨bv j q,λz=>ns (z▸q)⟩
    refine⟨ρ l,_,rfl,z7F.t hx hb (by simpa using hz),W ρ σv _ (M.m.put2 bl.1 bl.2 st (z34 M.m.kd hx) ?_ λj hj=> ?_)⟩
    .erw[RD]
     refine⟨trivial, .inr ⟨z2z kvs k v,Z6,pr.1, ?_⟩⟩
     exact RDs.upd (a:=0) st M.m.inj bl.1 pr.2 λj hj=>⟨(lbp j hj).1.1,(lbp j hj).2⟩
    .erw[labs,pr.1,z4h,A4] at hj
     rcases l6.mp hj with q|q
     .rw[q];exact bl
     .exact(lbp j q).1
   .rw[qy hc] at W;exact False.elim W
 |_=>exact False.elim W
variable{tg iter:bh}{pos:bT}
noncomputable def tSx(G:Gx)(mb:MS):TS:=λD σ H=> ∃F:Fy,tS G F mb D σ H
end
end Mi
namespace My
open PySem L2 PySem.Spec PyProof.Rows Mi
@[irreducible] noncomputable def SE(X:Cx)(G:Gx)(F:Fy)(e:bh)(m:M D):Prop:=Mi.SE X G F e m
def eSE(X:Cx)(G:Gx)(F:Fy)(e:bh)(m:M D):SE X G F e m=Mi.SE X G F e m:=by delta SE;rfl
@[irreducible] noncomputable def SA(X:Cx)(G:Gx)(F:Fy)(e:List bh)(m:M (List D)):Prop:=Mi.SA X G F e m
def eSA(X:Cx)(G:Gx)(F:Fy)(e:List bh)(m:M (List D)):SA X G F e m=Mi.SA X G F e m:=by delta SA;rfl
@[irreducible] noncomputable def SB(X:Cx)(G:Gx)(F:Fy)(e:bh)(m:M Bool):Prop:=Mi.SB X G F e m
def eSB(X:Cx)(G:Gx)(F:Fy)(e:bh)(m:M Bool):SB X G F e m=Mi.SB X G F e m:=by delta SB;rfl
@[irreducible] noncomputable def SW(X:Cx)(G:Gx)(F:Fy)(e:bh)(m:M Bool):Prop:=Mi.SW X G F e m
def eSW(X:Cx)(G:Gx)(F:Fy)(e:bh)(m:M Bool):SW X G F e m=Mi.SW X G F e m:=by delta SW;rfl
@[irreducible] noncomputable def SS(X:Cx)(G:Gx)(F:Fy)(e:Stmt)(m:MS):Prop:=Mi.SS X G F e m
def eSS(X:Cx)(G:Gx)(F:Fy)(e:Stmt)(m:MS):SS X G F e m=Mi.SS X G F e m:=by delta SS;rfl
@[irreducible] noncomputable def SSs(X:Cx)(G:Gx)(F:Fy)(e:List Stmt)(m:MS):Prop:=Mi.SSs X G F e m
def zhw(X:Cx)(G:Gx)(F:Fy)(e:List Stmt)(m:MS):SSs X G F e m=Mi.SSs X G F e m:=by delta SSs;rfl
@[irreducible] noncomputable def SG(X:Cx)(G:Gx)(F:Fy)(e:bh)(m:Tg):Prop:=Mi.SG X G F e m
def eSG(X:Cx)(G:Gx)(F:Fy)(e:bh)(m:Tg):SG X G F e m=Mi.SG X G F e m:=by delta SG;rfl
@[irreducible] noncomputable def SGs(X:Cx)(G:Gx)(F:Fy)(e:List bh)(m:List Tg):Prop:=Mi.SGs X G F e m
def zhx(X:Cx)(G:Gx)(F:Fy)(e:List bh)(m:List Tg):SGs X G F e m=Mi.SGs X G F e m:=by delta SGs;rfl
@[irreducible] noncomputable def SI(X:Cx)(G:Gx)(F:Fy)(tg e:bh)(m:M ItK):Prop:=Mi.SI X G F tg e m
def eSI(X:Cx)(G:Gx)(F:Fy)(tg e:bh)(m:M ItK):SI X G F tg e m=Mi.SI X G F tg e m:=by delta SI;rfl
@[irreducible] noncomputable def SO(X:Cx)(G:Gx)(F:Fy)(e:Option bh)(m:Option (M D)):Prop:=Mi.SO X G F e m
def eSO(X:Cx)(G:Gx)(F:Fy)(e:Option bh)(m:Option (M D)):SO X G F e m=Mi.SO X G F e m:=by delta SO;rfl
@[irreducible] noncomputable def STs(X:Cx)(G:Gx)(F:Fy)(e:List bh)(m:M Bool):Prop:=Mi.STs X G F e m
def zbR(X:Cx)(G:Gx)(F:Fy)(e:List bh)(m:M Bool):STs X G F e m=Mi.STs X G F e m:=by delta STs;rfl
local macro_rules | `(tactic| walk_at "go") => `(tactic| (simp only [eSE, eSA, eSB, eSW, eSS, zhw, eSG, zhx, eSI, eSO, zbR] at *))
section
variable{X:Cx}{G:Gx}{F:Fy}{e a b c:bh}{pos:bT}
def zgc(i:Nat){x:Str}(hk:X.K=G.K)(h:PE X (.Name x pos) (zhz i)):SE X G F (.Name x pos) (Z0 i):=by
 walk_at "go"
 refine PE.imp hk h ?_
 rintro σ H Q ⟨tv,hs,ρ,s,M,W⟩
 delta Z0 at W
 cases e:s.σ[i]? with
 |none=>rw[e] at W;exact W.elim
 |some o=>
  cases o with
  |none=>rw[e] at W;exact W.elim
  |some t=>
   rw[e] at W
   obtain⟨v,h1,h2⟩:=M.sl.get i t e
   refine⟨v,h1,λ_=>W ρ v H ⟨M,RDs.one h2,λl hl=> ?_⟩⟩
   erw[qq,l4] at hl
   have:=z1G e l hl
   exact⟨M.lab l (i7 _ this),M.own l (i7 _ this)⟩
def ziq{d:D}{v:V}(hk:X.K=G.K)(h:PE X e (tC v))(hd:cV d=some v:=by rfl):SE X G F e (mC d):=by
 walk_at "go"
 refine PE.imp hk h λ σ H Q ⟨tv,hs,ρ,s,M,W⟩ _=>W ρ v H ⟨M,RDs.one (zal hd).1,λl hl=> ?_⟩
 erw[qq,(zal (G:=G) (ρ:=ρ) (H:=H) hd).2] at hl
 cases hl
def V5:SO X G F none none:=by
 walk_at "go"
 intro qx s σ H Q I ⟨tv,hs,ρ,ms,M,W⟩
 exact zcu qx s σ H Q I (W ρ H M)
def U9{m:M D}(h:SE X G F e m):SO X G F (some e) (some m):=by
 walk_at "go"
 intro qx s σ H Q I ⟨tv,hs,ρ,ms,M,W⟩
 refine zcv h qx s σ H Q I ⟨tv,hs,ρ,ms,M, ?_⟩
 erw[z3v,bd] at W
 cases e1:m ms with
 |ok d s1=>
  rw[e1] at W
  intro ρ' v H' M'
  cases d with
  |int i=>
   have h:=M'.rd1
   erw[RD] at h
   exact⟨i,h,W ρ' H' M'.m⟩
  |_=>exact False.elim W
 |ex d s1=>rw[e1] at W;exact W
 |no=>rw[e1] at W;exact W
def G3{lo hi:Option bh}{p2:bT}{m:M D}{ml mh:Option (M D)}(hk:X.K=G.K)(he:SE X G F e m)(hl:SO X G F lo ml)(hh:SO X G F hi mh):SE X G F (.Subscript e (.Slice lo hi none p2) pos) (mSl m ml mh):=by
 walk_at "go"
 refine PE.imp hk (za2 (r:=λx lo hi H Q=>zif X.K x lo hi H Q\/zhV X.K x lo hi H Q) (SlR.or zcN zcA) he hl hh) λ σ H Q ⟨tv,h⟩=>⟨tv, ?_⟩
 obtain⟨hs,ρ,s,M,W⟩:=zaj h
 refine⟨hs,ρ,s,M,W.mono λv H1 ⟨ρ1,s1,t,M1,W1⟩=>⟨some v::tv,z8C hs,ρ1,s1.psh t,M1.push, ?_⟩⟩
 erw[bd,psh] at W1
 cases e1:z3v ml (s1.psh t) with
 |ex d s2=>rw[e1] at W1;exact W1
 |no=>rw[e1] at W1;exact W1
 |ok l s2=>
  rw[e1] at W1
  intro ρ2 H2 M2
  refine⟨some v::tv,z8C hs,ρ2,s2,M2, ?_⟩
  dsimp only at W1
  cases e2:z3v mh s2 with
  |ex d s3=>rw[e2] at W1;exact W1
  |no=>rw[e2] at W1;exact W1
  |ok h s3=>
   rw[e2] at W1
   intro ρ3 H3 M3
   erw[pop] at W1
   cases e3:s3.tm with
   |nil=>rw[e3] at W1;exact W1.elim
   |cons o r=>
    cases o with
    |none=>rw[e3] at W1;exact W1.elim
    |some t'=>
     rw[e3] at W1
     have M4:MRL G F.toFx ρ3 H3 σ tv {s3 with tm:=r} [t'] [v]:=MRL.down (ts:=[]) (vs:=[]) ⟨M3,rfl,λl h=>by simp[qq] at h⟩ e3
     rw[hk]
     exact zim M4 W1
def Q5{es:List bh}{ms:List (M D)}{x1}(hk:X.K=G.K)(h:SA X G F es (Q2 ms)):SE X G F (.Tuple es x1 pos) (mCB ms U1):=by
 walk_at "go"
 exact PE.imp hk (zeL h) λ_ _ _ h=>z2B zfB h
def J0{es:List bh}{ms:List (M D)}(hk:X.K=G.K)(h:SA X G F es (Q2 ms)):SE X G F (.List es pos) (mCB ms lstM):=by
 walk_at "go"
 exact PE.imp hk (zeM h) λ_ _ _ h=>z2B zfC h
def z0F{m:M D}(hk:X.K=G.K)(ha:SE X G F a m)(he: ∀whole,fw a X.env whole=(do let v<-whole;standAt a.pos;dU [v] (truthy v)):=by intro _;rfl):SB X G F a (z0T m):=by
 walk_at "go"
 refine PT.imp hk (z9Z ha he) λ σ H Q h=> ?_
 rw[hk]
 obtain⟨tv,h'⟩:=zam h
 exact⟨tv,h'.mono λv H1 ⟨k,q1,q2⟩=>⟨k,q1,λ_=>q2⟩⟩
def SW.sb{m:M Bool}(h:SW X G F e m):SB X G F e m:=by
 walk_at "go"
 exact PW.pt h
def z38{m:M Bool}(h:SB X G F a m):SW X G F (.BoolOp .And [a] pos) m:=by
 walk_at "go"
 exact zch h
def z6M{m:M Bool}(h:SB X G F a m):SW X G F (.BoolOp .Or [a] pos) m:=by
 walk_at "go"
 exact zev h
def z5m{rest:List bh}{m m':M Bool}(ha:SB X G F a m)(hb:SW X G F (.BoolOp .And (b::rest) pos) m'):SW X G F (.BoolOp .And (a::b::rest) pos) (z7G m m'):=by
 walk_at "go"
 refine PW.imp0 (zew ha hb) λ σ H Q ⟨tv,h⟩=>⟨tv,(zd4 h).mono λb H1 ⟨ρ1,s1,M1,W⟩=> ?_⟩
 cases b with
 |true=>rw[qw rfl];exact⟨tv,h.1,ρ1,s1,M1,W⟩
 |false=>rw[qy A5];exact W ρ1 H1 M1
def z8X{rest:List bh}{m m':M Bool}(ha:SB X G F a m)(hb:SW X G F (.BoolOp .Or (b::rest) pos) m'):SW X G F (.BoolOp .Or (a::b::rest) pos) (mOr m m'):=by
 walk_at "go"
 refine PW.imp0 (zhA ha hb) λ σ H Q ⟨tv,h⟩=>⟨tv,(zd4 h).mono λb H1 ⟨ρ1,s1,M1,W⟩=> ?_⟩
 cases b with
 |true=>rw[qw rfl];exact W ρ1 H1 M1
 |false=>rw[qy A5];exact⟨tv,h.1,ρ1,s1,M1,W⟩
def z6N{m:M Bool}(ha:SB X G F a m):SB X G F (.UnaryOp .Not a pos) (z9K m):=by
 walk_at "go"
 refine PT.imp0 (zex ha) λ σ H Q ⟨tv,h⟩=>⟨tv,(zd4 h).mono λb H1 ⟨ρ1,s1,M1,W⟩=>W ρ1 H1 M1⟩
def zgd{op}{m:M D}(h:SE X G F a m):SE X G F (.BoolOp op [a] pos) m:=by
 walk_at "go"
 exact zey h
def zge{rest:List bh}{m m':M D}(ha:SE X G F a m)(hb:SE X G F (.BoolOp .And (b::rest) pos) m'):SE X G F (.BoolOp .And (a::b::rest) pos) (z8I m m'):=by
 walk_at "go"
 refine PE.imp0 (zez ha hb) λ σ H Q h=>(zfE h).mono λx H1 ⟨k,e,ρ1,s1,tv,hs,M1,W⟩=>⟨k,e, ?_⟩
 cases k with
 |true=>rw[qw rfl];exact⟨tv,hs,ρ1,s1,M1,W⟩
 |false=>rw[qy A5];exact W.flat M1 rfl
def zgf{p:bT}{x y:bh}{T:String}{m:M D}(hk:X.K=G.K)(hT:T= "int" \/T= "bool" \/T= "tuple" \/T= "list" \/T= "str")(hgl:Gl X "isinstance")(hm:X.mg "isinstance" =none)(ha:SE X G F x m)(hy:PE X y (tC (.ty T)))
 (he:bj [x,y] X.env=(false,bF x X.env)::bj [y] X.env:=by rfl) (he2:bj [y] X.env=(false,bF y X.env)::bj [] X.env:=by rfl) (hpl:(bN pos (bj [y] X.env)).any (·.1)=false:=by rfl):SE X G F (.Call (.Name "isinstance" p) [x,y] [] pos) (zfL T m):=by
 walk_at "go"
 refine PE.imp hk (z6t zae hgl hm PyProof.Rows.Boot.«isinstance» (z5G ha (z5G hy zbl he2) he) (by decide) (by decide) he hpl) λ σ H Q ⟨tv,h⟩=>⟨tv,(zaj h).mono λv H1 ⟨ρ1,s1,t,M1,W⟩=> ?_⟩
 cases e:isiD T t with
 |none=>erw[e] at W;exact False.elim W
 |some b=>
  erw[e] at W
  rw[hk]
  exact⟨v,T,b,rfl,hT,zfM M1.rd1 e,λ_=>W.flat M1.m rfl⟩
variable{st:Stmt}{sts rest:List Stmt}
def k8:SSs X G F [] sNx:=by
 walk_at "go"
 exact PSs.imp0 zci λD σ H ⟨tv,hs,ρ,s,M,W⟩=>W ρ σ H M
def Z1{m m':MS}(h1:SS X G F st m)(h2:SSs X G F rest m'):SSs X G F (st::rest) (Y2 m m'):=by
 walk_at "go"
 refine PSs.imp0 (z9T h1 h2) λD σ H ⟨tv,hs,ρ,s,M,W⟩=>⟨tv,hs,ρ,s,M, ?_⟩
 delta Y2 at W
 cases e:m s with
 |nx s'=>rw[e] at W;exact λ ρ' σv' H' M'=>⟨tv,hs,ρ',s',M',W⟩
 |rt d s'=>rw[e] at W;exact W
 |bk s'=>rw[e] at W;exact W
 |ct s'=>rw[e] at W;exact W
 |ex d s'=>rw[e] at W;exact W
 |no=>rw[e] at W;exact W
def Y1{m:MS}(h1:SS X G F st m):SSs X G F [st] m:=by
 walk_at "go"
 exact zcj h1
def V6{m:M D}(he:SE X G F e m)(hs:ca e none pos.line X.env=pure false:=by rfl):SS X G F (.Expr e pos) (v3 m):=by
 walk_at "go"
 exact PS.imp0 (zck he hs) λD σ H ⟨tv,h⟩=>⟨tv,(z0D h).mono λv H1 ⟨ρ1,s1,t,M1,W⟩=>W ρ1 σ H1 M1.m⟩
def J4{m:M D}(he:SE X G F e m):SS X G F (.Return (some e) pos) (z0y m):=by
 walk_at "go"
 exact PS.imp0 (zeA he) λD σ H ⟨tv,h⟩=>⟨tv,(z0D h).mono λv H1 ⟨ρ1,s1,t,M1,W⟩=>W ρ1 σ v H1 M1⟩
def z12{x y:List Stmt}{mc:M Bool}{m m':MS}(hc:SB X G F c mc)(ha:SSs X G F x m)(hb:SSs X G F y m'):SS X G F (.If c x y pos) (sIf mc m m'):=by
 walk_at "go"
 refine PS.imp0 (zhE hc ha hb) λD σ H ⟨tv,h⟩=>⟨tv,(z5c h).mono λk H1 ⟨ρ1,s1,M1,W⟩=> ?_⟩
 cases k with
 |true=>rw[qw rfl];exact⟨tv,h.1,ρ1,s1,M1,W⟩
 |false=>rw[qy A5];exact⟨tv,h.1,ρ1,s1,M1,W⟩
def v0{i:Nat}{x:Str}{p:bT}(h:PG X (.Name x p) (z9U i)):SG X G F (.Name x p) (.nm i):=by
 walk_at "go"
 intro qx s σ H v u Q I r ⟨tv,ρ,ms,t,M,σ',e,k⟩
 erw[asg,Option.some.injEq] at e
 subst e
 exact h qx s σ H v u Q I r (k _ (M.setS i).m)
def u0:SGs X G F [] []:=by
 walk_at "go"
 intro qx s σ H vs us Q I r ⟨tv,ρ,ms,ts,M,σ',e,k⟩
 cases ts with
 |nil=>
  erw[asgL,Option.some.injEq] at e
  subst e
  have h:=M.rd
  erw[RDs] at h
  exact zcl qx s σ H vs us Q I r ⟨h,k _ M.m⟩
 |cons d ds=>erw[asgL] at e;cases e
def Z4{es:List bh}{g:Tg}{gs:List Tg}(h1:SG X G F e g)(h2:SGs X G F es gs)(hs:(bx (e::es) X.env).map (·.2)=cr e X.env::(bx es X.env).map (·.2):=by rfl):SGs X G F (e::es) (g::gs):=by
 walk_at "go"
 refine PGs.imp0 (z9V h1 h2 hs) ?_
 rintro vs σv H Q ⟨tv,ρ,s,ts,M,σ',e,k⟩
 cases ts with
 |nil=>erw[asgL] at e;cases e
 |cons d ds=>
  erw[asgL] at e
  cases e1:asg g d s.σ with
  |none=>rw[e1] at e;cases e
  |some σ1=>
   rw[e1] at e
   obtain⟨v,r,rfl,M1,h2,lb⟩:=M.cons_inv
   exact⟨v,r,rfl,tv,ρ,s,d,M1,σ1,e1,λ σv1 M2=>⟨tv,ρ,{s with σ:=σ1},ds,⟨M2,h2,lb⟩,σ',e,k⟩⟩
def X0{es:List bh}{k:Nat}{gs:List Tg}(hk:X.K=G.K)(hc:X.calm=true)(h:SGs X G F es gs)(hn:(bx es X.env).length=gs.length:=by rfl)(hst:(bx es X.env).findIdx? (·.1)=none:=by rfl):SG X G F (.Tuple es k pos) (.tp gs):=by
 walk_at "go"
 refine PG.imp0 (zfq hc h hn hst) ?_
 rintro v σv H Q ⟨tv,ρ,s,t,M,σ',e,kk⟩
 have len: ∀{gs:List Tg} {ds:List D} {σ σ':Qq},asgL gs ds σ=some σ'->ds.length=gs.length:=by
  intro gs
  induction gs with
  |nil=>intro ds σ σ' e;cases ds with
   |nil=>rfl
   |cons _ _=>erw[asgL] at e;cases e
  |cons g gs ih=>intro ds σ σ' e;cases ds with
   |nil=>erw[asgL] at e;cases e
   |cons d ds=>
    erw[asgL] at e
    cases e1:asg g d σ with
    |none=>rw[e1] at e;cases e
    |some σ1=>rw[e1] at e;rw[o0,o0,ih e]
 cases t with
 |tup ds=>
  erw[asg] at e
  obtain⟨a,xs,rfl,sq,r⟩:=M.rd1.tupq
  refine⟨a,xs,rfl, .inl (hk▸sq),by rw[<-r.length];exact len e,tv,ρ,s,ds,⟨M.m,r,λl h=>M.lb1 l (by erw[labs];exact h)⟩,σ',e,kk⟩
 |lst l ds=>
  erw[asg] at e
  obtain⟨a,xs,rfl,sq,r,sub⟩:=M.rd1.lstq (ds:=ds) rfl
  refine⟨a,xs,rfl, .inr (hk▸sq),by rw[<-r.length];exact len e,tv,ρ,s,ds,⟨M.m,r,λl h=>M.lb1 l (sub l h)⟩,σ',e,kk⟩
 |_=>erw[asg] at e;cases e
def z1M{tg:bh}{g:Tg}{m:M D}(he:SE X G F e m)(hg:SG X G F tg g)(hs:dg [tg] e pos.line X.env=pure false:=by rfl)(hw:dh [tg] e X.env=pure none:=by rfl)
 (h1:(bx [tg] X.env).map (·.2)=[cr tg X.env]:=by rfl):SS X G F (.Assign [tg] e pos) (W3 g m):=by
 walk_at "go"
 refine PS.imp0 (zbh he hg hs hw h1) λD σ H ⟨tv,h⟩=>⟨tv,(z0D h).mono λv H1 ⟨ρ1,s1,t,M1,W⟩=> ?_⟩
 cases e:asg g t s1.σ with
 |none=>erw[e] at W;exact False.elim W
 |some σ'=>
  erw[e] at W
  exact⟨tv,ρ1,s1,t,M1,σ',e,λ σv' M2=>W ρ1 σv' H1 M2⟩
def z2i{i:Nat}{x:Str}{p:bT}{m:M D}(h: ∀{te:TE},PE X e te->PS X (.Assign [.Name x p] e pos) (zhH te (z9U i)))(he:SE X G F e m):SS X G F (.Assign [.Name x p] e pos) (W3 (.nm i) m):=by
 walk_at "go"
 refine PS.imp0 (h he) λD σ H ⟨tv,h⟩=>⟨tv,(z0D h).mono λv H1 ⟨ρ1,s1,t,M1,W⟩=> ?_⟩
 erw[asg] at W
 exact W ρ1 _ H1 (M1.setS i).m
def z1N{body:List Stmt}{mc:M Bool}{mb:MS}{fuel:Stt->Nat}(hp:cX (bi X.prog X.w) X.A X.env X.xe)(hc:SB X G F c mc)(hb:SSs X G F body mb):SS X G F (.While c body [] pos) (z1H fuel mc mb):=by
 walk_at "go"
 refine PS.imp0 (z9W hp hc hb) ?_
 rintro D σ H ⟨tv,hs,ρ,s,M,W⟩
 refine⟨λm σ H=>tSv G F (G9 mc mb m) tv D σ H,⟨fuel s,hs,ρ,s,M,W⟩,λm σ H h=> ?_⟩
 cases m with
 |zero=>obtain⟨_,_,_,_,W⟩:=h;exact False.elim W
 |succ f=>
  refine⟨tv,(z5c h).mono λk H1 ⟨ρ1,s1,M1,W1⟩=> ?_⟩
  cases k with
  |false=>rw[qy A5];exact W1 ρ1 σ H1 M1
  |true=>
   rw[qw rfl]
   refine⟨λ σ' H'=>tSv G F (G9 mc mb f) tv D σ' H',λ σ' H' q=>⟨f,B0 _,q⟩,tv,hs,ρ1,s1,M1, ?_⟩
   erw[zbH] at W1
   cases e:mb s1 with
   |nx s'=>rw[e] at W1;exact λ ρ' σv' H' M'=>⟨hs,ρ',s',M',W1⟩
   |ct s'=>rw[e] at W1;exact λ ρ' σv' H' M'=>⟨hs,ρ',s',M',W1⟩
   |bk s'=>rw[e] at W1;exact W1
   |rt d s'=>rw[e] at W1;exact W1
   |ex d s'=>rw[e] at W1;exact W1
   |no=>rw[e] at W1;exact W1
variable{tg iter:bh}
def z1q{m:M D}(hk:X.K=G.K)(h:SE X G F e m):SI X G F tg e (v4 m):=by
 walk_at "go"
 refine PI.imp0 (zfQ h) λ σ H R ⟨tv,hs,ρ,s,M,W⟩=>⟨tv,hs,ρ,s,M, ?_⟩
 unfold v4 bd at W
 cases e:m s with
 |ex d s1=>rw[e] at W;exact W
 |no=>rw[e] at W;exact W
 |ok t s1=>
  rw[e] at W
  intro ρ1 v H1 M1
  rw[hk]
  cases t with
  |tup ds=>
   obtain⟨a,xs,rfl,sq,r⟩:=M1.rd1.tupq
   exact⟨a,rfl, .inr ⟨⟨xs,sq⟩,W ρ1 H1 [some (.ref a)] _ rfl M1.push zap⟩⟩
  |lst n ds=>
   obtain⟨a,xs,rfl,sq,r,_⟩:=M1.rd1.lstq (ds:=ds) rfl
   exact⟨a,rfl, .inl ⟨⟨xs,sq⟩,W ρ1 H1 [some (.ref a)] _ rfl M1.push z6E⟩⟩
  |ro ds=>
   obtain⟨a,xs,rfl,sq,r,_⟩:=M1.rd1.lstq (ds:=ds) rfl
   exact⟨a,rfl, .inl ⟨⟨xs,sq⟩,W ρ1 H1 [some (.ref a)] _ rfl M1.push z6E⟩⟩
  |_=>exact False.elim W
def z01{p:bT}{ms:List (M D)}(hg:Gl X "range")(hm:X.mg "range" =none)(ha:SA X G F [a] (Q2 ms))(hs:bj [a] X.env=[(false,bF a X.env)]:=by rfl):SI X G F tg (.Call (.Name "range" p) [a] [] pos) (V4 ms):=by
 walk_at "go"
 refine PI.imp0 (z7T hg hm ha hs) λ σ H R ⟨tv,hs,ρ,s,M,W⟩=>⟨tv,hs,ρ,s,M, ?_⟩
 unfold V4 bd at W
 cases e:Q2 ms s with
 |ex d s1=>rw[e] at W;exact W
 |no=>rw[e] at W;exact W
 |ok ts s1=>
  rw[e] at W
  intro ρ1 vs H1 M1
  unfold zfR at W
  dsimp only at W
  split at W
  .rename_i ts' j K s' hh
   split at hh
   .split at hh
    .rename_i j' hc
     cases hh
     obtain⟨v,rfl,h,_⟩:=M1.one
     erw[RD] at h
     subst h
     exact⟨j',rfl,hc.1,hc.2,W ρ1 H1 [] _ rfl M1.m zaq⟩
    .cases hh
   .cases hh
  .rename_i hh
   split at hh
   .split at hh<;>cases hh
   .cases hh
  .exact False.elim W
def z0d{body:List Stmt}{mi:M ItK}{g:Tg}{mb:MS}(hp:cX (bi X.prog X.w) X.A X.env X.xe)(hc:X.calm=true)(hi:SI X G F tg iter mi)(hg:SG X G F tg g)(hb:SSs X G F body mb)(hst: ∀x,bw iter X.env x=pure x:=by intro _;rfl):SS X G F (.For tg iter body [] pos) (z1p mi g mb):=by
 walk_at "go"
 refine PS.imp0 (zbi hp hc hi hg hb hst) λD σ H ⟨tv,h⟩=>z8J h λK ρ' H' tvs J s' hl M' hok W=> ?_
 have hs:=h.1
 refine⟨λi m σ H=> ∃ρ s,MR G F.toFx ρ H σ (tvs++tv) s/\wS G F tv (forGo K g mb m i s) D,⟨_,ρ',s',M',W⟩, ?_⟩
 rintro i m σ H ⟨ρ,s,M,W⟩
 have ok:=hok F.toFx ρ H σ [] tv s i M
 erw[C0,N3,A4] at ok
 unfold forGo at W
 cases e:K.at' i s.tm with
 |none=>erw[e] at W;exact False.elim W
 |some o=>
  cases o with
  |none=>
   erw[e] at W ok
   refine .inl ⟨ok,W ρ σ H ?_⟩
   rw[<-hl]
   exact M.popn
  |some d=>
   erw[e] at W ok
   cases m with
   |zero=>exact False.elim W
   |succ f=>
    dsimp only at W
    cases e2:asg g d s.σ with
    |none=>erw[e2] at W;exact False.elim W
    |some σ'=>
     erw[e2] at W
     refine .inr ⟨ok.1,λ σ H=> ∃ρ s,MR G F.toFx ρ H σ (tvs++tv) s/\wS G F tv (forGo K g mb f (i+1) s) D,λ σ' H' q=>⟨f,B0 _,q⟩,λx H2 y=> ?_⟩
     refine⟨tvs++tv,ρ,s,d,ok.2 x H2 y,σ',e2,λ σv' M2=>⟨tvs++tv,zk0 hs,ρ,_,M2, ?_⟩⟩
     cases e3:mb {s with σ:=σ'} with
     |nx s2=>erw[e3] at W;exact λ ρ3 σ3 H3 M3=>⟨ρ3,s2,M3,W⟩
     |ct s2=>erw[e3] at W;exact λ ρ3 σ3 H3 M3=>⟨ρ3,s2,M3,W⟩
     |bk s2=>erw[e3] at W;exact λ ρ3 σ3 H3 M3=>W ρ3 σ3 H3 (by rw[<-hl];exact M3.popn)
     |rt t s2=>erw[e3] at W;exact λ ρ3 σ3 v H3 M3=>W ρ3 σ3 v H3 (by rw[<-hl];exact M3.popn)
     |ex d s2=>erw[e3] at W;exact W
     |no=>erw[e3] at W;exact W
variable{elt:bh}
def z14:STs X G F [] (rt true):=by
 walk_at "go"
 exact λqx s σ H Q I ⟨tv,hs,ρ,ms,M,W⟩=>zcQ qx s σ H Q I (W ρ H M)
def zdh{m:M Bool}(h:SB X G F c m):STs X G F [c] m:=by
 walk_at "go"
 exact zcR h
variable{ρ:Nat->Addr}{H:Hp}
section
variable(k:KD G.K H){n:Nat}(inj: ∀i j,i<n->j<n->ρ i=ρ j->i=j)
include k inj
end
variable{ρ':Nat->Addr}{H':Hp}
section
variable(k:KD G.K H){n:Nat}(inj: ∀i j,i<n->j<n->ρ i=ρ j->i=j){ts:List D}{vs:List V}(r:RDs G ρ H ts vs)(lb: ∀l∈qq ts,l<n)
include k inj r lb
end
variable{F:Fy}{σv tv:List (Option V)}{s:Stt}{np:Nat}
def zdi{X:Cx}{e:bh}{es:List bh}{pos p:bT}{CX:CXT}{k:Nat}{fa:Addr}{fd:bB}{ps:List Str}{x:Str}{E:XK}{f:FM}{ms:List (M D)}(hk:X.K=G.K)(Fn:z0W X.prog X.w X.K X.mg X.base CX k fa fd ps (spM G ps.length f))(hr:z3t k X.A)(hg:Gl X x)(hm:X.mg x=some (.ref fa))(hkp:W.keepIn X.K (.ref fa)=true)(hb:z5H X.K fd ps [])(hx:z4O CX X E)
 (ha:SA X G F (e::es) (Q2 ms)) (hln:ms.length=ps.length) (hdb:(x==("__debug__" :Str))=false:=by decide) (he:bj (e::es) X.env=(false,bF e X.env)::bj es X.env:=by rfl) (hpl:(bN pos (bj es X.env)).any (·.1)=false:=by rfl):
 SE X G F (.Call (.Name x p) (e::es) [] pos) (Z8 f ms):=by
 walk_at "go"
 refine PE.imp0 (zcs Fn hr hg hm hkp hb .nil hx ha hdb he hpl) λ σ H Q ⟨tv,hs,ρ,s,M,W⟩=>⟨tv,hs,ρ,s,M, ?_⟩
 delta Z8 bd at W
 cases e1:Q2 ms s with
 |ex d s1=>rw[e1] at W;exact W
 |no=>rw[e1] at W;exact W
 |ok ts s1=>
  rw[e1] at W
  intro ρ1 vs H1 M1
  rw[l4]
  exact z8O (by rw[<-M1.rd.length,z8P ms s ts s1 e1,hln]) M1 W
def zk1{P:bm}{w:bo}{K:W.Frag}{mg:Str->Option bb}{base:Heap}{x qual:Str}{st:Stmt}{fa:Addr}{fd:bB}{N ps:List Str}{k:Nat}{mb:MS}(Fn:Fun K x qual st fa fd)(S:Q6 N ps (Z9 st))(hG:G.K=K)
 (hb: ∀(cdv:bb) (A:bq) (outer:List dn) (s:bf) (H:Hp) (E:XK) (F:Fy),z3t k (A.deeper (envOfC qual (Z9 st) s.heap.objs.size fa cdv))->SSs (zbm CX0 P w K mg base N qual (Z9 st) fa cdv A outer s H E).nox G F (z0k st) mb):
 z0W P w K mg base CX0 (k+1) fa fd ps (spM G ps.length (z33 N.length mb)):=by
 walk_at "go"
 refine Fn.ok S (λvs H Q E h=>h.1) λcdv A outer s H vs Q E hr h=> ?_
 obtain⟨hl,ρ,n,ts,r,inj,dom,lb,kd,W⟩:=h
 refine⟨_,hb cdv A outer s H E (zat G ρ n ts vs H lb dom) hr,vs.map some,List.suffix_refl _,ρ,{σ:=ts.map some++A8 (N.length -ts.length) none,tm:=ts.map some,n:=n}, ?_, ?_⟩
 .obtain⟨r1,r2⟩:=RDs.sl r
  have hlen:=r.length
  have sub: ∀l∈V2 {σ:=ts.map some++A8 (N.length -ts.length) none,tm:=ts.map some,n:=n},l∈qq ts:=λl h=>by
   rcases i9.mp h with h|h
   .have h:l∈Y6 (ts.map some++A8 (N.length -ts.length) none):=h
    rw[Q3] at h
    rcases i9.mp h with h|h
    .rw[<-r2];exact h
    .exact absurd h (z30 _)
   .rw[<-r2];exact h
  refine⟨?_,r1,inj,dom,λl h=>lb l (sub l h),λl h=> .inl ⟨l,sub l h,rfl⟩,λa o e=>⟨⟨o,e⟩,λ_=>e⟩,kd,λl hl z=>z.2 l hl rfl,⟨i8 _,λl _=>rfl⟩⟩
  show Sl G ρ H _ (vs.map some++A8 (N.length -vs.length) none)
  rw[<-hlen]
  exact r1.append (Sl.none_map _)
 .delta z33 at W
  cases e:mb {σ:=ts.map some++A8 (N.length -ts.length) none,tm:=ts.map some,n:=n} with
  |nx s'=>
   erw[e] at W
   cases ea:Q0 s'.tm with
   |none=>erw[ea] at W
   |some ts'=>
    erw[ea] at W
    intro ρ' σv' H' M
    obtain⟨P,_⟩:=z6H inj M ea
    exact W ρ' .non H' P (by erw[RD]) λl h=>by simp[labs] at h
  |rt t s'=>
   erw[e] at W
   cases ea:Q0 s'.tm with
   |none=>erw[ea] at W
   |some ts'=>
    erw[ea] at W
    intro ρ' σv' v H' M
    obtain⟨P,own⟩:=z6H inj M.m ea
    exact W ρ' v H' P M.rd1 λl h=>⟨(M.lb1 l h).1,own l (M.lb1 l h).1 (M.lb1 l h).2⟩
  |bk s'=>erw[e] at W
  |ct s'=>erw[e] at W
  |ex d s'=>
   erw[e] at W
   cases ea:Q0 s'.tm with
   |none=>erw[ea] at W
   |some ts'=>erw[ea] at W
  |no=>erw[e] at W
variable{o:bh}{es:List bh}{apos cpos:bT}
def z8Y{ob ix:bh}{pos tpos:bT}{mo mi me:M D}(he:SE X G F e me)(ho:SE X G F ob mo)(hi:SE X G F ix mi)(hg: ∀{to ti:TE},PE X ob to->PE X ix ti->PG X (.Subscript ob ix tpos) (zjm to ti zcz))(hs:dg [.Subscript ob ix tpos] e pos.line X.env=pure false:=by rfl)(hw:dh [.Subscript ob ix tpos] e X.env=pure none:=by rfl)
 (h1:(bx [.Subscript ob ix tpos] X.env).map (·.2)=[cr (.Subscript ob ix tpos) X.env]:=by rfl):SS X G F (.Assign [.Subscript ob ix tpos] e pos) (z4c me mo mi zd9):=by
 walk_at "go"
 refine PS.imp0 (zbh he (hg ho hi) hs hw h1) ?_
 rintro Dd σ H ⟨tv,h⟩
 exact(z4d h).mono λv H1 h1=>h1.mono λo H2 h2=>h2.mono λi H3 ⟨ρ,s,t1,t2,t3,M,W⟩=>zfW M W
variable{ma mb mc m:M D}
def u1(hk:X.K=G.K)(ha:SE X G F a ma)(hb:SE X G F b mb):SE X G F (.BinOp a .Add b pos) (Z5 ma mb X9):=by
 walk_at "go"
 exact z8E hk (r:=λx y H Q=>rI0 (λi j=> .int (i+j)) x y H Q\/zcO G.K x y H Q\/zhX x y H Q\/∃i j,x= .str i/\y= .str j/\i.length+j.length<=qh/\Q (.str (i++j)) H) (hk▸OpR.or zeF (OpR.or zcP (OpR.or zeS z7a))) zfv ha hb
def z60(hk:X.K=G.K)(ha:SE X G F a ma)(hb:SE X G F b mb):SE X G F (.BinOp a .FloorDiv b pos) (Z5 ma mb z49):=by
 walk_at "go"
 exact z8E hk zcn zcY ha hb
def z0t(hk:X.K=G.K)(ha:SE X G F a ma)(hb:SE X G F b mb):SE X G F (.BinOp a .Mod b pos) (Z5 ma mb z2f):=by
 walk_at "go"
 exact z8E hk zeH zfw ha hb
def z8Z(hk:X.K=G.K)(ha:SE X G F a ma)(hb:SE X G F b mb):SE X G F (.BinOp a .Pow b pos) (Z5 ma mb zbE):=by
 walk_at "go"
 exact z8E hk zeI zfx ha hb
def z3N{op:fe}{g:D->D->M D}(hc:Cm X G F op g)(ha:SE X G F a ma)(hb:SE X G F b mb)(hm:bO op b=false):SE X G F (.Compare a [op] [b] pos) (Z5 ma mb g):=by
 walk_at "go"
 obtain⟨r,h1,h2⟩:=hc.h
 exact zcU h1 h2 ha hb hm
def g0{op:fe}{g:D->D->M D}(hc:Cm X G F op g)(ha:SE X G F a ma)(hb:SE X G F b mb)(hm:bO op b=false):SB X G F (.Compare a [op] [b] pos) (V3 (Z5 ma mb g)):=by
 walk_at "go"
 obtain⟨r,h1,h2⟩:=hc.h
 exact zd3 h1 h2 ha hb hm
def zbS(hk:X.K=G.K)(ha:SE X G F a ma)(hb:SE X G F b mb)(hs:z1T b):SE X G F (.Subscript a b pos) (Z5 ma mb ixD):=by
 walk_at "go"
 exact zig hk (hk▸IxR.or zcy zeQ) zil ha hb hs
def z4k{x:Str}{p:bT}{es:List bh}{ms:List (M D)}{g:List D->M D}{id:String}(hk:X.K=G.K)(hc:Cb X G F (.builtin id) g)(hgl:Gl X x)(hm:X.mg x=none)(hv:bG x=some (.builtin id))(ha:SA X G F (e::es) (Q2 ms))(hn:x≠ "__name__" :=by decide)(hdb:(x==("__debug__" :Str))=false:=by decide)
 (he:bj (e::es) X.env=(false,bF e X.env)::bj es X.env:=by rfl) (hpl:(bN pos (bj es X.env)).any (·.1)=false:=by rfl):SE X G F (.Call (.Name x p) (e::es) [] pos) (mCB ms g):=by
 walk_at "go"
 obtain⟨r,h1,h2⟩:=hc.h
 exact zak hk h1 h2 hgl hm hv ha hn hdb he hpl
def z39{x:Str}{p:bT}{es:List bh}{ms:List (M D)}{g:List D->M D}{T:String}(hk:X.K=G.K)(hc:Cb X G F (.type T) g)(hgl:Gl X x)(hm:X.mg x=none)(hv:bG x=some (.type T))(ha:SA X G F (e::es) (Q2 ms))(hn:x≠ "__name__" :=by decide)(hdb:(x==("__debug__" :Str))=false:=by decide)
 (he:bj (e::es) X.env=(false,bF e X.env)::bj es X.env:=by rfl) (hpl:(bN pos (bj es X.env)).any (·.1)=false:=by rfl):SE X G F (.Call (.Name x p) (e::es) [] pos) (mCB ms g):=by
 walk_at "go"
 obtain⟨r,h1,h2⟩:=hc.h
 exact z8H hk h1 h2 hgl hm hv ha hn hdb he hpl
def z21{name:Str}{id:String}{mo:M D}{ms:List (M D)}{g:D->List D->M D}(hk:X.K=G.K)(slot:Slot "list" name id)(hty:dN (.builtin id)=pure (.type "method_descriptor"))(hm:Cl X G F id g)(ho:SE X G F o mo)(ha:SA X G F (e::es) (Q2 ms))
 (hbase:bP o name X.env (bF o X.env)=bF o X.env:=by rfl)
 (hfew:((bN cpos (bj (e::es) X.env)).all (λx=> !x.1)&&(dH cpos (cC [] X.env)).all (λx=>x.1.isSome)
  &&decide ((e::es).length+([]:List cx).length+(if([]:List cx).isEmpty then 0 else 1)<30))=true:=by rfl)
 (hline:(apos.endLine==cpos.line)=true:=by rfl) (hs:bj (e::es) X.env=(false,bF e X.env)::bj es X.env:=by rfl) (hplain:(bN cpos (bj es X.env)).any (·.1)=false:=by rfl):SE X G F (.Call (.Attribute o name apos) (e::es) [] cpos) (u2 mo ms g):=by
 walk_at "go"
 obtain⟨r,h1,h2⟩:=hm.h
 exact zd8 hk slot hty h1 h2 ho ha hbase hfew hline hs hplain
def zgg{name:Str}{id:String}{mo:M D}{g:D->List D->M D}(hk:X.K=G.K)(slot:Slot "list" name id)(hty:dN (.builtin id)=pure (.type "method_descriptor"))(hm:Cl X G F id g)(ho:SE X G F o mo)
 (hbase:bP o name X.env (bF o X.env)=bF o X.env:=by rfl) (hline:(apos.endLine==cpos.line)=true:=by rfl):SE X G F (.Call (.Attribute o name apos) [] [] cpos) (u2 mo [] g):=by
 walk_at "go"
 obtain⟨r,h1,h2⟩:=hm.h
 exact zav hk slot hty h1 h2 ho hbase hline
def z5n(hk:X.K=G.K)(hu:X.A.units+64<cLine)(ha:SE X G F a ma)(hb:SE X G F b mb)(hs:z1T b):SE X G F (.Subscript a b pos) (Z5 ma mb z2D):=by
 walk_at "go"
 exact PE.imp hk (zcE (show X.A.units+2<cLine by lia) ha hb hs) λ_ _ _ h=>z8F zg3 h
def z90(hk:X.K=G.K):SE X G F (.Dict [] [] pos) z5W:=by
 walk_at "go"
 exact PE.imp hk za6 λ σ H Q ⟨tv,hs,ρ,s,M,W⟩ p hp k=>by
  refine wM.out (ρ:=ext ρ s.n p) W (M.new hp k) ?_ λl hl=> ?_
  .erw[RD]
   rw[G8]
   exact⟨rfl, .inr ⟨[],Z6,rfl,by simp[RDs]⟩⟩
  .erw[labs,qq,l4,m4] at hl
   rw[hl]
   exact⟨B0 _,by rw[G8];exact .inr (M.fresh0 hp)⟩
def z61{ob ix:bh}{pos tpos:bT}{mo mi me:M D}(hu:X.A.units+64<cLine)(he:SE X G F e me)(ho:SE X G F ob mo)(hi:SE X G F ix mi)(hs:ca e (some (.Subscript ob ix tpos)) pos.line X.env=pure false:=by rfl):
 SS X G F (.Assign [.Subscript ob ix tpos] e pos) (z4c me mo mi z20):=by
 walk_at "go"
 refine PS.imp0 (z5L (show X.A.units+2<cLine by lia) ho hi he hs) ?_
 rintro Dd σ H ⟨tv,h⟩
 exact(z4d h).mono λv H1 h1=>h1.mono λo H2 h2=>h2.mono λi H3 ⟨ρ,s,t1,t2,t3,M,W⟩=>zde M W
variable{kx vx:bh}
def zaF{mk mv:M D}(hK:X.K=G.K)(hu:X.A.units+64<cLine)(hk:SE X G F kx mk)(hv:SE X G F vx mv):SE X G F (.Dict [some kx] [vx] pos) (z2h mk mv):=by
 walk_at "go"
 exact PE.imp hK (z8q (show X.A.units+2<cLine by lia) hk hv) λ_ _ _ h=>hK▸zaz h
end
inductive SEs(X:Cx)(G:Gx)(F:Fy):List bh->List (M D)->Prop
 |nil:SEs X G F [] []
 |cons {e:bh} {m:M D} {es:List bh} {ms:List (M D)}:SE X G F e m->nst e=true->SEs X G F es ms->SEs X G F (e::es) (m::ms)
def zk2{X:Cx}{G:Gx}{F:Fy}{es:List bh}{ms:List (M D)}(h:SEs X G F es ms):Mi.SEs X G F es ms:=by
 induction h with
 |nil=>exact .nil
 |cons h n _ ih=>rw[eSE] at h;exact .cons h n ih
def sa_of{X:Cx}{G:Gx}{F:Fy}{es:List bh}{ms:List (M D)}(hk:X.K=G.K)(h:SEs X G F es ms):SA X G F es (Q2 ms):=by
 rw[eSA];exact Mi.sa_of hk (zk2 h)
section
variable{X:Cx}{G:Gx}{F:Fy}{e:bh}{pos pos' tpos:bT}
def zdj{i:Nat}{x:Str}{m:M D}(hN:X.N.Nodup)(hi:X.N[i]? =some x)(hx:Loc X.env.scope x)(hf:X.fn x=true\/X.env.scope.names.lookup x=some .local)(he:SE X G F e m):SS X G F (.AugAssign (.Name x pos') .Add e pos) (z7o i m):=by
 rw[eSS];rw[eSE] at he
 refine PS.imp0 (zeC hN hi hx he zeD hf) ?_
 rintro D σ H ⟨tv,hs,ρ,s,M,W⟩
 delta z7o at W
 split at W
 .rename_i a ea
  obtain⟨v,h1,h2⟩:=M.sl.get i _ ea
  erw[RD] at h2
  subst h2
  refine⟨.int a,h1,tv,(z0D (m:=m) (f:=zg7 i a) ⟨hs,ρ,s,M,W⟩).mono λv H1 ⟨ρ1,s1,t,M1,W1⟩=> ?_⟩
  delta zg7 at W1
  split at W1
  .rename_i b
   obtain⟨v',e',h,_⟩:=M1.one
   cases e'
   erw[RD] at h
   subst h
   have M2:MRL G F.toFx ρ1 H1 σ tv s1 [.int (a+b)] [.int (a+b)]:=⟨M1.m,RDs.one (by erw[RD]),λl hl=>by simp[qq,labs] at hl⟩
   exact⟨a,b,rfl,rfl,W1 ρ1 _ H1 (M2.setS i).m⟩
  .exact False.elim W1
 .exact False.elim W
variable{a b c d:bh}{p:bT}{m ma mb mc md:M D}
def sv(i:Nat){x:Str}(hk:X.K=G.K:=by rfl)(hN:X.N[i]? =some x:=by rfl)(hv:Vis X.env.scope x:=by first|exact Or.inl rfl|exact Or.inr (Or.inl rfl)|exact Or.inr (Or.inr rfl))(hd:(x==("__debug__" :Str))=false:=by decide)(hcd:(x==("__classdict__" :Str))=false:=by decide):SE X G F (.Name x pos) (Z0 i):=zgc i hk (pv i hN hv hd hcd)
def s1(h:SE X G F a ma)(n:nst a=true:=by rfl)(hk:X.K=G.K:=by rfl):SA X G F [a] (Q2 [ma]):=sa_of hk (.cons h n .nil)
def s2(h:SE X G F a ma)(h2:SE X G F b mb)(n:nst a=true:=by rfl)(n2:nst b=true:=by rfl)(hk:X.K=G.K:=by rfl):SA X G F [a,b] (Q2 [ma,mb]):=sa_of hk (.cons h n (.cons h2 n2 .nil))
def s3(h:SE X G F a ma)(h2:SE X G F b mb)(h3:SE X G F c mc)(n:nst a=true:=by rfl)(n2:nst b=true:=by rfl)(n3:nst c=true:=by rfl)(hk:X.K=G.K:=by rfl):SA X G F [a,b,c] (Q2 [ma,mb,mc]):=sa_of hk (.cons h n (.cons h2 n2 (.cons h3 n3 .nil)))
def sst(i:Nat){x:Str}(hN:X.N.Nodup)(he:SE X G F e m)(hi:X.N[i]? =some x:=by rfl)(hx:Loc X.env.scope x:=by exact Or.inl rfl)(hs:ca e (some (.Name x p)) pos.line X.env=pure false:=by rfl)(hf:X.fn x=true\/X.env.scope.names.lookup x=some .local:=by first|exact .inl rfl|exact .inr rfl|assumption):SS X G F (.Assign [.Name x p] e pos) (W3 (.nm i) m):=
 z2i (λ{te} h=>z2c hN hi hx h hs hf) he
def sgn(i:Nat){x:Str}(hN:X.N.Nodup)(hi:X.N[i]? =some x:=by rfl)(hx:Loc X.env.scope x:=by exact Or.inl rfl)(hf:X.fn x=true\/X.env.scope.names.lookup x=some .local:=by first|exact .inl rfl|exact .inr rfl|assumption):SG X G F (.Name x pos) (.nm i):=v0 (U8 hN hi hx hf)
def sln{es:List bh}{ms:List (M D)}(hm:X.mg "len" =none)(ha:SA X G F (e::es) (Q2 ms))(hgl:Gl X "len" :=by rfl)(he:bj (e::es) X.env=(false,bF e X.env)::bj es X.env:=by rfl)(hpl:(bN pos (bj es X.env)).any (·.1)=false:=by rfl)(hk:X.K=G.K:=by rfl):SE X G F (.Call (.Name "len" p) (e::es) [] pos) (mCB ms X8):=
 z4k hk (zfY hk) hgl hm PyProof.Rows.Boot.«len» ha (by decide) (by decide) he hpl
def sc0{v:V}{d:D}(h:PE X e (tC v))(hd:cV d=some v:=by rfl)(hk:X.K=G.K:=by rfl):SE X G F e (mC d):=ziq hk h hd
def sxc{v:V}{q:D}(ha:SE X G F a ma)(h:PE X b (tC v))(hd:cV q=some v:=by rfl)(hs:z1T b:=by exact λ_ _=>rfl)(hk:X.K=G.K:=by rfl):SE X G F (.Subscript a b pos) (Z5 ma (mC q) ixD):=zbS hk ha (ziq hk h hd) hs
def sxx(ha:SE X G F a ma)(hb:SE X G F b mb)(hs:z1T b:=by exact λ_ _=>rfl)(hk:X.K=G.K:=by rfl):SE X G F (.Subscript a b pos) (Z5 ma mb ixD):=zbS hk ha hb hs
variable{P:bm}{w:bo}{K:W.Frag}{mg:Str->Option bb}{base:Heap}{x qual:Str}{st:Stmt}{fa:Addr}{fd:bB}{N ps:List Str}{k np:Nat}{f:FM}
def okM(mb:MS)(Fn:Fun K x qual st fa fd)(S:Q6 N ps (Z9 st))(hb: ∀(cdv:bb) (A:bq) (outer:List dn) (s:bf) (H:Hp) (E:XK) (F:Fy),z3t k (A.deeper (envOfC qual (Z9 st) s.heap.objs.size fa cdv))->SSs (zbm CX0 P w K mg base N qual (Z9 st) fa cdv A outer s H E).nox G F (z0k st) mb)(hG:G.K=K:=by rfl)(hf:f=z33 N.length mb:=by rfl)(hn:np=ps.length:=by rfl):
 z0W P w K mg base CX0 (k+1) fa fd ps (spM G np f):=by
 subst hf hn;exact zk1 Fn S hG hb
variable{o:bh}{apos cpos:bT}{mo mi mx:M D}
def z6O(hk:X.K=G.K):SE X G F (.Dict [] [] pos) z5Y:=by
 rw[eSE]
 exact PE.imp hk za5 λ σ H Q ⟨tv,hs,ρ,s,M,W⟩ p hp k=>by
  refine wM.out (ρ:=ext ρ s.n p) W (M.new hp k) ?_ λl hl=> ?_
  .erw[RD]
   rw[G8]
   exact⟨rfl, .inl ⟨[],Z6,rfl,by simp[RDs]⟩⟩
  .erw[labs,qq,l4,m4] at hl
   rw[hl]
   exact⟨B0 _,by rw[G8];exact .inr (M.fresh0 hp)⟩
def zaG{ob ix:bh}{pos tpos:bT}{me:M D}(hu:X.A.units+64<cLine)(he:SE X G F e me)(ho:SE X G F ob mo)(hi:SE X G F ix mi)(hs:ca e (some (.Subscript ob ix tpos)) pos.line X.env=pure false:=by rfl):
 SS X G F (.Assign [.Subscript ob ix tpos] e pos) (z4c me mo mi z5k):=by
 rw[eSS];rw[eSE] at he ho hi
 refine PS.imp0 (z5L (show X.A.units+2<cLine by lia) ho hi he hs) ?_
 rintro Dd σ H ⟨tv,h⟩
 exact(z4d h).mono λv H1 h1=>h1.mono λo H2 h2=>h2.mono λi H3 ⟨ρ,s,t1,t2,t3,M,W⟩=>zaC M W
def zaH{ob ix:bh}{pos tpos:bT}{mo mi me:M D}(hu:X.A.units+64<cLine)(he:SE X G F e me)(ho:SE X G F ob mo)(hi:SE X G F ix mi)(hs:ca e (some (.Subscript ob ix tpos)) pos.line X.env=pure false:=by rfl):
 SS X G F (.Assign [.Subscript ob ix tpos] e pos) (z4c me mo mi z5Z):=by
 erw[eSE,eSA,eSB,eSW,eSS,zhw,eSG,zhx,eSI,eSO,zbR] at*
 refine PS.imp0 (z5L (show X.A.units+2<cLine by lia) ho hi he hs) ?_
 rintro Dd σ H ⟨tv,h⟩
 exact(z4d h).mono λv H1 h1=>h1.mono λo H2 h2=>h2.mono λi H3 ⟨ρ,s,t1,t2,t3,M,W⟩=>zaE M W
variable{tg iter:bh}
def zdk{body:List Stmt}{m0:M D}{g:Tg}{mb:MS}(hp:cX (bi X.prog X.w) X.A X.env X.xe)(hc:X.calm=true)(hl:SE X G F iter m0)(hg: ∀F:Fy,SG X G F tg g)(hb: ∀F:Fy,SSs X G F body mb)
 (hst: ∀x,bw iter X.env x=pure x:=by intro _;rfl):SS X G F (.For tg iter body [] pos) (z1p (z0U m0) g mb):=by
 erw[eSE,eSA,eSB,eSW,eSS,zhw,eSG,zhx,eSI,eSO,zbR] at*
 refine PS.imp0 (zbi (g:=tGx G g) (tb:=tSx G mb) hp hc (z8l hl) (λqx s σ H v u Q I r ⟨F',q⟩=>hg F' qx s σ H v u Q I r q) (λqx s σ H D I ⟨F',q⟩=>hb F' qx s σ H D I q) hst) λD σ H h=> ?_
 obtain⟨tv,hs,ρ,s,M,W⟩:=h
 refine⟨tv,hs,ρ,s,M, ?_⟩
 unfold z1p z1o z0U bd at W
 cases em:m0 s with
 |ex d s1=>rw[em] at W;exact W
 |no=>rw[em] at W;exact W
 |ok t s0=>
  rw[em] at W
  dsimp only at W
  intro ρ1 v H1 M0
  cases t with
  |dct l ks vs=>
   dsimp only at W
   by_cases hc:isT ks=true/\qq vs=[]
   .rw[qw hc] at W
    dsimp only at W
    obtain⟨hT,hvs⟩:=hc
    have rd0:=M0.rd1
    obtain⟨rfl,kvs,hx,hks,r⟩:=rd0.dctq hT
    have bl:=M0.lb1 l (by erw[labs];exact l5 ..)
    refine⟨ρ1 l,kvs,rfl,hx,λu=> ?_⟩
    have st:v6 H1 (upd H1 (ρ1 l) (.frz u (.dT kvs))):=
     ⟨λb ys q=>by rw[Z7 (z0j q hx (by intro z;cases z))];exact q,λb o w q=>by rw[Z7 (z0j q hx (by intro z;cases z))];exact q⟩
    have rdF:RD G ρ1 (upd H1 (ρ1 l) (.frz u (.dT kvs))) (.fdc ks vs) (.ref (ρ1 l)):=by
     erw[RD]
     exact⟨ρ1 l,u,_,_,rfl,Z6, .inr ⟨kvs,rfl,hks,rfl⟩,RDs.stay st _ _ r λj hj=>by rw[hvs] at hj;cases hj⟩
    have lbF: ∀j∈labs (.fdc ks vs),j<s0.n/\(F.A0 (ρ1 j)\/F.H0 (ρ1 j)=none):=λj hj=>by erw[labs,hvs] at hj;cases hj
    have M2:MR G F.toFx ρ1 (upd H1 (ρ1 l) (.frz u (.dT kvs))) σ tv (s0.put l (.fdc ks vs)):=M0.m.put2 bl.1 bl.2 st (z34 M0.m.kd hx) rdF lbF
    have M3:MR G F.toFx ρ1 (upd H1 (ρ1 l) (.frz u (.dT kvs))) σ (some (.ref (ρ1 l))::tv) ((s0.put l (.fdc ks vs)).psh (.fdc ks vs)):=
     MRL.push ⟨M2,RDs.one rdF,λj hj=>by erw[qq,l4] at hj;exact lbF j hj⟩
    have M1:MR G (F.frz (ρ1 l) (.frz u (.dT kvs)) bl.2 (M0.m.frb l bl.1)).toFx ρ1 (upd H1 (ρ1 l) (.frz u (.dT kvs))) σ ([some (.ref (ρ1 l))]++tv) ((s0.put l (.fdc ks vs)).psh (.fdc ks vs)):=M3.frzIn Z6 ⟨_,_,rfl⟩
    generalize hs1:(s0.put l (.fdc ks vs)).psh (.fdc ks vs)=s1 at M1 W
    generalize hF1:F.frz (ρ1 l) (.frz u (.dT kvs)) bl.2 (M0.m.frb l bl.1)=F1 at M1
    have out: ∀{ρ H σ s},MR G F1.toFx ρ H σ tv s->MR G F.toFx ρ H σ tv s:=by subst hF1;exact λh=>h.frzOut
    have outL: ∀{ρ H σ s ts vs},MRL G F1.toFx ρ H σ tv s ts vs->MRL G F.toFx ρ H σ tv s ts vs:=by subst hF1;exact λh=>h.frzOut
    have at': ∀{ρ H σ tv s},MR G F1.toFx ρ H σ tv s->H (ρ1 l)=some (.frz u (.dT kvs)):=by subst hF1;exact λh=>h.frzAt
    have exw:F1.xw=F.xw:=by subst hF1;rfl
    have et:F1.tv0=F.tv0:=by subst hF1;rfl
    refine⟨λi m σ H=> ∃ρ s,MR G F1.toFx ρ H σ ([some (.ref (ρ1 l))]++tv) s/\wS G F tv (forGo z3K g mb m i s) D,⟨_,ρ1,s1,M1,W⟩, ?_⟩
    rintro i m σ2 H2 ⟨ρ2,s2,M2',W2⟩
    have ok:=zbQ (tvp:=[]) (a:=ρ1 l) (tv:=tv) M2' (at' M2') i
    erw[C0,N3,A4] at ok
    unfold forGo at W2
    cases e:z3K.at' i s2.tm with
    |none=>erw[e] at W2;exact False.elim W2
    |some o=>
     cases o with
     |none=>
      erw[e] at W2 ok
      exact .inl ⟨ok,W2 ρ2 σ2 H2 (out (MR.popn M2'))⟩
     |some d=>
      erw[e] at W2 ok
      cases m with
      |zero=>exact False.elim W2
      |succ f=>
       dsimp only at W2
       cases e2:asg g d s2.σ with
       |none=>erw[e2] at W2;exact False.elim W2
       |some σ'=>
        erw[e2] at W2
        refine .inr ⟨ok.1,λ σ H=> ∃ρ s,MR G F1.toFx ρ H σ ([some (.ref (ρ1 l))]++tv) s/\wS G F tv (forGo z3K g mb f (i+1) s) D,λ σ' H' q=>⟨f,B0 _,q⟩,λx H3 y=> ?_⟩
        refine⟨F1,[some (.ref (ρ1 l))]++tv,ρ2,s2,d,ok.2 x H3 y,σ',e2,λ σv' M3=>⟨F1,[some (.ref (ρ1 l))]++tv,by rw[et];exact hs.trans (T9 _ _),ρ2,_,M3, ?_⟩⟩
        cases e3:mb {s2 with σ:=σ'} with
        |nx s4=>erw[e3] at W2;exact λ ρ3 σ3 H3 M4=>⟨ρ3,s4,M4,W2⟩
        |ct s4=>erw[e3] at W2;exact λ ρ3 σ3 H3 M4=>⟨ρ3,s4,M4,W2⟩
        |bk s4=>erw[e3] at W2;exact λ ρ3 σ3 H3 M4=>W2 ρ3 σ3 H3 (out (MR.popn M4))
        |rt d s4=>erw[e3] at W2;exact λ ρ3 σ3 v H3 M4=>W2 ρ3 σ3 v H3 (outL (MRL.popn (tvs:=[some (.ref (ρ1 l))]) M4))
        |ex d s4=>erw[e3] at W2;show F1.xw d s4;rw[exw];exact W2
        |no=>erw[e3] at W2;exact W2
   .rw[qy hc] at W;exact False.elim W
  |_=>exact False.elim W
end
end My
namespace Mi
open PySem L2
section
variable{X:Cx}{G:Gx}{F:Fy}{a b tg:bh}{pos:bT}
noncomputable def z7I:D->D->M D
 | .int i, .int j=>if zbj i j then rt (.int (i*j)) else fl
 |_,_=>fl
def zdl:z9J G F (rI zbj λi j=> .int (i*j)) z7I:=by
 intro ρ s t t' v u H σv tv Q M W
 delta z7I at W
 split at W
 .split at W
  .rename_i hc
   obtain⟨rfl,rfl⟩:=z5P M
   exact⟨_,_,rfl,rfl,hc,λ_=>W.flat M.m rfl⟩
  .exact wfl W
 .exact wfl W
def z5o{i j:Int}{s:Stt}(h:zbj i j):z7I (.int i) (.int j) s= .ok (.int (i*j)) s:=by erw[z7I,qw h];rfl
end
end Mi
namespace My
open PySem L2 PySem.Spec PyProof.Rows Mi
section
variable{X:Cx}{G:Gx}{F:Fy}{a b:bh}{pos:bT}
def z3a{ma mb:M D}(hk:X.K=G.K)(ha:SE X G F a ma)(hb:SE X G F b mb):SE X G F (.BinOp a .Mult b pos) (Z5 ma mb z7I):=by
 erw[eSE,eSA,eSB,eSW,eSS,zhw,eSG,zhx,eSI,eSO,zbR] at*
 exact z8E hk zeG zdl ha hb
variable{tg iter elt ke ve:bh}{scope:Scope}{own qj:List Str}{ix:List Nat}{ifs:List bh}{mi:M ItK}{g:Tg}{mt:M Bool}{me mk mv:M D}
def cmQ(hi:SI X G F tg iter mi)
 (hg: ∀(F:Fy) cl C s₀ H₀ fp pn,SG (j6 X scope own qj cl C s₀ H₀ fp pn) G F tg g) (ht: ∀(F:Fy) cl C s₀ H₀ fp pn,STs (j6 X scope own qj cl C s₀ H₀ fp pn) G F ifs mt) (he: ∀(F:Fy) cl C s₀ H₀ fp pn,SE (j6 X scope own qj cl C s₀ H₀ fp pn) G F elt me)
 (S:K9 X.env.scope scope own qj X.N ix=true:=by kernel_rfl) (hk:X.K=G.K:=by rfl) (hc:X.calm=true:=by rfl) (hs: ∀x,bw iter X.env x=pure x:=by intro _;rfl):SE X G F (.ListComp elt [⟨tg,iter,ifs,0⟩] scope pos) (J3 mi g mt me own.length ix):=by
 erw[eSE,eSG,eSI,zbR] at*
 exact PE.imp0 (z8y (g:=tGx G g) (tt:=tBx G mt) (te:=tMx G me) hc (K9.sc S) hi (λcl C s₀ H₀ fp pn qx s σ H v u Q I r ⟨F',q⟩=>hg F' cl C s₀ H₀ fp pn qx s σ H v u Q I r q)
  (λcl C s₀ H₀ fp pn qx s σ H Q I ⟨F',q⟩=>ht F' cl C s₀ H₀ fp pn qx s σ H Q I q) (λcl C s₀ H₀ fp pn qx s σ H Q I ⟨F',q⟩=>he F' cl C s₀ H₀ fp pn qx s σ H Q I q) hs) λ σ H Q h=>z6F hk h
def csQ{y:Str}{py spos:bT}(i:Nat)(hN:X.N.Nodup)(hi:SI X G F tg iter mi)
 (hg: ∀(F:Fy) cl C s₀ H₀ fp pn,SG (j6 X scope own qj cl C s₀ H₀ fp pn) G F tg g) (ht: ∀(F:Fy) cl C s₀ H₀ fp pn,STs (j6 X scope own qj cl C s₀ H₀ fp pn) G F ifs mt) (he: ∀(F:Fy) cl C s₀ H₀ fp pn,SE (j6 X scope own qj cl C s₀ H₀ fp pn) G F elt me)
 (hy:X.N[i]? =some y:=by rfl) (hx:Loc X.env.scope y:=by exact Or.inl rfl) (hfn:X.fn y=true\/X.env.scope.names.lookup y=some .local:=by exact Or.inl rfl) (hsw:ca (.ListComp elt [⟨tg,iter,ifs,0⟩] scope pos) (some (.Name y py)) spos.line X.env=pure true:=by rfl)
 (S:K9 X.env.scope scope own qj X.N ix=true:=by kernel_rfl) (hk:X.K=G.K:=by rfl) (hc:X.calm=true:=by rfl) (hs: ∀x,bw iter X.env x=pure x:=by intro _;rfl):SS X G F (.Assign [.Name y py] (.ListComp elt [⟨tg,iter,ifs,0⟩] scope pos) spos) (W3 (.nm i) (J3 mi g mt me own.length ix)):=by
 erw[eSE,eSG,eSI,zbR,eSS] at*
 refine PS.imp0 (zft (i:=i) (g:=tGx G g) (tt:=tBx G mt) (te:=tMx G me) hN hy hx hfn hsw hc (K9.sc S) hi (λcl C s₀ H₀ fp pn qx s σ H v u Q I r ⟨F',q⟩=>hg F' cl C s₀ H₀ fp pn qx s σ H v u Q I r q)
  (λcl C s₀ H₀ fp pn qx s σ H Q I ⟨F',q⟩=>ht F' cl C s₀ H₀ fp pn qx s σ H Q I q) (λcl C s₀ H₀ fp pn qx s σ H Q I ⟨F',q⟩=>he F' cl C s₀ H₀ fp pn qx s σ H Q I q) hs) λDd σ H ⟨tv,h⟩=> ?_
 refine z6F hk ⟨tv,(z0D h).mono λv H1 ⟨ρ1,s1,t,M1,W⟩=> ?_⟩
 erw[asg] at W
 exact W ρ1 _ H1 (M1.setS i).m
end
end My
namespace Mi
open PySem L2 PySem.Spec PyProof.Rows
section
variable{X:Cx}{G:Gx}{F:Fy}
noncomputable def zdm:List D->M D
 |[.dct _ (.non::ks) _]=>rt (.int ks.length)
 |_=>fl
def zdn:K3 G F (λxs H Q=> ∃a kvs,xs=[V.ref a]/\H a=some (.dK kvs)/\Q (.int kvs.length) H) zdm:=by
 intro ρ s ts vs H σv tv Q M W
 delta zdm at W
 split at W
 .obtain⟨v,rfl,h,_⟩:=M.one
  obtain⟨rfl,kvs,hx,rfl,r⟩:=h.dctp
  exact⟨_,kvs,rfl,hx,λ_=>by rw[l0] at W;exact W.flat M.m rfl⟩
 .exact wfl W
def zdo:Cb X G F (.builtin "len") zdm:=⟨_,z8c,zdn⟩
end
end Mi
namespace My
open PySem L2 PySem.Spec PyProof.Rows Mi
section
variable{X:Cx}{G:Gx}{F:Fy}{tg iter elt ke ve:bh}{pos:bT}{scope:Scope}{own qj:List Str}{ix:List Nat}{ifs:List bh}{mi:M ItK}{g:Tg}{mt:M Bool}{me mk mv:M D}
def zk3{m0:M D}{elts:List bh}{x1:Nat}{tpos apos cpos:bT}(hi:SE X G F iter m0)
 (hg: ∀(F:Fy) cl C s₀ H₀ fp pn,SG (j6 X scope own qj cl C s₀ H₀ fp pn) G F (.Tuple elts x1 tpos) g) (ht: ∀(F:Fy) cl C s₀ H₀ fp pn,STs (j6 X scope own qj cl C s₀ H₀ fp pn) G F ifs mt) (he: ∀(F:Fy) cl C s₀ H₀ fp pn,SE (j6 X scope own qj cl C s₀ H₀ fp pn) G F elt me)
 (S:K9 X.env.scope scope own qj X.N ix=true:=by kernel_rfl) (hk:X.K=G.K:=by rfl) (hc:X.calm=true:=by rfl)
 (hs: ∀x,bw (.Call (.Attribute iter "items" apos) [] [] cpos) X.env x=pure x:=by intro _;rfl) (hbase:bP iter "items" X.env (bF iter X.env)=bF iter X.env:=by rfl)
 (hfew:((bN cpos (bj [] X.env)).all (λx=> !x.1)&&(dH cpos (cC [] X.env)).all (λx=>x.1.isSome)&&decide (([]:List bh).length+([]:List cx).length+(if([]:List cx).isEmpty then 0 else 1)<30))=true:=by rfl)
 (hline:(apos.endLine==cpos.line)=true:=by rfl):SE X G F (.ListComp elt [⟨.Tuple elts x1 tpos, .Call (.Attribute iter "items" apos) [] [] cpos,ifs,0⟩] scope pos) (J3 (z7p m0) g mt me own.length ix):=by
 erw[eSE,eSG,zbR] at*
 exact PE.imp0 (z8y (g:=tGx G g) (tt:=tBx G mt) (te:=tMx G me) hc (K9.sc S) (zcT hi hbase hfew hline) (λcl C s₀ H₀ fp pn qx s σ H v u Q I r ⟨F',q⟩=>hg F' cl C s₀ H₀ fp pn qx s σ H v u Q I r q)
  (λcl C s₀ H₀ fp pn qx s σ H Q I ⟨F',q⟩=>ht F' cl C s₀ H₀ fp pn qx s σ H Q I q) (λcl C s₀ H₀ fp pn qx s σ H Q I ⟨F',q⟩=>he F' cl C s₀ H₀ fp pn qx s σ H Q I q) hs) λ σ H Q h=>z7q hk h
def zk4{m0:M D}(hi:SE X G F iter m0)
 (hg: ∀(F:Fy) cl C s₀ H₀ fp pn,SG (j6 X scope own qj cl C s₀ H₀ fp pn) G F tg g) (ht: ∀(F:Fy) cl C s₀ H₀ fp pn,STs (j6 X scope own qj cl C s₀ H₀ fp pn) G F ifs mt) (he: ∀(F:Fy) cl C s₀ H₀ fp pn,SE (j6 X scope own qj cl C s₀ H₀ fp pn) G F elt me)
 (S:K9 X.env.scope scope own qj X.N ix=true:=by kernel_rfl) (hk:X.K=G.K:=by rfl) (hc:X.calm=true:=by rfl) (hs: ∀x,bw iter X.env x=pure x:=by intro _;rfl):SE X G F (.ListComp elt [⟨tg,iter,ifs,0⟩] scope pos) (J3 (z0U m0) g mt me own.length ix):=by
 erw[eSE,eSG,zbR] at*
 exact PE.imp0 (z8y (g:=tGx G g) (tt:=tBx G mt) (te:=tMx G me) hc (K9.sc S) (z8l hi) (λcl C s₀ H₀ fp pn qx s σ H v u Q I r ⟨F',q⟩=>hg F' cl C s₀ H₀ fp pn qx s σ H v u Q I r q)
  (λcl C s₀ H₀ fp pn qx s σ H Q I ⟨F',q⟩=>ht F' cl C s₀ H₀ fp pn qx s σ H Q I q) (λcl C s₀ H₀ fp pn qx s σ H Q I ⟨F',q⟩=>he F' cl C s₀ H₀ fp pn qx s σ H Q I q) hs) λ σ H Q h=>z8U hk h
end
noncomputable def top(i:Nat):Stmt:=PySem.Challenge.pw_signbench_k07_no_keys.main.body.getD i (.Pass ⟨0,0,0,0⟩)
noncomputable abbrev z0G:Stmt:=top 2
noncomputable abbrev z0H:Stmt:=top 3
noncomputable abbrev z02:Stmt:=top 4
noncomputable abbrev z3b:Stmt:=top 5
noncomputable abbrev z15:Stmt:=top 6
noncomputable abbrev z16:Stmt:=top 7
noncomputable abbrev X3:Stmt:=top 8
noncomputable abbrev z03:Stmt:=top 9
noncomputable abbrev z1u:Stmt:=top 10
noncomputable abbrev J5:Stmt:=top 11
noncomputable abbrev z04:Stmt:=top 12
noncomputable abbrev z62:Stmt:=top 14
noncomputable abbrev z4l:Stmt:=top 15
noncomputable abbrev z3c:Stmt:=top 16
noncomputable abbrev z1v:Stmt:=top 17
noncomputable abbrev z4m:Stmt:=top 18
noncomputable abbrev z4n:Stmt:=top 19
noncomputable abbrev z22:Stmt:=top 20
noncomputable abbrev zdp:Stmt:=top 21
noncomputable abbrev z4o:List Str:=["table", "keys", "sounds", "lost", "rest", "told", "gone"]
noncomputable abbrev z0I:List Str:=["table", "keys"]
noncomputable abbrev z4p:List Str:=["table", "keys", "row"]
noncomputable abbrev z0J:List Str:=["table", "keys"]
noncomputable abbrev z3d:List Str:=["table", "keys", "best", "row"]
noncomputable abbrev z05:List Str:=["table", "keys"]
noncomputable abbrev z91:List Str:=["table", "waiting", "key", "sounds", "lost", "rest", "told", "gone"]
noncomputable abbrev z3e:List Str:=["table", "waiting", "key"]
noncomputable abbrev z2j:List Str:=["table", "keys"]
noncomputable abbrev z17:List Str:=z2j
noncomputable abbrev z2k:List Str:=["table", "waiting"]
noncomputable abbrev z18:List Str:=z2k
noncomputable abbrev z23:List Str:=["table", "sounds", "ways"]
noncomputable abbrev X4:List Str:=["table", "sounds"]
noncomputable abbrev z3f:List Str:=["table", "sounds", "ways", "place", "waiting", "made", "lost"]
noncomputable abbrev z06:List Str:=["table", "sounds"]
noncomputable abbrev z63:List Str:=["table", "sounds", "start", "ways", "found", "presses", "done", "standing", "place", "waiting", "key", "told", "then", "reached"]
noncomputable abbrev z1w:List Str:=["table", "sounds"]
noncomputable abbrev z0u:List Str:=["table", "waiting", "found", "key", "sounds", "lost", "then"]
noncomputable abbrev J6:List Str:=["table", "waiting"]
noncomputable abbrev z3g:List Str:=["ways", "standing", "keys", "many", "ahead", "key"]
noncomputable abbrev z07:List Str:=["ways", "standing"]
noncomputable abbrev zdq:List Str:=["_law_script", "_law_at", "_law_cell", "_law_mix", "_law_k"]
noncomputable abbrev z64:List Str:=["_law_script", "_law_at"]
noncomputable abbrev zaI:List Str:=["_law_bag_here", "_law_many", "_law_digit"]
noncomputable abbrev z4q:List Str:=["_law_bag_here", "_law_many"]
noncomputable abbrev z92:List Str:=["_law_bag_here", "_law_wide", "_law_letters", "_law_first", "_law_top", "_law_found", "_law_k", "_law_turn", "_law_keys", "_law_sounds_here", "_law_left"]
noncomputable abbrev z3h:List Str:=["_law_bag_here"]
noncomputable abbrev z65:List Str:=["_law_bag_here", "_law_table_here", "_law_most", "_law_some", "_law_keys", "_law_sounds_here", "_law_left", "_law_found", "_law_k", "_law_other"]
noncomputable abbrev z1x:List Str:=["_law_bag_here", "_law_table_here", "_law_most"]
noncomputable abbrev zaJ:List Str:=["_law_table_here", "_law_keys", "_law_best", "_law_told", "_law_left", "_law_row"]
noncomputable abbrev z4r:List Str:=["_law_table_here", "_law_keys"]
noncomputable abbrev zaK:List Str:=["_law_table_here", "_law_keys", "_law_sounds_here", "_law_lost", "_law_left", "_law_more", "_law_gone"]
noncomputable abbrev z4s:List Str:=["_law_table_here", "_law_keys"]
noncomputable abbrev z7r:List Str:=["_law_bag_here", "_law_table_here", "_law_most", "_law_way", "_law_some", "_law_keys", "_law_sounds_here", "_law_left", "_law_many", "_law_found", "_law_k", "_law_other"]
noncomputable abbrev z24:List Str:=["_law_bag_here", "_law_table_here", "_law_most"]
noncomputable abbrev zir:List Str:=["_law_script", "_law_k", "_law_bag_here", "_law_table_here", "_law_some", "_law_at", "_law_strange", "_law_known", "_law_keys", "_law_sounds_here", "_law_left", "_law_sound", "_law_others", "_law_handed", "_law_told"]
noncomputable abbrev zdr:List Str:=["_law_script"]
local macro_rules | `(tactic| walk_at "sc") => `(tactic| exact ⟨rfl, rfl, rfl, by decide +kernel, rfl, by decide +kernel, by decide +kernel⟩)
def j7:Q6 z4o z0I (Z9 z0G):=by walk_at "sc"
def z1r:Q6 z4p z0J (Z9 z0H):=by walk_at "sc"
def v5:Q6 z3d z05 (Z9 z02):=by walk_at "sc"
def X5:Q6 z91 z3e (Z9 z3b):=by walk_at "sc"
def z4t:Q6 z2j z17 (Z9 z15):=by walk_at "sc"
def z4u:Q6 z2k z18 (Z9 z16):=by walk_at "sc"
def z0e:Q6 z23 X4 (Z9 X3):=by walk_at "sc"
def j4:Q6 z3f z06 (Z9 z03):=by walk_at "sc"
def w6:Q6 z63 z1w (Z9 z1u):=by walk_at "sc"
def Y7:Q6 z0u J6 (Z9 J5):=by walk_at "sc"
def W7:Q6 z3g z07 (Z9 z04):=by walk_at "sc"
def z0K:Q6 zdq z64 (Z9 z62):=by walk_at "sc"
def z5p:Q6 zaI z4q (Z9 z4l):=by walk_at "sc"
def J7:Q6 z92 z3h (Z9 z3c):=by walk_at "sc"
def G1:Q6 z65 z1x (Z9 z1v):=by walk_at "sc"
def k9:Q6 zaJ z4r (Z9 z4m):=by walk_at "sc"
def z08:Q6 zaK z4s (Z9 z4n):=by walk_at "sc"
def j8:Q6 z7r z24 (Z9 z22):=by walk_at "sc"
def X1:Q6 zir zdr (Z9 zdp):=by walk_at "sc"
structure Dx(K:W.Frag)(mg:Str->Option bb)(x:Str)(st:Stmt)(ps:List Str) where
 f:Addr
 d:bB
 F:Fun K x x st f d
 b:z5H K d ps []
 m:mg x=some (.ref f)
def scl{X:Cx}{G:Gx}{F:Fy}{e:bh}{es:List bh}{pos p:bT}{CX:CXT}{k j:Nat}{x:Str}{st:Stmt}{ps:List Str}{E:XK}{f:FM}{ms:List (M D)}(d:Dx X.K X.mg x st ps)(Fn:z0W X.prog X.w X.K X.mg X.base CX j d.f d.d ps (spM G ps.length f))(hr:z3t k X.A)(ha:SA X G F (e::es) (Q2 ms))(hg:Gl X x:=by rfl)(hx:z4O CX X E:=by exact zi2)(hln:ms.length=ps.length:=by rfl)(hk:X.K=G.K:=by rfl)(hj:j<=k:=by lia)(hdb:(x==("__debug__" :Str))=false:=by decide)(he:bj (e::es) X.env=(false,bF e X.env)::bj es X.env:=by rfl)(hpl:(bN pos (bj es X.env)).any (·.1)=false:=by rfl):SE X G F (.Call (.Name x p) (e::es) [] pos) (Z8 f ms):=zdi hk (Fn.mono hj) hr hg d.m d.F.kp d.b hx ha hln hdb he hpl
set_option genInjectivity false in
set_option genSizeOf false in
set_option genSizeOfSpec false in
structure Wd(K:W.Frag)(mg:Str->Option bb) where
 x_p_read_keys:Dx K mg "read_keys" z0G z0I
 x_p_read_step:Dx K mg "read_step" z0H z0J
 x_p_longest_row:Dx K mg "longest_row" z02 z05
 x_p_press:Dx K mg "press" z3b z3e
 x_p_may_wait:Dx K mg "may_wait" z15 z17
 x_p_end_keys:Dx K mg "end_keys" z16 z18
 x_p_key_standings:Dx K mg "key_standings" X3 X4
 x_p_fewest_keys:Dx K mg "fewest_keys" z03 z06
 x_p_ways_to:Dx K mg "ways_to" z1u z1w
 x_p_presses_without_loss:Dx K mg "presses_without_loss" J5 J6
 x_p_keys_on_way:Dx K mg "keys_on_way" z04 z07
 x_l_bag:Dx K mg "_law_bag" z62 z64
 x_l_take:Dx K mg "_law_take" z4l z4q
 x_l_table:Dx K mg "_law_table" z3c z3h
 x_l_pressed:Dx K mg "_law_pressed" z1v z1x
 x_l_step:Dx K mg "_law_step" z4m z4r
 x_l_read:Dx K mg "_law_read" z4n z4s
 x_l_sounds:Dx K mg "_law_sounds" z22 z24
 x_law:Dx K mg "law" zdp zdr
 n_abs:mg "abs" =none
 n_any:mg "any" =none
 c_LAST_KEY: ∃t,mg "LAST_KEY" =some (.int 25 t)
 n_int:mg "int" =none
 n_isinstance:mg "isinstance" =none
 n_len:mg "len" =none
 n_list:mg "list" =none
 n_max:mg "max" =none
 n_min:mg "min" =none
 n_range:mg "range" =none
 n_sorted:mg "sorted" =none
 n_tuple:mg "tuple" =none
section
variable{P:bm}{w:bo}{K:W.Frag}{mg:Str->Option bb}{base:Heap}
noncomputable def z09:MS:=(Y2 (W3 (.nm 2) (mC .non))
 (Y2 (z1p (v4 (Z0 0)) (.nm 3) (sIf (z7G (V3 (Z5 (mSl (Z0 1) none (some (mCB [(Z5 (Z0 3) (mC (.int 0)) ixD)] X8))) (Z5 (Z0 3) (mC (.int 0)) ixD) eqD)) (mOr (V3 (Z5 (Z0 2) (mC .non) isN)) (V3 (Z5 (mCB [(Z5 (Z0 3) (mC (.int 0)) ixD)] X8) (mCB [(Z5 (Z0 2) (mC (.int 0)) ixD)] X8) gtD)))) (W3 (.nm 2) (Z0 3)) sNx))
 (z0y (Z0 2))))
noncomputable def V7:FM:=z33 4 z09
def z2u(T:Wd K mg):z0W P w K mg base CX0 1 T.x_p_longest_row.f T.x_p_longest_row.d z05 (spM (G0 K) 2 V7):=okM z09 T.x_p_longest_row.F v5 λcdv A outer s H E F hr=>by
 have h64:=hr.units
 exact(Z1 (sst 2 v5.nd (sc0 z2I))
 (Z1 (z0d PassesOwn.never rfl (z1q rfl (sv 0)) (sgn 3 v5.nd) (Y1 (z12 (SW.sb (z5m (g0 (z3x rfl h64) (G3 rfl (sv 1) V5 (U9 (sln T.n_len (s1 (sxc (sv 3) Z2))))) (sxc (sv 3) Z2) (j9 _)) (z38 (SW.sb (z8X (g0 zbK (sv 2) (sc0 z2I) (j9 _)) (z6M (g0 z5S (sln T.n_len (s1 (sxc (sv 3) Z2))) (sln T.n_len (s1 (sxc (sv 2) Z2))) (j9 _)))))))) (Y1 (sst 2 v5.nd (sv 3))) k8)))
 (Y1 (J4 (sv 2)))))
noncomputable def z0L:MS:=(Y2 (W3 (.nm 2) (Z8 V7 [(Z0 0),(Z0 1)]))
 (Y2 (sIf (V3 (Z5 (Z0 2) (mC .non) isN)) (z0y (mCB [(mCB [] U1),(mSl (Z0 1) none (some (mC (.int 1)))),(mSl (Z0 1) (some (mC (.int 1))) none)] U1)) sNx)
 (z0y (mCB [(Z5 (Z0 2) (mC (.int 1)) ixD),(mCB [] U1),(Z5 (Z5 (Z0 2) (mC (.int 2)) ixD) (mSl (Z0 1) (some (mCB [(Z5 (Z0 2) (mC (.int 0)) ixD)] X8)) none) X9)] U1))))
noncomputable def G4:FM:=z33 3 z0L
def z1s(T:Wd K mg):z0W P w K mg base CX0 2 T.x_p_read_step.f T.x_p_read_step.d z0J (spM (G0 K) 2 G4):=okM z0L T.x_p_read_step.F z1r λcdv A outer s H E F hr=>(Z1 (sst 2 z1r.nd (scl T.x_p_longest_row (z2u T) hr (s2 (sv 0) (sv 1))))
 (Z1 (z12 (g0 zbK (sv 2) (sc0 z2I) (j9 _)) (Y1 (J4 (Q5 rfl (s3 (Q5 rfl (sa_of rfl .nil)) (G3 rfl (sv 1) V5 (U9 (sc0 Z2))) (G3 rfl (sv 1) (U9 (sc0 Z2)) V5))))) k8)
 (Y1 (J4 (Q5 rfl (s3 (sxc (sv 2) Z2) (Q5 rfl (sa_of rfl .nil)) (u1 rfl (sxc (sv 2) Z2) (G3 rfl (sv 1) (U9 (sln T.n_len (s1 (sxc (sv 2) Z2)))) V5))))))))
noncomputable def z0M:MS:=(Y2 (W3 (.nm 2) (mCB [] lstM))
 (Y2 (W3 (.nm 3) (mCB [] lstM))
 (Y2 (W3 (.nm 4) (mCB [(Z0 1)] z5b))
 (Y2 (z1H (λ_=>1000) (z0T (Z0 4)) (Y2 (W3 (.tp [(.nm 5),(.nm 6),(.nm 4)]) (Z8 G4 [(Z0 0),(Z0 4)]))
 (Y2 (v3 (u2 (Z0 2) [(Z0 5)] z2r))
 (v3 (u2 (Z0 3) [(Z0 6)] z2r)))))
 (z0y (mCB [(Z0 2),(Z0 3)] U1))))))
noncomputable def K5:FM:=z33 7 z0M
def z3y(T:Wd K mg):z0W P w K mg base CX0 3 T.x_p_read_keys.f T.x_p_read_keys.d z0I (spM (G0 K) 2 K5):=okM z0M T.x_p_read_keys.F j7 λcdv A outer s H E F hr=>(Z1 (sst 2 j7.nd (J0 rfl (sa_of rfl .nil)))
 (Z1 (sst 3 j7.nd (J0 rfl (sa_of rfl .nil)))
 (Z1 (sst 4 j7.nd (z39 rfl (z1J rfl) rfl T.n_tuple PyProof.Rows.Boot.«tuple» (s1 (sv 1))))
 (Z1 (z1N PassesOwn.never (z0F rfl (sv 4)) (Z1 (z1M (scl T.x_p_read_step (z1s T) hr (s2 (sv 0) (sv 4))) (X0 rfl rfl (Z4 (sgn 5 j7.nd) (Z4 (sgn 6 j7.nd) (Z4 (sgn 4 j7.nd) u0)))))
 (Z1 (V6 (z21 rfl PySem.F.slot_list_extend PySem.F.type_list_extend (k7 rfl) (sv 2) (s1 (sv 5))))
 (Y1 (V6 (z21 rfl PySem.F.slot_list_extend PySem.F.type_list_extend (k7 rfl) (sv 3) (s1 (sv 6))))))))
 (Y1 (J4 (Q5 rfl (s2 (sv 2) (sv 3)))))))))
noncomputable def z19:MS:=(z0y (mCB [(J3 (v4 (Z0 0)) (.nm 0) (rt true) (z8I (Z5 (mCB [(Z0 1)] X8) (mCB [(Z5 (Z0 0) (mC (.int 0)) ixD)] X8) ltD) (Z5 (mSl (Z5 (Z0 0) (mC (.int 0)) ixD) none (some (mCB [(Z0 1)] X8))) (Z0 1) eqD)) 1 [1])] zan))
noncomputable def K0:FM:=z33 2 z19
def z4v(T:Wd K mg):z0W P w K mg base CX0 1 T.x_p_may_wait.f T.x_p_may_wait.d z17 (spM (G0 K) 2 K0):=okM z19 T.x_p_may_wait.F z4t λcdv A outer s H E F hr=>by
 have h64:=hr.units
 exact(Y1 (J4 (z4k rfl (zbM rfl hr.hd) rfl T.n_any PyProof.Rows.Boot.«any» (s1 (cmQ (own:=["row"]) (qj:=["keys"]) (ix:=[1]) (z1q rfl (sv 0)) (λ_ _ _ _ _ _ _=>(v0 (U8 (i:=0) (show D0 (["row", "keys"]:List Str) by decide+kernel) rfl (Or.inl rfl)))) (λ_ _ _ _ _ _ _=>z14) (λ_ _ _ _ _ _ _=>(zge (z3N zax (sln T.n_len (s1 (sv 1))) (sln T.n_len (s1 (sxc (sv 0) Z2))) (j9 _)) (zgd (z3N (z3x rfl h64) (G3 rfl (sxc (sv 0) Z2) V5 (U9 (sln T.n_len (s1 (sv 1))))) (sv 1) (j9 _))))))))))
noncomputable def z3i:MS:=(Y2 (W3 (.nm 3) (mCB [] lstM))
 (Y2 (W3 (.nm 4) (mCB [] lstM))
 (Y2 (W3 (.nm 5) (Z5 (Z0 1) (mCB [(Z0 2)] U1) X9))
 (Y2 (z1H (λ_=>1000) (z7G (z0T (Z0 5)) (z9K (z0T (Z8 K0 [(Z0 0),(Z0 5)])))) (Y2 (W3 (.tp [(.nm 6),(.nm 7),(.nm 5)]) (Z8 G4 [(Z0 0),(Z0 5)]))
 (Y2 (v3 (u2 (Z0 3) [(Z0 6)] z2r))
 (v3 (u2 (Z0 4) [(Z0 7)] z2r)))))
 (z0y (mCB [(Z0 3),(Z0 4),(Z0 5)] U1))))))
noncomputable def z1a:FM:=z33 8 z3i
def z7s(T:Wd K mg):z0W P w K mg base CX0 3 T.x_p_press.f T.x_p_press.d z3e (spM (G0 K) 3 z1a):=okM z3i T.x_p_press.F X5 λcdv A outer s H E F hr=>(Z1 (sst 3 X5.nd (J0 rfl (sa_of rfl .nil)))
 (Z1 (sst 4 X5.nd (J0 rfl (sa_of rfl .nil)))
 (Z1 (sst 5 X5.nd (u1 rfl (sv 1) (Q5 rfl (s1 (sv 2)))))
 (Z1 (z1N PassesOwn.never (SW.sb (z5m (z0F rfl (sv 5)) (z38 (z6N (z0F rfl (scl T.x_p_may_wait (z4v T) hr (s2 (sv 0) (sv 5)))))))) (Z1 (z1M (scl T.x_p_read_step (z1s T) hr (s2 (sv 0) (sv 5))) (X0 rfl rfl (Z4 (sgn 6 X5.nd) (Z4 (sgn 7 X5.nd) (Z4 (sgn 5 X5.nd) u0)))))
 (Z1 (V6 (z21 rfl PySem.F.slot_list_extend PySem.F.type_list_extend (k7 rfl) (sv 3) (s1 (sv 6))))
 (Y1 (V6 (z21 rfl PySem.F.slot_list_extend PySem.F.type_list_extend (k7 rfl) (sv 4) (s1 (sv 7))))))))
 (Y1 (J4 (Q5 rfl (s3 (sv 3) (sv 4) (sv 5)))))))))
noncomputable def z1b:MS:=(z0y (Z8 K5 [(Z0 0),(Z0 1)]))
noncomputable def K1:FM:=z33 2 z1b
def z4w(T:Wd K mg):z0W P w K mg base CX0 4 T.x_p_end_keys.f T.x_p_end_keys.d z18 (spM (G0 K) 2 K1):=okM z1b T.x_p_end_keys.F z4u λcdv A outer s H E F hr=>(Y1 (J4 (scl T.x_p_read_keys (z3y T) hr (s2 (sv 0) (sv 1)))))
noncomputable def J8:MS:=(Y2 (W3 (.nm 2) (mCB [] lstM))
 (Y2 (z1p (V4 [(Z5 (mC (.int 25)) (mC (.int 1)) X9)]) (.nm 3) (Y2 (W3 (.tp [(.nm 4),(.nm 5),(.nm 6)]) (Z8 z1a [(Z0 0),(Z0 1),(Z0 3)]))
 (sIf (z9K (z0T (Z0 5))) (v3 (u2 (Z0 2) [(mCB [(Z0 3),(Z0 4),(Z0 6)] U1)] z5e)) sNx)))
 (z0y (Z0 2))))
noncomputable def w8:FM:=z33 7 J8
def z0m(T:Wd K mg):z0W P w K mg base CX0 4 T.x_p_presses_without_loss.f T.x_p_presses_without_loss.d J6 (spM (G0 K) 2 w8):=okM J8 T.x_p_presses_without_loss.F Y7 λcdv A outer s H E F hr=>(Z1 (sst 2 Y7.nd (J0 rfl (sa_of rfl .nil)))
 (Z1 (z0d PassesOwn.never rfl (z01 rfl T.n_range (s1 (u1 rfl (ziq rfl (zcf (v:= .int 25) rfl T.c_LAST_KEY.choose_spec ⟨_,rfl⟩)) (sc0 Z2)))) (sgn 3 Y7.nd) (Z1 (z1M (scl T.x_p_press (z7s T) hr (s3 (sv 0) (sv 1) (sv 3))) (X0 rfl rfl (Z4 (sgn 4 Y7.nd) (Z4 (sgn 5 Y7.nd) (Z4 (sgn 6 Y7.nd) u0)))))
 (Y1 (z12 (z6N (z0F rfl (sv 5))) (Y1 (V6 (z21 rfl PySem.F.slot_list_append PySem.F.type_list_append z0Y (sv 2) (s1 (Q5 rfl (s3 (sv 3) (sv 4) (sv 6))))))) k8))))
 (Y1 (J4 (sv 2)))))
noncomputable def z1y:MS:=(Y2 (W3 (.nm 2) (mCB [(mC (.int 0)),(mCB [] U1)] U1))
 (Y2 (W3 (.nm 3) (z2h (Z0 2) (mCB [(mC (.int 0)),(mC .non),(mC .non)] U1)))
 (Y2 (W3 (.nm 4) (mCB [(Z0 2)] lstM))
 (Y2 (W3 (.nm 5) z5W)
 (Y2 (W3 (.nm 6) (mC (.int 0)))
 (Y2 (z1H (λ_=>100000) (V3 (Z5 (Z0 6) (mCB [(Z0 4)] X8) ltD)) (Y2 (W3 (.nm 7) (Z5 (Z0 4) (Z0 6) ixD))
 (Y2 (W3 (.tp [(.nm 8),(.nm 9)]) (Z0 7))
 (Y2 (sIf (V3 (Z5 (Z0 9) (Z0 5) z37)) (z4c (Z8 w8 [(Z0 0),(Z0 9)]) (Z0 5) (Z0 9) z5Z) sNx)
 (Y2 (z1p (v4 (Z5 (Z0 5) (Z0 9) z2D)) (.tp [(.nm 10),(.nm 11),(.nm 12)]) (Y2 (W3 (.nm 13) (mCB [(Z5 (Z0 8) (mCB [(Z0 11)] X8) X9),(Z0 12)] U1))
 (sIf (z7G (V3 (Z5 (Z0 13) (Z0 3) z37)) (V3 (Z5 (mSl (Z0 1) (some (Z0 8)) (some (Z5 (Z0 8) (mCB [(Z0 11)] X8) X9))) (Z0 11) eqD))) (Y2 (z4c (mCB [(Z5 (Z5 (Z5 (Z0 3) (Z0 7) z2D) (mC (.int 0)) ixD) (mC (.int 1)) X9),(Z0 7),(Z0 10)] U1) (Z0 3) (Z0 13) z20)
 (v3 (u2 (Z0 4) [(Z0 13)] z5e))) sNx)))
 (z7o 6 (mC (.int 1))))))))
 (z0y (Z0 3))))))))
noncomputable def v7:FM:=z33 14 z1y
def z2l(T:Wd K mg):z0W P w K mg base CX0 5 T.x_p_ways_to.f T.x_p_ways_to.d z1w (spM (G0 K) 2 v7):=okM z1y T.x_p_ways_to.F w6 λcdv A outer s H E F hr=>by
 have h64:=hr.units
 exact(Z1 (sst 2 w6.nd (Q5 rfl (s2 (sc0 Z2) (Q5 rfl (sa_of rfl .nil)))))
 (Z1 (sst 3 w6.nd (zaF rfl h64 (sv 2) (Q5 rfl (s3 (sc0 Z2) (sc0 z2I) (sc0 z2I)))))
 (Z1 (sst 4 w6.nd (J0 rfl (s1 (sv 2))))
 (Z1 (sst 5 w6.nd (z90 rfl))
 (Z1 (sst 6 w6.nd (sc0 Z2))
 (Z1 (z1N PassesOwn.never (g0 zax (sv 6) (sln T.n_len (s1 (sv 4))) (j9 _)) (Z1 (sst 7 w6.nd (sxx (sv 4) (sv 6)))
 (Z1 (z1M (sv 7) (X0 rfl rfl (Z4 (sgn 8 w6.nd) (Z4 (sgn 9 w6.nd) u0))))
 (Z1 (z12 (g0 (z8T h64) (sv 9) (sv 5) (by with_unfolding_all rfl)) (Y1 (zaH h64 (scl T.x_p_presses_without_loss (z0m T) hr (s2 (sv 0) (sv 9))) (sv 5) (sv 9))) k8)
 (Z1 (z0d PassesOwn.never rfl (z1q rfl (z5n rfl h64 (sv 5) (sv 9) (λ_ _=>rfl))) (X0 rfl rfl (Z4 (sgn 10 w6.nd) (Z4 (sgn 11 w6.nd) (Z4 (sgn 12 w6.nd) u0)))) (Z1 (sst 13 w6.nd (Q5 rfl (s2 (u1 rfl (sv 8) (sln T.n_len (s1 (sv 11)))) (sv 12))))
 (Y1 (z12 (SW.sb (z5m (g0 (z8T h64) (sv 13) (sv 3) (by with_unfolding_all rfl)) (z38 (g0 (z3x rfl h64) (G3 rfl (sv 1) (U9 (sv 8)) (U9 (u1 rfl (sv 8) (sln T.n_len (s1 (sv 11)))))) (sv 11) (j9 _))))) (Z1 (z61 h64 (Q5 rfl (s3 (u1 rfl (sxc (z5n rfl h64 (sv 3) (sv 7) (λ_ _=>rfl)) Z2) (sc0 Z2)) (sv 7) (sv 10))) (sv 3) (sv 13))
 (Y1 (V6 (z21 rfl PySem.F.slot_list_append PySem.F.type_list_append z0Y (sv 4) (s1 (sv 13)))))) k8))))
 (Y1 (zdj (i:=6) w6.nd rfl (Or.inl rfl) (by first|exact .inl rfl|exact .inr rfl) (sc0 Z2))))))))
 (Y1 (J4 (sv 3)))))))))
noncomputable def X6:MS:=(Y2 (W3 (.nm 2) (Z8 v7 [(Z0 0),(Z0 1)]))
 (z0y (mCB [(J3 (z7p (Z0 2)) (.tp [(.tp [(.nm 1),(.nm 2)]),(.nm 0)]) (rt true) (mCB [(Z0 1),(Z0 2),(Z5 (Z0 0) (mC (.int 0)) ixD)] U1) 3 [])] zem)))
noncomputable def Q1:FM:=z33 3 X6
def z0f(T:Wd K mg):z0W P w K mg base CX0 6 T.x_p_key_standings.f T.x_p_key_standings.d X4 (spM (G0 K) 2 Q1):=okM X6 T.x_p_key_standings.F z0e λcdv A outer s H E F hr=>by
 have h64:=hr.units
 exact(Z1 (sst 2 z0e.nd (scl T.x_p_ways_to (z2l T) hr (s2 (sv 0) (sv 1))))
 (Y1 (J4 (z4k rfl (zg6 rfl h64) rfl T.n_sorted PyProof.Rows.Boot.«sorted» (s1 (zk3 (own:=["way", "place", "waiting"]) (qj:=[]) (ix:=[]) (sv 2) (λ_ _ _ _ _ _ _=>(X0 rfl rfl (Z4 (X0 rfl rfl (Z4 (v0 (U8 (i:=1) (show D0 (["way", "place", "waiting"]:List Str) by decide+kernel) rfl (Or.inl rfl))) (Z4 (v0 (U8 (i:=2) (show D0 (["way", "place", "waiting"]:List Str) by decide+kernel) rfl (Or.inl rfl))) u0))) (Z4 (v0 (U8 (i:=0) (show D0 (["way", "place", "waiting"]:List Str) by decide+kernel) rfl (Or.inl rfl))) u0)))) (λ_ _ _ _ _ _ _=>z14) (λ_ _ _ _ _ _ _=>(Q5 rfl (s3 (sv 1) (sv 2) (sxc (sv 0) Z2))))))))))
noncomputable def z0a:MS:=(Y2 (W3 (.nm 2) (mCB [] lstM))
 (Y2 (W3 (.tp [(.nm 3),(.nm 4),(.nm 5)]) (Z5 (Z0 0) (Z0 1) z2D))
 (Y2 (z1H (λ_=>1000) (V3 (Z5 (Z0 3) (mC (.int 0)) gtD)) (Y2 (v3 (u2 (Z0 2) [(Z0 5)] z5e))
 (W3 (.tp [(.nm 3),(.nm 4),(.nm 5)]) (Z5 (Z0 0) (Z0 4) z2D))))
 (Y2 (v3 (u2 (Z0 2) [] zel))
 (z0y (Z0 2))))))
noncomputable def U3:FM:=z33 6 z0a
def z2v(T:Wd K mg):z0W P w K mg base CX0 1 T.x_p_keys_on_way.f T.x_p_keys_on_way.d z07 (spM (G0 K) 2 U3):=okM z0a T.x_p_keys_on_way.F W7 λcdv A outer s H E F hr=>by
 have h64:=hr.units
 exact(Z1 (sst 2 W7.nd (J0 rfl (sa_of rfl .nil)))
 (Z1 (z1M (z5n rfl h64 (sv 0) (sv 1) (λ_ _=>rfl)) (X0 rfl rfl (Z4 (sgn 3 W7.nd) (Z4 (sgn 4 W7.nd) (Z4 (sgn 5 W7.nd) u0)))))
 (Z1 (z1N PassesOwn.never (g0 z5S (sv 3) (sc0 Z2) (j9 _)) (Z1 (V6 (z21 rfl PySem.F.slot_list_append PySem.F.type_list_append z0Y (sv 2) (s1 (sv 5))))
 (Y1 (z1M (z5n rfl h64 (sv 0) (sv 4) (λ_ _=>rfl)) (X0 rfl rfl (Z4 (sgn 3 W7.nd) (Z4 (sgn 4 W7.nd) (Z4 (sgn 5 W7.nd) u0))))))))
 (Z1 (V6 (zgg rfl PySem.F.slot_list_reverse PySem.F.type_list_reverse z7n (sv 2)))
 (Y1 (J4 (sv 2)))))))
noncomputable def V8:MS:=(Y2 (W3 (.nm 2) (Z8 v7 [(Z0 0),(Z0 1)]))
 (Y2 (z1p (z0U (Z0 2)) (.tp [(.nm 3),(.nm 4)]) (Y2 (W3 (.tp [(.nm 5),(.nm 6)]) (Z8 K1 [(Z0 0),(Z0 4)]))
 (sIf (z7G (z9K (z0T (Z0 6))) (V3 (Z5 (Z0 5) (mSl (Z0 1) (some (Z0 3)) none) eqD))) (z0y (Z8 U3 [(Z0 2),(mCB [(Z0 3),(Z0 4)] U1)])) sNx)))
 (z0y (mC .non))))
noncomputable def W5:FM:=z33 7 V8
def z0S(T:Wd K mg):z0W P w K mg base CX0 6 T.x_p_fewest_keys.f T.x_p_fewest_keys.d z06 (spM (G0 K) 2 W5):=okM V8 T.x_p_fewest_keys.F j4 λcdv A outer s H E F hr=>by
 have h64:=hr.units
 exact(Z1 (sst 2 j4.nd (scl T.x_p_ways_to (z2l T) hr (s2 (sv 0) (sv 1))))
 (Z1 (zdk PassesOwn.never rfl (sv 2) (λ_=>(X0 rfl rfl (Z4 (sgn 3 j4.nd) (Z4 (sgn 4 j4.nd) u0)))) (λ_=>(Z1 (z1M (scl T.x_p_end_keys (z4w T) hr (s2 (sv 0) (sv 4))) (X0 rfl rfl (Z4 (sgn 5 j4.nd) (Z4 (sgn 6 j4.nd) u0))))
 (Y1 (z12 (SW.sb (z5m (z6N (z0F rfl (sv 6))) (z38 (g0 (z3x rfl h64) (sv 5) (G3 rfl (sv 1) (U9 (sv 3)) V5) (j9 _))))) (Y1 (J4 (scl T.x_p_keys_on_way (z2v T) hr (s2 (sv 2) (Q5 rfl (s2 (sv 3) (sv 4))))))) k8)))))
 (Y1 (J4 (sc0 z2I)))))
noncomputable def z66:MS:=(Y2 (W3 (.nm 2) (mC (.int 0)))
 (Y2 (sIf (V3 (Z5 (Z0 1) (mCB [(Z0 0)] X8) ltD)) (W3 (.nm 2) (mCB [(Z5 (Z0 0) (Z0 1) ixD)] zej)) sNx)
 (Y2 (W3 (.nm 3) (Z5 (Z5 (Z5 (Z5 (Z5 (Z0 2) (mC (.int 2147483629)) z2f) (Z5 (mC (.int 104729)) (Z0 1) z7I) X9) (mC (.int 17)) X9) (mC (.int 5)) zbE) (mC (.int 2147483647)) z2f))
 (Y2 (z1p (V4 [(mCB [(mCB [(Z0 0)] X8),(mC (.int 60))] zd5)]) (.nm 4) (W3 (.nm 3) (Z5 (Z5 (Z5 (Z5 (Z0 3) (mC (.int 48271)) z7I) (Z5 (Z5 (Z5 (Z0 0) (Z0 4) ixD) (mC (.int 2147483587)) z2f) (Z5 (Z0 4) (mC (.int 3)) X9) z7I) X9) (Z0 4) X9) (mC (.int 2147483629)) z2f)))
 (Y2 (sIf (V3 (Z5 (Z0 2) (Z5 (mC (.int 10)) (mC (.int 18)) zbE) ltD)) (W3 (.nm 2) (mC (.int 0))) sNx)
 (z0y (mCB [(Z0 2),(Z0 3)] lstM)))))))
noncomputable def z3j:FM:=z33 5 z66
def zaL(T:Wd K mg):z0W P w K mg base CX0 1 T.x_l_bag.f T.x_l_bag.d z64 (spM (G0 K) 2 z3j):=okM z66 T.x_l_bag.F z0K λcdv A outer s H E F hr=>(Z1 (sst 2 z0K.nd (sc0 Z2))
 (Z1 (z12 (g0 zax (sv 1) (sln T.n_len (s1 (sv 0))) (j9 _)) (Y1 (sst 2 z0K.nd (z4k rfl zfZ rfl T.n_abs PyProof.Rows.Boot.«abs» (s1 (sxx (sv 0) (sv 1)))))) k8)
 (Z1 (sst 3 z0K.nd (z0t rfl (z8Z rfl (u1 rfl (u1 rfl (z0t rfl (sv 2) (sc0 Z2)) (z3a rfl (sc0 Z2) (sv 1))) (sc0 Z2)) (sc0 Z2)) (sc0 Z2)))
 (Z1 (z0d PassesOwn.never rfl (z01 rfl T.n_range (s1 (z4k rfl (zbL rfl) rfl T.n_min PyProof.Rows.Boot.«min» (s2 (sln T.n_len (s1 (sv 0))) (sc0 Z2))))) (sgn 4 z0K.nd) (Y1 (sst 3 z0K.nd (z0t rfl (u1 rfl (u1 rfl (z3a rfl (sv 3) (sc0 Z2)) (z3a rfl (z0t rfl (sxx (sv 0) (sv 4)) (sc0 Z2)) (u1 rfl (sv 4) (sc0 Z2)))) (sv 4)) (sc0 Z2)))))
 (Z1 (z12 (g0 zax (sv 2) (z8Z rfl (sc0 Z2) (sc0 Z2)) (j9 _)) (Y1 (sst 2 z0K.nd (sc0 Z2))) k8)
 (Y1 (J4 (J0 rfl (s2 (sv 2) (sv 3))))))))))
noncomputable def z4x:MS:=(Y2 (sIf (V3 (Z5 (Z5 (Z0 0) (mC (.int 0)) ixD) (mC (.int 0)) gtD)) (Y2 (W3 (.nm 2) (Z5 (Z5 (Z0 0) (mC (.int 0)) ixD) (Z0 1) z2f))
 (Y2 (z4c (Z5 (Z5 (Z0 0) (mC (.int 0)) ixD) (Z0 1) z49) (Z0 0) (mC (.int 0)) zd9)
 (z0y (Z0 2)))) sNx)
 (Y2 (z4c (Z5 (Z5 (Z5 (Z5 (Z0 0) (mC (.int 1)) ixD) (mC (.int 48271)) z7I) (mC (.int 7919)) X9) (mC (.int 2147483647)) z2f) (Z0 0) (mC (.int 1)) zd9)
 (z0y (Z5 (Z5 (Z5 (Z5 (Z5 (Z5 (Z5 (Z0 0) (mC (.int 1)) ixD) (mC (.int 3)) zbE) (mC (.int 2147483587)) z2f) (mC (.int 7)) z49) (mC (.int 69621)) z7I) (mC (.int 1073741789)) z2f) (Z0 1) z2f))))
noncomputable def Z3:FM:=z33 3 z4x
def Y8(T:Wd K mg):z0W P w K mg base CX0 1 T.x_l_take.f T.x_l_take.d z4q (spM (G0 K) 2 Z3):=okM z4x T.x_l_take.F z5p λcdv A outer s H E F hr=>(Z1 (z12 (g0 z5S (sxc (sv 0) Z2) (sc0 Z2) (j9 _)) (Z1 (sst 2 z5p.nd (z0t rfl (sxc (sv 0) Z2) (sv 1)))
 (Z1 (z8Y (z60 rfl (sxc (sv 0) Z2) (sv 1)) (sv 0) (sc0 Z2) (λ{to ti} h1 h2=>zbg h1 h2 z6u))
 (Y1 (J4 (sv 2))))) k8)
 (Z1 (z8Y (z0t rfl (u1 rfl (z3a rfl (sxc (sv 0) Z2) (sc0 Z2)) (sc0 Z2)) (sc0 Z2)) (sv 0) (sc0 Z2) (λ{to ti} h1 h2=>zbg h1 h2 z6u))
 (Y1 (J4 (z0t rfl (z0t rfl (z3a rfl (z60 rfl (z0t rfl (z8Z rfl (sxc (sv 0) Z2) (sc0 Z2)) (sc0 Z2)) (sc0 Z2)) (sc0 Z2)) (sc0 Z2)) (sv 1))))))
noncomputable def z3k:MS:=(Y2 (W3 (.nm 1) (Z5 (Z8 Z3 [(Z0 0),(mC (.int 8))]) (mC (.int 7)) z49))
 (Y2 (W3 (.nm 2) (Z5 (mCB [(Z5 (mC (.int 1)) (Z8 Z3 [(Z0 0),(mC (.int 4))]) X9),(mC (.int 26))] lstM) (Z0 1) ixD))
 (Y2 (W3 (.nm 3) (Z8 Z3 [(Z0 0),(mC (.int 26))]))
 (Y2 (W3 (.nm 4) (Z5 (mCB [(mC (.int 3)),(mC (.int 40))] lstM) (Z8 Z3 [(Z0 0),(mC (.int 2))]) ixD))
 (Y2 (W3 (.nm 5) z5W)
 (Y2 (sIf (V3 (Z5 (Z8 Z3 [(Z0 0),(mC (.int 2))]) (mC (.int 0)) eqD)) (z1p (V4 [(Z0 2)]) (.nm 6) (z4c (mCB [(mCB [(Z8 Z3 [(Z0 0),(Z0 4)])] U1),(mCB [] U1)] U1) (Z0 5) (mCB [(Z5 (Z5 (Z0 3) (Z0 6) X9) (mC (.int 26)) z2f)] U1) z20)) sNx)
 (Y2 (z1p (V4 [(Z5 (mCB [(Z8 Z3 [(Z0 0),(mC (.int 8))]),(mC (.int 40))] lstM) (Z0 1) ixD)]) (.nm 7) (Y2 (W3 (.nm 8) (mCB [(J3 (V4 [(Z5 (mC (.int 1)) (Z8 Z3 [(Z0 0),(mC (.int 4))]) X9)]) (.nm 0) (rt true) (Z5 (Z5 (Z0 1) (Z8 Z3 [(Z0 2),(Z0 3)]) X9) (mC (.int 26)) z2f) 1 [3,0,2])] z5b))
 (Y2 (W3 (.nm 9) (mCB [(J3 (V4 [(Z8 Z3 [(Z0 0),(mC (.int 4))])]) (.nm 0) (rt true) (Z8 Z3 [(Z0 1),(Z0 2)]) 1 [0,4])] z5b))
 (Y2 (W3 (.nm 10) (mCB [(J3 (V4 [(Z8 Z3 [(Z0 0),(mCB [(Z0 8)] X8)])]) (.nm 0) (rt true) (Z5 (Z5 (Z0 1) (Z8 Z3 [(Z0 2),(Z0 3)]) X9) (mC (.int 26)) z2f) 1 [3,0,2])] z5b))
 (z4c (mCB [(Z0 9),(Z0 10)] U1) (Z0 5) (Z0 8) z20)))))
 (z0y (mSl (J3 (z0U (Z0 5)) (.nm 0) (rt true) (Z5 (mCB [(Z0 0)] U1) (Z5 (Z0 1) (Z0 0) z2D) X9) 1 [5]) none (some (mC (.int 40))))))))))))
noncomputable def z0v:FM:=z33 11 z3k
def z7t(T:Wd K mg):z0W P w K mg base CX0 2 T.x_l_table.f T.x_l_table.d z3h (spM (G0 K) 1 z0v):=okM z3k T.x_l_table.F J7 λcdv A outer s H E F hr=>by
 have h64:=hr.units
 exact(Z1 (sst 1 J7.nd (z60 rfl (scl T.x_l_take (Y8 T) hr (s2 (sv 0) (sc0 Z2))) (sc0 Z2)))
 (Z1 (z2i (λ{te} h=>z2c (i:=2) J7.nd rfl (Or.inr rfl) h) (sxx (J0 rfl (s2 (u1 rfl (sc0 Z2) (scl T.x_l_take (Y8 T) hr (s2 (sv 0) (sc0 Z2)))) (sc0 Z2))) (sv 1)))
 (Z1 (z2i (λ{te} h=>z2c (i:=3) J7.nd rfl (Or.inr rfl) h) (scl T.x_l_take (Y8 T) hr (s2 (sv 0) (sc0 Z2))))
 (Z1 (z2i (λ{te} h=>z2c (i:=4) J7.nd rfl (Or.inr rfl) h) (sxx (J0 rfl (s2 (sc0 Z2) (sc0 Z2))) (scl T.x_l_take (Y8 T) hr (s2 (sv 0) (sc0 Z2)))))
 (Z1 (z2i (λ{te} h=>z2c (i:=5) J7.nd rfl (Or.inr rfl) h) (z90 rfl))
 (Z1 (z12 (g0 (z3x rfl h64) (scl T.x_l_take (Y8 T) hr (s2 (sv 0) (sc0 Z2))) (sc0 Z2) (j9 _)) (Y1 (z0d PassesOwn.never rfl (z01 rfl T.n_range (s1 (sv 2))) (sgn 6 J7.nd) (Y1 (z61 h64 (Q5 rfl (s2 (Q5 rfl (s1 (scl T.x_l_take (Y8 T) hr (s2 (sv 0) (sv 4))))) (Q5 rfl (sa_of rfl .nil)))) (sv 5) (Q5 rfl (s1 (z0t rfl (u1 rfl (sv 3) (sv 6)) (sc0 Z2)))))))) k8)
 (Z1 (z0d PassesOwn.never rfl (z01 rfl T.n_range (s1 (sxx (J0 rfl (s2 (scl T.x_l_take (Y8 T) hr (s2 (sv 0) (sc0 Z2))) (sc0 Z2))) (sv 1)))) (sgn 7 J7.nd) (Z1 (sst 8 J7.nd (z39 rfl (z1J rfl) rfl T.n_tuple PyProof.Rows.Boot.«tuple» (s1 (cmQ (own:=["_law_k"]) (qj:=["_law_first", "_law_bag_here", "_law_letters"]) (ix:=[3,0,2]) (z01 rfl T.n_range (s1 (u1 rfl (sc0 Z2) (scl T.x_l_take (Y8 T) hr (s2 (sv 0) (sc0 Z2)))))) (λ_ _ _ _ _ _ _=>(v0 (U8 (i:=0) (show D0 (["_law_k", "_law_first", "_law_bag_here", "_law_letters"]:List Str) by decide+kernel) rfl (Or.inl rfl)))) (λ_ _ _ _ _ _ _=>z14) (λ_ _ _ _ _ _ _=>(z0t rfl (u1 rfl (sv 1) (scl T.x_l_take (Y8 T) hr (s2 (sv 2) (sv 3)))) (sc0 Z2)))))))
 (Z1 (sst 9 J7.nd (z39 rfl (z1J rfl) rfl T.n_tuple PyProof.Rows.Boot.«tuple» (s1 (cmQ (own:=["_law_k"]) (qj:=["_law_bag_here", "_law_top"]) (ix:=[0,4]) (z01 rfl T.n_range (s1 (scl T.x_l_take (Y8 T) hr (s2 (sv 0) (sc0 Z2))))) (λ_ _ _ _ _ _ _=>(v0 (U8 (i:=0) (show D0 (["_law_k", "_law_bag_here", "_law_top"]:List Str) by decide+kernel) rfl (Or.inl rfl)))) (λ_ _ _ _ _ _ _=>z14) (λ_ _ _ _ _ _ _=>(scl T.x_l_take (Y8 T) hr (s2 (sv 1) (sv 2))))))))
 (Z1 (sst 10 J7.nd (z39 rfl (z1J rfl) rfl T.n_tuple PyProof.Rows.Boot.«tuple» (s1 (cmQ (own:=["_law_k"]) (qj:=["_law_first", "_law_bag_here", "_law_letters"]) (ix:=[3,0,2]) (z01 rfl T.n_range (s1 (scl T.x_l_take (Y8 T) hr (s2 (sv 0) (sln T.n_len (s1 (sv 8))))))) (λ_ _ _ _ _ _ _=>(v0 (U8 (i:=0) (show D0 (["_law_k", "_law_first", "_law_bag_here", "_law_letters"]:List Str) by decide+kernel) rfl (Or.inl rfl)))) (λ_ _ _ _ _ _ _=>z14) (λ_ _ _ _ _ _ _=>(z0t rfl (u1 rfl (sv 1) (scl T.x_l_take (Y8 T) hr (s2 (sv 2) (sv 3)))) (sc0 Z2)))))))
 (Y1 (z61 h64 (Q5 rfl (s2 (sv 9) (sv 10))) (sv 5) (sv 8)))))))
 (Y1 (J4 (G3 rfl (zk4 (own:=["_law_keys"]) (qj:=["_law_found"]) (ix:=[5]) (sv 5) (λ_ _ _ _ _ _ _=>(v0 (U8 (i:=0) (show D0 (["_law_keys", "_law_found"]:List Str) by decide+kernel) rfl (Or.inl rfl)))) (λ_ _ _ _ _ _ _=>z14) (λ_ _ _ _ _ _ _=>(u1 rfl (Q5 rfl (s1 (sv 0))) (z5n rfl h64 (sv 1) (sv 0) (λ_ _=>rfl))))) V5 (U9 (sc0 Z2))))))))))))
noncomputable def z1z:MS:=(Y2 (W3 (.nm 3) (mCB [(mC (.int 0))] lstM))
 (Y2 (z1p (v4 (Z0 1)) (.tp [(.nm 4),(.nm 5),(.nm 6)]) (v3 (u2 (Z0 3) [(Z0 4)] z2r)))
 (Y2 (W3 (.nm 7) (mCB [] lstM))
 (Y2 (z1p (V4 [(Z8 Z3 [(Z0 0),(Z5 (Z0 2) (mC (.int 1)) X9)])]) (.nm 8) (Y2 (W3 (.nm 9) (mCB [(Z5 (Z8 Z3 [(Z0 0),(mC (.int 8))]) (mC (.int 7)) eqD)] z9L))
 (v3 (u2 (Z0 7) [(Z5 (mCB [(Z5 (Z0 3) (Z8 Z3 [(Z0 0),(mCB [(Z0 3)] X8)]) ixD),(Z8 Z3 [(Z0 0),(mC (.int 26))])] lstM) (Z0 9) ixD)] z5e))))
 (z0y (Z0 7))))))
noncomputable def z0N:FM:=z33 10 z1z
def z5q(T:Wd K mg):z0W P w K mg base CX0 2 T.x_l_pressed.f T.x_l_pressed.d z1x (spM (G0 K) 3 z0N):=okM z1z T.x_l_pressed.F G1 λcdv A outer s H E F hr=>by
 have h64:=hr.units
 exact(Z1 (sst 3 G1.nd (J0 rfl (s1 (sc0 Z2))))
 (Z1 (z0d PassesOwn.never rfl (z1q rfl (sv 1)) (X0 rfl rfl (Z4 (sgn 4 G1.nd) (Z4 (sgn 5 G1.nd) (Z4 (sgn 6 G1.nd) u0)))) (Y1 (V6 (z21 rfl PySem.F.slot_list_extend PySem.F.type_list_extend (k7 rfl) (sv 3) (s1 (sv 4))))))
 (Z1 (sst 7 G1.nd (J0 rfl (sa_of rfl .nil)))
 (Z1 (z0d PassesOwn.never rfl (z01 rfl T.n_range (s1 (scl T.x_l_take (Y8 T) hr (s2 (sv 0) (u1 rfl (sv 2) (sc0 Z2)))))) (sgn 8 G1.nd) (Z1 (sst 9 G1.nd (z39 rfl z8Q rfl T.n_int PyProof.Rows.Boot.«int» (s1 (z3N (z3x rfl h64) (scl T.x_l_take (Y8 T) hr (s2 (sv 0) (sc0 Z2))) (sc0 Z2) (j9 _)))))
 (Y1 (V6 (z21 rfl PySem.F.slot_list_append PySem.F.type_list_append z0Y (sv 7) (s1 (sxx (J0 rfl (s2 (sxx (sv 3) (scl T.x_l_take (Y8 T) hr (s2 (sv 0) (sln T.n_len (s1 (sv 3)))))) (scl T.x_l_take (Y8 T) hr (s2 (sv 0) (sc0 Z2))))) (sv 9))))))))
 (Y1 (J4 (sv 7)))))))
noncomputable def z4y:MS:=(Y2 (W3 (.nm 2) (mCB [] U1))
 (Y2 (W3 (.nm 3) (mCB [] U1))
 (Y2 (W3 (.nm 4) (mCB [] U1))
 (Y2 (z1p (v4 (Z0 0)) (.nm 5) (sIf (z7G (V3 (Z5 (mCB [(Z5 (Z0 5) (mC (.int 0)) ixD)] X8) (mCB [(Z0 2)] X8) gtD)) (V3 (Z5 (mSl (Z0 1) none (some (mCB [(Z5 (Z0 5) (mC (.int 0)) ixD)] X8))) (Z5 (Z0 5) (mC (.int 0)) ixD) eqD))) (W3 (.tp [(.nm 2),(.nm 3),(.nm 4)]) (Z0 5)) sNx))
 (Y2 (sIf (V3 (Z5 (Z0 2) (mCB [] U1) eqD)) (z0y (mCB [(mCB [] lstM),(mCB [(Z5 (Z0 1) (mC (.int 0)) ixD)] lstM),(mSl (Z0 1) (some (mC (.int 1))) none)] U1)) sNx)
 (z0y (mCB [(mCB [(Z0 3)] z3w),(mCB [] lstM),(Z5 (Z0 4) (mSl (Z0 1) (some (mCB [(Z0 2)] X8)) none) X9)] U1)))))))
noncomputable def z1O:FM:=z33 6 z4y
def z93(T:Wd K mg):z0W P w K mg base CX0 1 T.x_l_step.f T.x_l_step.d z4r (spM (G0 K) 2 z1O):=okM z4y T.x_l_step.F k9 λcdv A outer s H E F hr=>by
 have h64:=hr.units
 exact(Z1 (sst 2 k9.nd (Q5 rfl (sa_of rfl .nil)))
 (Z1 (sst 3 k9.nd (Q5 rfl (sa_of rfl .nil)))
 (Z1 (sst 4 k9.nd (Q5 rfl (sa_of rfl .nil)))
 (Z1 (z0d PassesOwn.never rfl (z1q rfl (sv 0)) (sgn 5 k9.nd) (Y1 (z12 (SW.sb (z5m (g0 z5S (sln T.n_len (s1 (sxc (sv 5) Z2))) (sln T.n_len (s1 (sv 2))) (j9 _)) (z38 (g0 (z3x rfl h64) (G3 rfl (sv 1) V5 (U9 (sln T.n_len (s1 (sxc (sv 5) Z2))))) (sxc (sv 5) Z2) (j9 _))))) (Y1 (z1M (sv 5) (X0 rfl rfl (Z4 (sgn 2 k9.nd) (Z4 (sgn 3 k9.nd) (Z4 (sgn 4 k9.nd) u0)))))) k8)))
 (Z1 (z12 (g0 (z3x rfl h64) (sv 2) (Q5 rfl (sa_of rfl .nil)) (j9 _)) (Y1 (J4 (Q5 rfl (s3 (J0 rfl (sa_of rfl .nil)) (J0 rfl (s1 (sxc (sv 1) Z2))) (G3 rfl (sv 1) (U9 (sc0 Z2)) V5))))) k8)
 (Y1 (J4 (Q5 rfl (s3 (z39 rfl (z5T rfl) rfl T.n_list PyProof.Rows.Boot.«list» (s1 (sv 3))) (J0 rfl (sa_of rfl .nil)) (u1 rfl (sv 4) (G3 rfl (sv 1) (U9 (sln T.n_len (s1 (sv 2)))) V5)))))))))))
noncomputable def z4z:MS:=(Y2 (W3 (.nm 2) (mCB [] lstM))
 (Y2 (W3 (.nm 3) (mCB [] lstM))
 (Y2 (W3 (.nm 4) (mCB [(Z0 1)] z5b))
 (Y2 (z1H (λ_=>1000) (V3 (Z5 (Z0 4) (mCB [] U1) neD)) (Y2 (W3 (.tp [(.nm 5),(.nm 6),(.nm 4)]) (Z8 z1O [(Z0 0),(Z0 4)]))
 (Y2 (v3 (u2 (Z0 2) [(Z0 5)] z2r))
 (v3 (u2 (Z0 3) [(Z0 6)] z2r)))))
 (z0y (mCB [(Z0 2),(Z0 3)] U1))))))
noncomputable def z2E:FM:=z33 7 z4z
def z94(T:Wd K mg):z0W P w K mg base CX0 2 T.x_l_read.f T.x_l_read.d z4s (spM (G0 K) 2 z2E):=okM z4z T.x_l_read.F z08 λcdv A outer s H E F hr=>by
 have h64:=hr.units
 exact(Z1 (sst 2 z08.nd (J0 rfl (sa_of rfl .nil)))
 (Z1 (sst 3 z08.nd (J0 rfl (sa_of rfl .nil)))
 (Z1 (sst 4 z08.nd (z39 rfl (z1J rfl) rfl T.n_tuple PyProof.Rows.Boot.«tuple» (s1 (sv 1))))
 (Z1 (z1N PassesOwn.never (g0 (zay rfl h64) (sv 4) (Q5 rfl (sa_of rfl .nil)) (j9 _)) (Z1 (z1M (scl T.x_l_step (z93 T) hr (s2 (sv 0) (sv 4))) (X0 rfl rfl (Z4 (sgn 5 z08.nd) (Z4 (sgn 6 z08.nd) (Z4 (sgn 4 z08.nd) u0)))))
 (Z1 (V6 (z21 rfl PySem.F.slot_list_extend PySem.F.type_list_extend (k7 rfl) (sv 2) (s1 (sv 5))))
 (Y1 (V6 (z21 rfl PySem.F.slot_list_extend PySem.F.type_list_extend (k7 rfl) (sv 3) (s1 (sv 6))))))))
 (Y1 (J4 (Q5 rfl (s2 (sv 2) (sv 3)))))))))
noncomputable def z25:MS:=(Y2 (W3 (.nm 3) (Z8 Z3 [(Z0 0),(mC (.int 3))]))
 (Y2 (W3 (.nm 4) (mCB [(mC (.int 0))] lstM))
 (Y2 (z1p (v4 (Z0 1)) (.tp [(.nm 5),(.nm 6),(.nm 7)]) (v3 (u2 (Z0 4) [(Z0 6)] z2r)))
 (Y2 (W3 (.nm 8) (Z8 Z3 [(Z0 0),(Z5 (Z0 2) (mC (.int 1)) X9)]))
 (Y2 (sIf (V3 (Z5 (Z0 3) (mC (.int 0)) gtD)) (z0y (mSl (Z5 (Z8 z2E [(Z0 1),(Z8 z0N [(Z0 0),(Z0 1),(mC (.int 60))])]) (mC (.int 0)) ixD) none (some (Z0 8)))) sNx)
 (Y2 (W3 (.nm 9) (mCB [] lstM))
 (Y2 (z1p (V4 [(Z0 8)]) (.nm 10) (Y2 (W3 (.nm 11) (mCB [(Z5 (Z8 Z3 [(Z0 0),(mC (.int 8))]) (mC (.int 7)) eqD)] z9L))
 (v3 (u2 (Z0 9) [(Z5 (mCB [(Z5 (Z0 4) (Z8 Z3 [(Z0 0),(mCB [(Z0 4)] X8)]) ixD),(Z8 Z3 [(Z0 0),(mC (.int 40))])] lstM) (Z0 11) ixD)] z5e))))
 (z0y (Z0 9)))))))))
noncomputable def K6:FM:=z33 12 z25
def z67(T:Wd K mg):z0W P w K mg base CX0 3 T.x_l_sounds.f T.x_l_sounds.d z24 (spM (G0 K) 3 K6):=okM z25 T.x_l_sounds.F j8 λcdv A outer s H E F hr=>by
 have h64:=hr.units
 exact(Z1 (sst 3 j8.nd (scl T.x_l_take (Y8 T) hr (s2 (sv 0) (sc0 Z2))))
 (Z1 (sst 4 j8.nd (J0 rfl (s1 (sc0 Z2))))
 (Z1 (z0d PassesOwn.never rfl (z1q rfl (sv 1)) (X0 rfl rfl (Z4 (sgn 5 j8.nd) (Z4 (sgn 6 j8.nd) (Z4 (sgn 7 j8.nd) u0)))) (Y1 (V6 (z21 rfl PySem.F.slot_list_extend PySem.F.type_list_extend (k7 rfl) (sv 4) (s1 (sv 6))))))
 (Z1 (sst 8 j8.nd (scl T.x_l_take (Y8 T) hr (s2 (sv 0) (u1 rfl (sv 2) (sc0 Z2)))))
 (Z1 (z12 (g0 z5S (sv 3) (sc0 Z2) (j9 _)) (Y1 (J4 (G3 rfl (sxc (scl T.x_l_read (z94 T) hr (s2 (sv 1) (scl T.x_l_pressed (z5q T) hr (s3 (sv 0) (sv 1) (sc0 Z2))))) Z2) V5 (U9 (sv 8))))) k8)
 (Z1 (sst 9 j8.nd (J0 rfl (sa_of rfl .nil)))
 (Z1 (z0d PassesOwn.never rfl (z01 rfl T.n_range (s1 (sv 8))) (sgn 10 j8.nd) (Z1 (sst 11 j8.nd (z39 rfl z8Q rfl T.n_int PyProof.Rows.Boot.«int» (s1 (z3N (z3x rfl h64) (scl T.x_l_take (Y8 T) hr (s2 (sv 0) (sc0 Z2))) (sc0 Z2) (j9 _)))))
 (Y1 (V6 (z21 rfl PySem.F.slot_list_append PySem.F.type_list_append z0Y (sv 9) (s1 (sxx (J0 rfl (s2 (sxx (sv 4) (scl T.x_l_take (Y8 T) hr (s2 (sv 0) (sln T.n_len (s1 (sv 4)))))) (scl T.x_l_take (Y8 T) hr (s2 (sv 0) (sc0 Z2))))) (sv 11))))))))
 (Y1 (J4 (sv 9))))))))))
noncomputable def zds:MS:=(Y2 (z1p (V4 [(mCB [(mC (.int 1)),(mCB [(mC (.int 3)),(mCB [(Z0 0)] X8)] zd5)] zek)]) (.nm 1) (Y2 (W3 (.nm 2) (Z8 z3j [(Z0 0),(Z0 1)]))
 (Y2 (W3 (.nm 3) (Z8 z0v [(Z0 2)]))
 (Y2 (W3 (.nm 4) (Z8 K6 [(Z0 2),(Z0 3),(Z5 (mCB [(mC (.int 23)),(mC (.int 6))] lstM) (mCB [(Z5 (mCB [(Z0 3)] X8) (mC (.int 12)) gtD)] z9L) ixD)]))
 (Y2 (W3 (.nm 5) (Z8 Z3 [(Z0 2),(Z5 (mCB [(Z0 4)] X8) (mC (.int 1)) X9)]))
 (Y2 (W3 (.nm 6) (Z8 Z3 [(Z0 2),(mC (.int 40))]))
 (Y2 (W3 (.nm 7) z5Y)
 (Y2 (z1p (v4 (Z0 3)) (.tp [(.nm 8),(.nm 9),(.nm 10)]) (z1p (v4 (Z0 9)) (.nm 11) (z4c (mC (.bool true)) (Z0 7) (Z0 11) z5k)))
 (Y2 (sIf (V3 (Z5 (mCB [(Z0 7)] zdm) (mC (.int 40)) eqD)) (Y2 (W3 (.nm 3) (J3 (v4 (Z0 3)) (.tp [(.nm 0),(.nm 1),(.nm 2)]) (rt true) (mCB [(Z0 0),(mCB [] U1),(Z0 2)] U1) 3 []))
 (W3 (.nm 7) z5Y)) sNx)
 (Y2 (W3 (.nm 12) (J3 (V4 [(mC (.int 40))]) (.nm 0) (V3 (Z5 (Z0 0) (Z0 1) z4i)) (Z0 0) 1 [7]))
 (Y2 (W3 (.nm 9) (Z5 (Z5 (mSl (Z0 4) none (some (Z0 5))) (mCB [(Z5 (Z0 12) (Z5 (Z0 6) (mCB [(Z0 12)] X8) z2f) ixD)] lstM) X9) (mSl (Z0 4) (some (Z0 5)) none) X9))
 (Y2 (W3 (.nm 13) (mCB [(mCB [(Z0 3)] z3w),(mCB [(Z0 9)] z3w)] lstM))
 (Y2 (sIf (mOr (V3 (Z5 (Z8 W5 [(Z5 (Z0 13) (mC (.int 0)) ixD),(Z5 (Z0 13) (mC (.int 1)) ixD)]) (mC .non) zeh)) (V3 (Z5 (Z8 W5 [(Z0 3),(mCB [] lstM)]) (mCB [] lstM) neD))) (z0y (mC (.bool false))) sNx)
 (Y2 (W3 (.nm 14) (Z8 Q1 [(Z5 (Z0 13) (mC (.int 0)) ixD),(Z5 (Z0 13) (mC (.int 1)) ixD)]))
 (Y2 (sIf (mOr (z9K (z0T (zfL "list" (Z0 14)))) (z0T (mCB [(J3 (v4 (Z0 14)) (.tp [(.nm 0),(.nm 1),(.nm 2)]) (rt true) (Z5 (Z0 0) (Z0 3) gtD) 3 [5])] zan))) (z0y (mC (.bool false))) sNx)
 (sIf (mOr (V3 (Z5 (Z0 14) (Z8 Q1 [(Z0 3),(mSl (Z0 4) none (some (Z0 5)))]) neD)) (mOr (V3 (Z5 (Z0 13) (mCB [(Z0 3),(Z0 9)] lstM) neD)) (V3 (Z5 (mCB [(mC (.int 0)),(mCB [] U1),(mC (.int 0))] U1) (Z0 14) zbF)))) (z0y (mC (.bool false))) sNx))))))))))))))))
 (z0y (mC (.bool true))))
noncomputable def f_law:FM:=z33 15 zds
def zgh(T:Wd K mg):z0W P w K mg base CX0 7 T.x_law.f T.x_law.d zdr (spM (G0 K) 1 f_law):=okM zds T.x_law.F X1 λcdv A outer s H E F hr=>by
 have h64:=hr.units
 exact(Z1 (z0d PassesOwn.never rfl (z01 rfl T.n_range (s1 (z4k rfl (zg0 rfl) rfl T.n_max PyProof.Rows.Boot.«max» (s2 (sc0 Z2) (z4k rfl (zbL rfl) rfl T.n_min PyProof.Rows.Boot.«min» (s2 (sc0 Z2) (sln T.n_len (s1 (sv 0))))))))) (sgn 1 X1.nd) (Z1 (sst 2 X1.nd (scl T.x_l_bag (zaL T) hr (s2 (sv 0) (sv 1))))
 (Z1 (sst 3 X1.nd (scl T.x_l_table (z7t T) hr (s1 (sv 2))))
 (Z1 (sst 4 X1.nd (scl T.x_l_sounds (z67 T) hr (s3 (sv 2) (sv 3) (sxx (J0 rfl (s2 (sc0 Z2) (sc0 Z2))) (z39 rfl z8Q rfl T.n_int PyProof.Rows.Boot.«int» (s1 (z3N z5S (sln T.n_len (s1 (sv 3))) (sc0 Z2) (j9 _))))))))
 (Z1 (z2i (λ{te} h=>z2c (i:=5) X1.nd rfl (Or.inr rfl) h) (scl T.x_l_take (Y8 T) hr (s2 (sv 2) (u1 rfl (sln T.n_len (s1 (sv 4))) (sc0 Z2)))))
 (Z1 (sst 6 X1.nd (scl T.x_l_take (Y8 T) hr (s2 (sv 2) (sc0 Z2))))
 (Z1 (z2i (λ{te} h=>z2c (i:=7) X1.nd rfl (Or.inr rfl) h) (z6O rfl))
 (Z1 (z0d PassesOwn.never rfl (z1q rfl (sv 3)) (X0 rfl rfl (Z4 (sgn 8 X1.nd) (Z4 (sgn 9 X1.nd) (Z4 (sgn 10 X1.nd) u0)))) (Y1 (z0d PassesOwn.never rfl (z1q rfl (sv 9)) (sgn 11 X1.nd) (Y1 (zaG h64 (sc0 z7Q) (sv 7) (sv 11))))))
 (Z1 (z12 (g0 (z3x rfl h64) (z4k rfl zdo rfl T.n_len PyProof.Rows.Boot.«len» (s1 (sv 7))) (sc0 Z2) (j9 _)) (Z1 (csQ (own:=["_law_keys", "_law_sounds_here", "_law_left"]) (qj:=[]) (ix:=[]) 3 X1.nd (z1q rfl (sv 3)) (λ_ _ _ _ _ _ _=>(X0 rfl rfl (Z4 (v0 (U8 (i:=0) (show D0 (["_law_keys", "_law_sounds_here", "_law_left"]:List Str) by decide+kernel) rfl (Or.inl rfl))) (Z4 (v0 (U8 (i:=1) (show D0 (["_law_keys", "_law_sounds_here", "_law_left"]:List Str) by decide+kernel) rfl (Or.inl rfl))) (Z4 (v0 (U8 (i:=2) (show D0 (["_law_keys", "_law_sounds_here", "_law_left"]:List Str) by decide+kernel) rfl (Or.inl rfl))) u0))))) (λ_ _ _ _ _ _ _=>z14) (λ_ _ _ _ _ _ _=>(Q5 rfl (s3 (sv 0) (Q5 rfl (sa_of rfl .nil)) (sv 2)))))
 (Y1 (z2i (λ{te} h=>z2c (i:=7) X1.nd rfl (Or.inr rfl) h) (z6O rfl)))) k8)
 (Z1 (csQ (own:=["_law_sound"]) (qj:=["_law_known"]) (ix:=[7]) 12 X1.nd (z01 rfl T.n_range (s1 (sc0 Z2))) (λ_ _ _ _ _ _ _=>(v0 (U8 (i:=0) (show D0 (["_law_sound", "_law_known"]:List Str) by decide+kernel) rfl (Or.inl rfl)))) (λ_ _ _ _ _ _ _=>(zdh (g0 (zaB h64) (sv 0) (sv 1) (by with_unfolding_all rfl)))) (λ_ _ _ _ _ _ _=>(sv 0)))
 (Z1 (sst 9 X1.nd (u1 rfl (u1 rfl (G3 rfl (sv 4) V5 (U9 (sv 5))) (J0 rfl (s1 (sxx (sv 12) (z0t rfl (sv 6) (sln T.n_len (s1 (sv 12)))))))) (G3 rfl (sv 4) (U9 (sv 5)) V5)))
 (Z1 (sst 13 X1.nd (J0 rfl (s2 (z39 rfl (z5T rfl) rfl T.n_list PyProof.Rows.Boot.«list» (s1 (sv 3))) (z39 rfl (z5T rfl) rfl T.n_list PyProof.Rows.Boot.«list» (s1 (sv 9))))))
 (Z1 (z12 (SW.sb (z8X (g0 zda (scl T.x_p_fewest_keys (z0S T) hr (s2 (sxc (sv 13) Z2) (sxc (sv 13) Z2))) (sc0 z2I) (j9 _)) (z6M (g0 (zay rfl h64) (scl T.x_p_fewest_keys (z0S T) hr (s2 (sv 3) (J0 rfl (sa_of rfl .nil)))) (J0 rfl (sa_of rfl .nil)) (j9 _))))) (Y1 (J4 (sc0 z7Q))) k8)
 (Z1 (sst 14 X1.nd (scl T.x_p_key_standings (z0f T) hr (s2 (sxc (sv 13) Z2) (sxc (sv 13) Z2))))
 (Z1 (z12 (SW.sb (z8X (z6N (z0F rfl (zgf rfl (by decide) rfl T.n_isinstance (sv 14) (zcg (v:= .ty "list") rfl T.n_list PyProof.Rows.Boot.«list» rfl)))) (z6M (z0F rfl (z4k rfl (zbM rfl hr.hd) rfl T.n_any PyProof.Rows.Boot.«any» (s1 (cmQ (own:=["_law_place", "_law_waiting", "_law_many"]) (qj:=["_law_at"]) (ix:=[5]) (z1q rfl (sv 14)) (λ_ _ _ _ _ _ _=>(X0 rfl rfl (Z4 (v0 (U8 (i:=0) (show D0 (["_law_place", "_law_waiting", "_law_many", "_law_at"]:List Str) by decide+kernel) rfl (Or.inl rfl))) (Z4 (v0 (U8 (i:=1) (show D0 (["_law_place", "_law_waiting", "_law_many", "_law_at"]:List Str) by decide+kernel) rfl (Or.inl rfl))) (Z4 (v0 (U8 (i:=2) (show D0 (["_law_place", "_law_waiting", "_law_many", "_law_at"]:List Str) by decide+kernel) rfl (Or.inl rfl))) u0))))) (λ_ _ _ _ _ _ _=>z14) (λ_ _ _ _ _ _ _=>(z3N z5S (sv 0) (sv 3) (j9 _)))))))))) (Y1 (J4 (sc0 z7Q))) k8)
 (Y1 (z12 (SW.sb (z8X (g0 (zay rfl h64) (sv 14) (scl T.x_p_key_standings (z0f T) hr (s2 (sv 3) (G3 rfl (sv 4) V5 (U9 (sv 5))))) (j9 _)) (z8X (g0 (zay rfl h64) (sv 13) (J0 rfl (s2 (sv 3) (sv 9))) (j9 _)) (z6M (g0 (zfX rfl h64) (Q5 rfl (s3 (sc0 Z2) (Q5 rfl (sa_of rfl .nil)) (sc0 Z2))) (sv 14) (by with_unfolding_all rfl)))))) (Y1 (J4 (sc0 z7Q))) k8)))))))))))))))))
 (Y1 (J4 (sc0 z7Q))))
end
end My
namespace Mi
open PySem L2
def z0g{α:Type}(xs ys:List α)(k:Nat)(h:xs.length=k):(xs++ys).drop k=ys:=by subst h;simp
def z2F{α:Type}(xs ys:List α)(k:Nat)(h:xs.length=k):(xs++ys).take k=xs:=by subst h;simp
theorem z1A: ∀ds:List D,Q0 (ds.map some)=some ds
 |[]=>rfl
 |d::ds=>by simp[Q0,z1A ds]
def z7u{t:D}{ts:List D}{n':Nat}{s:Stt}:z32 (.ok t ts n') ts s= .ok t {s with n:=n'}:=by
 delta z32;simp
end Mi
set_option maxHeartbeats 40000
namespace Mi
open PySem L2
class Kq{α:Type}(f:α):Type where
instance kq{α:Type}(f:α):Kq f:=⟨⟩
noncomputable def Res.bnd{α β:Type}(f:α->Stt->Res β)[Kq f](r:Res α):Res β:=match r with
 | .ok a s=>f a s
 | .ex d s=> .ex d s
 | .no=> .no
def z3l{α β:Type}{a:α}{s:Stt}{f:α->Stt->Res β}:((Res.ok a s).bnd f:Res β)=f a s:=(rfl)
noncomputable def Res.lf{α:Type}(f:α->MS)[Kq f](r:Res α):RS:=match r with
 | .ok a s=>f a s
 | .ex d s=> .ex d s
 | .no=> .no
def z7v{α:Type}{a:α}{s:Stt}{f:α->MS}:((Res.ok a s).lf f:RS)=f a s:=(rfl)
noncomputable def RS.sq(m:MS)[Kq m](r:RS):RS:=match r with
 | .nx s=>m s
 |r=>r
def zis{s:Stt}{m:MS}:((RS.nx s).sq m:RS)=m s:=(rfl)
def zit{d:D}{s:Stt}{m:MS}:((RS.rt d s).sq m:RS)= .rt d s:=(rfl)
noncomputable def RS.fin(r:RS):RF:=match r with
 | .nx s'=>match Q0 s'.tm with|some ts'=> .ok .non ts' s'.n|none=> .no
 | .rt t s'=>match Q0 s'.tm with|some ts'=> .ok t ts' s'.n|none=> .no
 | .ex d s'=>match Q0 s'.tm with|some ts'=> .ex d ts' s'.n|none=> .no
 |_=> .no
noncomputable def zjv(o:Option (List D))(t:D)(n:Nat):RF:=match o with|some ts=> .ok t ts n|none=> .no
def z95{ts:List D}{t:D}{n:Nat}:zjv (some ts) t n= .ok t ts n:=(rfl)
def ziu{t:D}{σ tm:Qq}{n:Nat}:(RS.rt t ⟨σ,tm,n⟩).fin=zjv (Q0 tm) t n:=(rfl)
def ziv{nl:Nat}{mb:MS}{ts:List D}{n:Nat}:z33 nl mb ts n=(mb ⟨ts.map some++A8 (nl -ts.length) none,ts.map some,n⟩).fin:=(rfl)
section
variable{α β:Type}{m ma mb mc:M D}{s:Stt}{ms:List (M D)}{σ tm:Qq}{n:Nat}
def ziw{m:M α}{f:α->M β}:bd m f s=(m s).bnd f:=(rfl)
def zk5{a:α}:rt a s= .ok a s:=(rfl)
def zgi{t:D}:Stt.psh ⟨σ,tm,n⟩ t=⟨σ,some t::tm,n⟩:=(rfl)
def zix:Stt.nxt ⟨σ,tm,n⟩=⟨σ,tm,n+1⟩:=(rfl)
def ziy{t:D}{r:Qq}:pop ⟨σ,some t::r,n⟩= .ok t ⟨σ,r,n⟩:=(rfl)
noncomputable def vOf(o:Option (Option D))(s:Stt):Res D:=match o with
 |some (some t)=> .ok t s
 |_=> .no
def zaM{t:D}:vOf (some (some t)) s= .ok t s:=(rfl)
def ziz{i:Nat}:Z0 i ⟨σ,tm,n⟩=vOf (σ[i]?) ⟨σ,tm,n⟩:=by
 delta Z0 vOf
 cases σ[i]? with
 |none=>rfl
 |some o=>cases o<;>rfl
def x_C{d:D}:mC d s= .ok d s:=(rfl)
def zdt{g:D->D->M D}:Z5 ma mb g s=(ma s).bnd λx s1=>(mb (s1.psh x)).bnd λy s2=>(pop s2).bnd λx' s3=>g x' y s3:=(rfl)
def ziA:V3 m s=(m s).bnd zhv:=(rfl)
def zgj{b:Bool}:zhv (.bool b) s= .ok b s:=(rfl)
def zgk:z0T m s=(m s).bnd zd1:=(rfl)
def zk6{b:Bool}:zd1 (.bool b) s= .ok b s:=(rfl)
def zk7{ds:List D}:zd1 (.tup ds) s= .ok (!ds.isEmpty) s:=(rfl)
def zk8{l:Nat}{ds:List D}:zd1 (.lst l ds) s= .ok (!ds.isEmpty) s:=(rfl)
def ziB{m m':M Bool}:z7G m m' s=(m s).bnd λb=>zbG b m' (rt false):=(rfl)
def zk9{m m':M Bool}:mOr m m' s=(m s).bnd λb=>zbG b (rt true) m':=(rfl)
def ziC{m:M Bool}:z9K m s=(m s).bnd λb s1=> .ok (!b) s1:=(rfl)
def zgl{m m':M D}:z8I m m' s=(m s).bnd λd s1=>(zhv d s1).bnd λb=>zbG b m' (rt (.bool false)):=by
 delta z8I V3 bd Res.bnd
 cases m s<;>rfl
def zka{m m':M α}:zbG true m m' s=m s:=(rfl)
def zkb{m m':M α}:zbG false m m' s=m' s:=(rfl)
def zdu:Q2 [] s= .ok [] s:=(rfl)
def z3m:Q2 (m::ms) s=(m s).bnd λx s1=>(Q2 ms (s1.psh x)).bnd λys s2=>(pop s2).bnd λx' s3=> .ok (x'::ys) s3:=(rfl)
def zjw{g:List D->M D}:mCB ms g s=(Q2 ms s).bnd g:=(rfl)
def zgm{f:FM}:Z8 f ms s=(Q2 ms s).bnd λts s1=>z32 (f ts s1.n) ts s1:=(rfl)
noncomputable def ziD(o:Option Bool)(s:Stt):Res D:=match o with
 |some b=> .ok (.bool b) s
 |none=> .no
def z96{b:Bool}:ziD (some b) s= .ok (.bool b) s:=(rfl)
def ziE{T:String}:zfL T m s=(m s).bnd λd s1=>ziD (isiD T d) s1:=by
 delta zfL bd Res.bnd ziD
 cases m s with
 |ok d s1=>dsimp only;cases isiD T d<;>rfl
 |ex d s1=>rfl
 |no=>rfl
noncomputable def ziF(o:Option Int)(s:Stt):Res (Option Int):=match o with
 |some i=> .ok (some i) s
 |none=> .no
def z97{i:Int}:ziF (some i) s= .ok (some i) s:=(rfl)
def zdv:z3v none s= .ok none s:=(rfl)
def zdw:z3v (some m) s=(m s).bnd λd s1=>ziF (mInt d) s1:=by
 show bd m (λd=>match mInt d with|some i=>rt (some i)|none=>fl) s=_
 delta bd Res.bnd
 cases m s with
 |ok d s1=>show(match mInt d with|some i=>rt (some i)|none=>fl:M (Option Int)) s1=ziF (mInt d) s1;cases mInt d<;>rfl
 |ex d s1=>rfl
 |no=>rfl
def zgn{i:Int}:mInt (.int i)=some i:=(rfl)
def zkc{lo hi:Option (M D)}:mSl m lo hi s=(m s).bnd λx s1=>(z3v lo (s1.psh x)).bnd λl s2=>(z3v hi s2).bnd λh s3=>(pop s3).bnd λx' s4=>slD x' l h s4:=(rfl)
def zgo{i j:Int}:X9 (.int i) (.int j) s= .ok (.int (i+j)) s:=(rfl)
def z6P{a b:List D}(h:a.length+b.length<=qh):X9 (.tup a) (.tup b) s= .ok (.tup (a++b)) s:=by erw[X9,qw h];rfl
def zbT{k l:Nat}{a b:List D}(h:a.length+b.length<=qh):X9 (.lst k a) (.lst l b) s= .ok (.lst s.n (a++b)) s.nxt:=by erw[X9,qw h];rfl
def z98{i j:Int}(h:zec i j):z49 (.int i) (.int j) s= .ok (.int (i/j)) s:=by erw[z49,qw h];rfl
def z2w{i j:Int}(h:0<j):z2f (.int i) (.int j) s= .ok (.int (i %j)) s:=by erw[z2f,qw h];rfl
def zdx{i j:Int}(h:zed i j):zbE (.int i) (.int j) s= .ok (.int (i^j.toNat)) s:=by erw[zbE,qw h];rfl
def zkd{i j:Int}:ltD (.int i) (.int j) s= .ok (.bool (decide (i<j))) s:=(rfl)
def zke{i j:Int}:gtD (.int i) (.int j) s= .ok (.bool (decide (j<i))) s:=(rfl)
def ziG{t t':D}(h:eqC t t'=true):eqD t t' s= .ok (.bool (PyData.eqv (er t) (er t'))) s:=by erw[eqD,qw h];rfl
def zjx{t t':D}(h:eqC t t'=true):neD t t' s= .ok (.bool (!PyData.eqv (er t) (er t'))) s:=by erw[neD,qw h];rfl
def ziH{t t':D}{ds:List D}(e:z5C t'=some ds)(h:inC t ds=true):zbF t t' s= .ok (.bool (!(erL ds).any λy=>PyData.eqv y (er t))) s:=by erw[zbF,e,qw h];rfl
def ziI{ds:List D}{i:Int}:ixD (.tup ds) (.int i) s=zei (atI ds i) s:=(rfl)
def ziJ{l:Nat}{ds:List D}{i:Int}:ixD (.lst l ds) (.int i) s=zei (atI ds i) s:=(rfl)
def ziK{ds:List D}{i:Int}:ixD (.ro ds) (.int i) s=zei (atI ds i) s:=(rfl)
def ziL{d:D}:zei (some d) s= .ok d s:=(rfl)
def ziM{ds:List D}{lo hi:Option Int}:slD (.tup ds) lo hi s= .ok (.tup (z4a ds lo hi)) s:=(rfl)
def ziN{l:Nat}{ds:List D}{lo hi:Option Int}:slD (.lst l ds) lo hi s= .ok (.lst s.n (z4a ds lo hi)) s.nxt:=(rfl)
def zaN{ts:List D}(h:ts.length<=qh):U1 ts s= .ok (.tup ts) s:=by erw[U1,qw h];rfl
def zdy{ts:List D}(h:ts.length<=qh):lstM ts s= .ok (.lst s.n ts) s.nxt:=by erw[lstM,qw h];rfl
def zgp{ds:List D}:X8 [.tup ds] s= .ok (.int ds.length) s:=(rfl)
def zgq{l:Nat}{ds:List D}:X8 [.lst l ds] s= .ok (.int ds.length) s:=(rfl)
def zgr{ds:List D}:X8 [.ro ds] s= .ok (.int ds.length) s:=(rfl)
def ziO{i:Int}:zej [.int i] s= .ok (.int (if i<0 then -i else i)) s:=(rfl)
def ziP{i j:Int}:zd5 [.int i, .int j] s= .ok (.int (if j<i then j else i)) s:=(rfl)
def ziQ{i j:Int}:zek [.int i, .int j] s= .ok (.int (if j>i then j else i)) s:=(rfl)
def zgs{b:Bool}:z9L [.bool b] s= .ok (.int (if b then 1 else 0)) s:=(rfl)
def zgt{ds:List D}:z5b [.tup ds] s= .ok (.tup ds) s:=(rfl)
def zgu{l:Nat}{ds:List D}:z5b [.lst l ds] s= .ok (.tup ds) s:=(rfl)
def zdz{ds:List D}:z3w [.tup ds] s= .ok (.lst s.n ds) s.nxt:=(rfl)
def zdA{l:Nat}{ds:List D}:z3w [.lst l ds] s= .ok (.lst s.n ds) s.nxt:=(rfl)
def zgv{l:Nat}{ds:List D}{bs:List Bool}(h:z0r ds=some bs):zan [.lst l ds] s= .ok (.bool (bs.any id)) s:=by erw[zan,h];rfl
def ziR{a b:MS}:Y2 a b s=(a s).sq b:=by
 delta Y2 RS.sq
 cases a s<;>rfl
def zgw{m:M α}{f:α->MS}:z1o m f s=(m s).lf f:=(rfl)
def ziS:sNx s= .nx s:=(rfl)
def zgx:z0y m s=(m s).lf λd s1=> .rt d s1:=(rfl)
def zdB:v3 m s=(m s).lf λ_ s1=> .nx s1:=(rfl)
def ziT{c:M Bool}{a b:MS}:sIf c a b s=(c s).lf λk=>zbH k a b:=(rfl)
def zkf{a b:MS}:zbH true a b s=a s:=(rfl)
def zkg{a b:MS}:zbH false a b s=b s:=(rfl)
noncomputable def ziU(o:Option Qq)(s:Stt):RS:=match o with
 |some σ'=> .nx {s with σ:=σ'}
 |none=> .no
def z99{σ':Qq}:ziU (some σ') ⟨σ,tm,n⟩= .nx ⟨σ',tm,n⟩:=(rfl)
def zgy{g:Tg}:W3 g m s=(m s).lf λd s1=>ziU (asg g d s1.σ) s1:=by
 delta W3 z1o Res.lf ziU
 cases m s with
 |ok d s1=>first|(dsimp only;cases asg g d s1.σ<;>rfl)|(dsimp only;done)|rfl
 |ex d s1=>rfl
 |no=>rfl
def ziV{me mo mi:M D}{g:D->D->D->MS}:z4c me mo mi g s=(me s).lf λv s1=>(mo (s1.psh v)).lf λo s2=>(mi (s2.psh o)).lf λi s3=>(pop s3).lf λo' s4=>(pop s4).lf λv' s5=>g o' i v' s5:=(rfl)
def zgz{l:Nat}{ds:List D}{k:Int}{v:D}{j:Nat}(e:ixN ds.length k=some j)(h:l∉labs v):zd9 (.lst l ds) (.int k) v s= .nx (s.put l (.lst l (ds.set j v))):=by erw[zd9,e,qw h]
def zgA{mo:M D}{g:D->List D->M D}:u2 mo ms g s=(mo s).bnd λx s1=>(isL x s1).bnd λ_ s2=>(Q2 ms (s2.psh x)).bnd λys s3=>(pop s3).bnd λx' s4=>g x' ys s4:=(rfl)
def ziW{l:Nat}{ds:List D}:isL (.lst l ds) s= .ok () s:=(rfl)
def y_app{l:Nat}{ds:List D}{y:D}(h:ds.length<qh/\l∉labs y):z5e (.lst l ds) [y] s= .ok .non (s.put l (.lst l (ds++[y]))):=by erw[z5e,qw h]
end
def z3O{α:Type}{xs:List α}{i:Int}{d:α}(h0:0<=i)(h:xs[i.toNat]? =some d):atI xs i=some d:=by
 obtain⟨j,rfl⟩:=R5 h0
 exact zcx (by simpa using h)
end Mi
set_option maxHeartbeats 400000
namespace Mi
open PySem L2
noncomputable def pl(l:Nat)(d:D):Nat->Option D:=λk=>if k=l then some d else none
def z1P{σ tm:Qq}{n l:Nat}{d:D}:Stt.put ⟨σ,tm,n⟩ l d=⟨rpO (pl l d) σ,rpO (pl l d) tm,n⟩:=(rfl)
def z0h{l:Nat}{d t:D}(h:l∉labs t):rp (pl l d) t=t:=z8z t λk hk=>by
 delta pl;rw[qy];intro e;subst e;exact h hk
def W0{f:Nat->Option D}:rpO f []=[]:=(rfl)
def zaO{f:Nat->Option D}{r:Qq}:rpO f (none::r)=none::rpO f r:=(rfl)
def zaP{f:Nat->Option D}{d:D}{r:Qq}:rpO f (some d::r)=some (rp f d)::rpO f r:=(rfl)
def zgB{l:Nat}{d:D}{b:List D}:rp (pl l d) (.lst l b)=d:=by erw[rp,pl,if_true]
def G2{f:Nat->Option D}{i:Int}:rp f (.int i)= .int i:=(rfl)
def zbU{f:Nat->Option D}{ds:List D}:rp f (.tup ds)= .tup (rpL f ds):=(rfl)
def U4{f:Nat->Option D}:rpL f []=[]:=(rfl)
def U7{f:Nat->Option D}{d:D}{ds:List D}:rpL f (d::ds)=rp f d::rpL f ds:=(rfl)
mutual
theorem z3P{l:Nat}: ∀t:D,l∉labs t->findT l t=none
 | .non,_=>rfl
 | .bool _,_=>rfl
 | .int _,_=>rfl
 | .str _,_=>rfl
 | .exc _,_=>rfl
 | .fn _,_=>rfl
 | .tup ds,h=>by erw[labs] at h;erw[findT];exact findL_none ds h
 | .ro ds,h=>by erw[labs] at h;erw[findT];exact findL_none ds h
 | .fdc ks ds,h=>by erw[labs] at h;erw[findT];exact findL_none ds h
 | .lst k ds,h=>by
  erw[labs,l6,not_or] at h;erw[findT];rw[qy λe=>h.1 e.symm];exact findL_none ds h.2
 | .dct k ks ds,h=>by
  erw[labs,l6,i9,not_or] at h;erw[findT];rw[qy λe=>h.1 e.symm];exact findL_none ds h.2.2
 | .obj k c ks ds,h=>by
  erw[labs,l6,not_or] at h;erw[findT];rw[qy λe=>h.1 e.symm];exact findL_none ds h.2
theorem findL_none{l:Nat}: ∀t:List D,l∉qq t->findL l t=none
 |[],_=>rfl
 |d::ds,h=>by
  erw[qq,i9,not_or] at h
  erw[findL,z3P d h.1,findL_none ds h.2]
end
def z0w{t:D}{l n' n:Nat}{b b' r:List D}{σ tm:Qq}(hb:qq b=[])(hb':qq b'=[])(hr:qq r=[])(f1:rpO (pl l (.lst l b)) σ=σ)(f2:rpO (pl l (.lst l b)) tm=tm):
 z32 (.ok t (.lst l b'::r) n') (.lst l b::r) ⟨σ,tm,n⟩= .ok t ⟨rpO (pl l (.lst l b')) σ,rpO (pl l (.lst l b')) tm,n'⟩:=by
 have e:(λk=>findL k (.lst l b'::r))=pl l (.lst l b'):=by
  funext k
  erw[findL,findT,pl]
  by_cases h:l=k
  .subst h;rw[qw rfl,qw rfl]
  .rw[qy h,qy λq=>h q.symm,findL_none b' (by rw[hb'];exact A2),findL_none r (by rw[hr];exact A2)]
 delta z32
 by_cases h:(D.lst l b'::r)=(D.lst l b::r)
 .have hh:b'=b:=by injection h with h _;injection h
  subst hh
  erw[if_true]
  rw[f1,f2]
 .erw[qy h]
  rw[qw,e]
  intro k _ hk
  erw[qq,labs,hb,hr,l4,m4] at hk
  subst hk
  have:=congrFun e k
  rw[show findL k (D.lst k b'::r)=pl k (D.lst k b') k from this];simp[pl]
end Mi
set_option maxHeartbeats 4000000
namespace Mi
open PySem L2
def zaQ{K:ItK}{g:Tg}{mt:M Bool}{me:M D}{items:List D}{its:Qq}{ol k:Nat}{β:Type}{cap σ0 tm0:β->Qq}{frd:D->Qq}{PL:Nat->Nat->List D->β->Prop}
 (hk:its.length=K.k) (hol: ∀b,(σ0 b).length=ol) (hz:items.length<qh) (hat: ∀i rest,K.at' i (its++rest)=some items[i]?)
 (has: ∀d∈items,∀b (pre:Qq),pre.length=k->asg g d (pre++cap b)=some (frd d++cap b)) (hfr: ∀d∈items,(frd d).length=k)
 (hme: ∀(i:Nat) (hi:i<items.length) (acc:List D) (b:β) (n:Nat),acc.length<=i->PL i n acc b->∃ok n1,mt ⟨frd items[i]++cap b,acc.reverse.map some++(σ0 b++(its++tm0 b)),n⟩= .ok ok ⟨frd items[i]++cap b,acc.reverse.map some++(σ0 b++(its++tm0 b)),n1⟩/\
  ((ok=false/\PL (i+1) n1 acc b)\/(ok=true/\∃y b' n',PL (i+1) n' (acc++[y]) b'/\me ⟨frd items[i]++cap b,acc.reverse.map some++(σ0 b++(its++tm0 b)),n1⟩= .ok y ⟨frd items[i]++cap b',acc.reverse.map some++(σ0 b'++(its++tm0 b')),n'⟩))):
 ∀(f i:Nat) (acc:List D) (b:β) (pre:Qq) (n:Nat),i+f=items.length->acc.length<=i->pre.length=k->PL i n acc b->∃ys b' n',PL items.length n' ys b'/\K4 K g mt me ol f i acc.length ⟨pre++cap b,acc.reverse.map some++(σ0 b++(its++tm0 b)),n⟩= .ok (.lst n' ys) ⟨σ0 b',tm0 b',n'+1⟩:=by
 intro f
 induction f with
 |zero=>
  intro i acc b pre n hi ha hp hq
  obtain rfl:i=items.length:=by lia
  refine⟨acc,b,n,hq, ?_⟩
  have l1:(acc.reverse.map some).length=acc.length:=by simp
  have e1:(acc.reverse.map some++(σ0 b++(its++tm0 b))).drop (acc.length+ol)=its++tm0 b:=by
   rw[<-m9];exact z0g _ _ _ (by simp[hol])
  unfold K4
  erw[e1,hat,List.getElem?_eq_none (i8 _)]
  rw[z2F _ _ _ l1,<-u0c,S8,z1A]
  erw[z0g _ _ _ l1,z2F _ _ _ (hol b)]
  rw[<-D9,e1,z0g _ _ _ hk]
 |succ f ih=>
  intro i acc b pre n hi ha hp hq
  have hlt:i<items.length:=by lia
  have hm:=C3 hlt
  have e1:(acc.reverse.map some++(σ0 b++(its++tm0 b))).drop (acc.length+ol)=its++tm0 b:=by
   rw[<-m9];exact z0g _ _ _ (by simp[hol])
  obtain⟨ok,n1,h1,⟨rfl,h2⟩|⟨rfl,y,b',n',h2,h3⟩⟩:=hme i hlt acc b n ha hq
  .obtain⟨ys,b',n',g1,g2⟩:=ih (i+1) acc b (frd items[i]) n1 ⋯ ⋯ (hfr _ hm) h2
   refine⟨ys,b',n',g1, ?_⟩
   unfold K4
   erw[e1,hat,List.getElem?_eq_getElem hlt,has _ hm b pre hp,h1]
   exact g2
  .obtain⟨ys,b2,n2,g1,g2⟩:=ih (i+1) (acc++[y]) b' (frd items[i]) n' ⋯ (by simp;lia) (hfr _ hm) h2
   refine⟨ys,b2,n2,g1, ?_⟩
   unfold K4
   erw[e1,hat,List.getElem?_eq_getElem hlt,has _ hm b pre hp,h1,qw (show acc.length<qh by lia),h3]
   erw[l8,o0,C0,I0,F7,A6,F8,A4,t8,i6,m8,B3,m9] at g2
   exact g2
def z9a{mi:M ItK}{K:ItK}{g:Tg}{mt:M Bool}{me:M D}{items:List D}{its:Qq}{ix:List Nat}{k:Nat}{β:Type}{cap σ tm:β->Qq}(frd:D->Qq)(PL:Nat->Nat->List D->β->Prop){s:Stt}{b:β}{n:Nat}
 (hcap: ∀b,cap b=ix.map λj=>((σ b)[j]?).getD none)
 (hc:mi s= .ok K ⟨σ b,its++tm b,n⟩) (hk:its.length=K.k) (hol: ∀b',(σ b').length=(σ b).length) (hz:items.length<qh) (hat: ∀i rest,K.at' i (its++rest)=some items[i]?) (hlen:K.len (its++tm b)=items.length)
 (has: ∀d∈items,∀b (pre:Qq),pre.length=k->asg g d (pre++cap b)=some (frd d++cap b)) (hfr: ∀d∈items,(frd d).length=k) (h0:PL 0 n [] b)
 (hme: ∀(i:Nat) (hi:i<items.length) (acc:List D) (b:β) (n:Nat),acc.length<=i->PL i n acc b->∃ok n1,mt ⟨frd items[i]++cap b,acc.reverse.map some++(σ b++(its++tm b)),n⟩= .ok ok ⟨frd items[i]++cap b,acc.reverse.map some++(σ b++(its++tm b)),n1⟩/\
  ((ok=false/\PL (i+1) n1 acc b)\/(ok=true/\∃y b' n',PL (i+1) n' (acc++[y]) b'/\me ⟨frd items[i]++cap b,acc.reverse.map some++(σ b++(its++tm b)),n1⟩= .ok y ⟨frd items[i]++cap b',acc.reverse.map some++(σ b'++(its++tm b')),n'⟩))):
 ∃ys b' n',PL items.length n' ys b'/\J3 mi g mt me k ix s= .ok (.lst n' ys) ⟨σ b',tm b',n'+1⟩:=by
 obtain⟨ys,b',n',h1,h2⟩:=zaQ (K:=K) (σ0:=σ) (tm0:=tm) hk hol hz hat has hfr hme items.length 0 [] b (A8 k none) n (by simp) (by simp) (by simp) h0
 refine⟨ys,b',n',h1, ?_⟩
 delta J3
 rw[hcap] at h2
 erw[bd,hc,hlen]
 exact h2
def zdC{mi:M ItK}{K:ItK}{g:Tg}{mt:M Bool}{me:M D}{p:D->Bool}{gf:D->D}{items:List D}{its:Qq}{ix:List Nat}{k:Nat}{σ tm:Qq}(frd:D->Qq){s:Stt}{n:Nat}
 (hc:mi s= .ok K ⟨σ,its++tm,n⟩) (hk:its.length=K.k) (hz:items.length<qh) (hat: ∀i rest,K.at' i (its++rest)=some items[i]?) (hlen:K.len (its++tm)=items.length)
 (has: ∀d∈items,∀pre:Qq,pre.length=k->asg g d (pre++ix.map λj=>(σ[j]?).getD none)=some (frd d++ix.map λj=>(σ[j]?).getD none)) (hfr: ∀d∈items,(frd d).length=k)
 (hmt: ∀d∈items,∀tm n,∃n',n<=n'/\mt ⟨frd d++(ix.map λj=>(σ[j]?).getD none),tm,n⟩= .ok (p d) ⟨frd d++(ix.map λj=>(σ[j]?).getD none),tm,n'⟩)
 (hme: ∀d∈items,p d=true->∀tm n,∃n',n<=n'/\me ⟨frd d++(ix.map λj=>(σ[j]?).getD none),tm,n⟩= .ok (gf d) ⟨frd d++(ix.map λj=>(σ[j]?).getD none),tm,n'⟩):
 ∃n',n<=n'/\J3 mi g mt me k ix s= .ok (.lst n' ((items.filter p).map gf)) ⟨σ,tm,n'+1⟩:=by
 obtain⟨ys,_,n',⟨h1,rfl⟩,h2⟩:=z9a (β:=Unit) (σ:=λ_=>σ) (tm:=λ_=>tm) (cap:=λ_=>ix.map λj=>(σ[j]?).getD none) (mt:=mt) (me:=me) (ix:=ix) (b:=()) frd (λi m acc _=>n<=m/\acc=((items.take i).filter p).map gf) (λ_=>rfl) hc hk (λ_=>rfl) hz hat hlen (λd hd _=>has d hd) hfr ⟨i8 _,rfl⟩ (by
  rintro i hi acc _ m ha ⟨h1,rfl⟩
  obtain⟨n1,h4,h5⟩:=hmt items[i] (C3 hi) ((((items.take i).filter p).map gf).reverse.map some++(σ++(its++tm))) m
  refine⟨p items[i],n1,h5, ?_⟩
  rw[F2 hi,u00,t8]
  cases hp:p items[i] with
  |false=>exact .inl ⟨rfl,⋯,by simp[hp]⟩
  |true=>
   obtain⟨n2,h6,h7⟩:=hme items[i] (C3 hi) hp ((((items.take i).filter p).map gf).reverse.map some++(σ++(its++tm))) n1
   exact .inr ⟨rfl,_,(),n2,⟨⋯,by simp[hp]⟩,h7⟩)
 rw[E5] at h2
 exact⟨n',h1,h2⟩
def zjy{d:D}{c:Qq}: ∀pre:Qq,pre.length=1->asg (.nm 0) d (pre++c)=some ([some d]++c):=λpre hp=>by
 obtain⟨_,rfl⟩:=List.length_eq_one_iff.mp hp;rfl
def at_ints{lo:Int}{N i:Nat}{rest:Qq}:(z7H lo N).at' i ([]++rest)=some (z0s lo N)[i]? :=by
 erw[z7H,z0s,List.getElem?_map]
 by_cases h:i<N
 .rw[qw h,List.getElem?_range h];rfl
 .rw[qy h,List.getElem?_eq_none (by simp;lia)];rfl
end Mi
set_option maxHeartbeats 400000
namespace Mi
open PySem L2
def z68{mi:M ItK}{g:Tg}{b:MS}{s:Stt}:z1p mi g b s=(mi s).lf λK s=>forGo K g b (K.len s.tm) 0 s:=(rfl)
def z9b{ms:List (M D)}{s:Stt}:V4 ms s=(Q2 ms s).bnd zfR:=(rfl)
def z1Q{j:Int}{s:Stt}(h: -(2^62)<=j/\j<2^62):zfR [.int j] s= .ok (z7H 0 j.toNat) s:=by erw[zfR,qw h];rfl
def zgC{lo:Int}{N:Nat}{tm:Qq}:(z7H lo N).len tm=N:=(rfl)
def z1B{P:Nat->Stt->Prop}{lo:Int}{N:Nat}{g:Tg}{b:MS}
 (body: ∀i,i<N->∀s,P i s->∃σ',asg g (.int (lo+i)) s.σ=some σ'/\∃s',b {s with σ:=σ'}= .nx s'/\P (i+1) s'):
 ∀(f i:Nat) (s:Stt),i+f=N->P i s->∃s',forGo (z7H lo N) g b f i s= .nx s'/\P N s':=by
 intro f
 induction f with
 |zero=>
  intro i s hi h
  have e:i=N:=by lia
  subst e
  refine⟨s, ?_,h⟩
  unfold forGo
  erw[z7H,D8,if_false]
  rfl
 |succ f ih=>
  intro i s hi h
  have hl:i<N:=by lia
  obtain⟨σ',e1,s',e2,h'⟩:=body i hl s h
  obtain⟨s2,e3,h2⟩:=ih (i+1) s' ⋯ h'
  refine⟨s2, ?_,h2⟩
  unfold forGo
  erw[z7H,qw hl,e1,e2]
  exact e3
mutual
theorem zgD{l:Nat}{b:List D}{d:D}: ∀t:D,rp (pl l d) (rp (pl l (.lst l b)) t)=rp (pl l d) t
 | .non=>rfl
 | .bool _=>rfl
 | .int _=>rfl
 | .str _=>rfl
 | .exc _=>rfl
 | .fn _=>rfl
 | .tup ds=>by erw[rp];rw[rpL_rp ds]
 | .ro ds=>by erw[rp];rw[rpL_rp ds]
 | .fdc ks ds=>by erw[rp];rw[rpL_rp ds]
 | .lst k ds=>by
  by_cases h:k=l
  .subst h;erw[rp,pl,if_true]
  .have e: ∀x,pl l x k=none:=λx=>by erw[pl,qy h]
   erw[rp,e];rw[rpL_rp ds]
 | .dct k ks ds=>by
  by_cases h:k=l
  .subst h;erw[rp,pl,if_true]
  .have e: ∀x,pl l x k=none:=λx=>by erw[pl,qy h]
   erw[rp,e];rw[rpL_rp ds]
 | .obj k c ks ds=>by
  by_cases h:k=l
  .subst h;erw[rp,pl,if_true]
  .have e: ∀x,pl l x k=none:=λx=>by erw[pl,qy h]
   erw[rp,e];rw[rpL_rp ds]
theorem rpL_rp{l:Nat}{b:List D}{d:D}: ∀t:List D,rpL (pl l d) (rpL (pl l (.lst l b)) t)=rpL (pl l d) t
 |[]=>rfl
 |t::ts=>by erw[rpL];rw[zgD t,rpL_rp ts]
end
theorem z3Q{l:Nat}{b:List D}{d:D}: ∀t:Qq,rpO (pl l d) (rpO (pl l (.lst l b)) t)=rpO (pl l d) t
 |[]=>rfl
 |none::ts=>by erw[rpO];rw[z3Q ts]
 |some t::ts=>by erw[rpO];rw[zgD t,z3Q ts]
theorem z26{f:Nat->Option D}: ∀(a b:Qq),rpO f (a++b)=rpO f a++rpO f b
 |[],b=>rfl
 |none::a,b=>by erw[B3,rpO,z26 a b]
 |some d::a,b=>by erw[B3,rpO,z26 a b]
theorem z69{f:Nat->Option D}: ∀(a:Qq),(rpO f a).length=a.length
 |[]=>rfl
 |none::a=>by erw[rpO,o0,z69 a]
 |some d::a=>by erw[rpO,o0,z69 a]
theorem z5r: ∀ds:List D,Y6 (ds.map some)=qq ds
 |[]=>rfl
 |d::ds=>by erw[i6,Y6,qq,z5r ds]
theorem z3n: ∀a b:List D,qq (a++b)=qq a++qq b
 |[],b=>rfl
 |d::ds,b=>by erw[B3,qq,z3n ds b,m9]
theorem z9c{l:Nat}: ∀ds:List D,l∈qq ds.reverse↔l∈qq ds
 |[]=>Iff.rfl
 |d::ds=>by erw[A6,z3n,qq,i9,z9c ds,l4];exact Or.comm
def z5s{l:Nat}{d:D}{ds:List D}(h:l∉qq ds):rpO (pl l d) (ds.reverse.map some)=ds.reverse.map some:=z8A _ λk hk=>by
 rw[z5r,z9c] at hk
 delta pl;rw[qy];intro e;subst e;exact h hk
def zaR{l:Nat}{d:D}{σ:Qq}(ix:List Nat):(ix.map λi=>((rpO (pl l d) σ)[i]?).getD none)=rpO (pl l d) (ix.map λi=>(σ[i]?).getD none):=by
 have at': ∀(σ:Qq) (i:Nat),(rpO (pl l d) σ)[i]? =(σ[i]?).map (B6 (rp (pl l d))):=by
  intro σ
  induction σ with
  |nil=>intro i;rfl
  |cons o σ ih=>intro i;cases o<;>cases i<;>simp[rpO,ih]
 induction ix with
 |nil=>rfl
 |cons i ix ih=>
  rw[i6,i6,ih,at']
  cases σ[i]? with
  |none=>rfl
  |some o=>cases o<;>rfl
def z5t{ms:List (M D)}{me:M D}{N:Nat}{ix:List Nat}{s:Stt}{l n:Nat}{j:Int}{σ0 tm0:Qq}{b:List D}{Bg:List D->Prop}{Q:Nat->D->Prop}(mono: ∀a b,a<=b->∀y,Q a y->Q b y)(hms:Q2 ms s= .ok [.int j] ⟨σ0,tm0,n⟩)(hj:j.toNat=N)(hj': -(2^62)<=j/\j<2^62)(hz:N<qh)
 (hb:Bg b) (hn:l<n) (f1:rpO (pl l (.lst l b)) σ0=σ0) (f2:rpO (pl l (.lst l b)) tm0=tm0) (f3:rpO (pl l (.lst l b)) (ix.map λi=>(σ0[i]?).getD none)=ix.map λi=>(σ0[i]?).getD none)
 (hme: ∀i,i<N->∀b tm n,Bg b->l<n->rpO (pl l (.lst l b)) tm=tm->∃y b' n',Bg b'/\Q n' y/\n<=n'/\l∉labs y/\me ⟨some (.int (0+(i:Nat)))::rpO (pl l (.lst l b)) (ix.map λi=>(σ0[i]?).getD none),tm,n⟩= .ok y ⟨some (.int (0+(i:Nat)))::rpO (pl l (.lst l b')) (ix.map λi=>(σ0[i]?).getD none),rpO (pl l (.lst l b')) tm,n'⟩):
 ∃ys b' n',ys.length=N/\(∀y∈ys,Q n' y)/\l∉qq ys/\Bg b'/\n<=n'/\J3 (V4 ms) (.nm 0) (rt true) me 1 ix s= .ok (.lst n' ys) ⟨rpO (pl l (.lst l b')) σ0,rpO (pl l (.lst l b')) tm0,n'+1⟩:=by
 obtain⟨ys,b',n',⟨h1,h2,h3,h4,h5⟩,h6⟩:=z9a (mi:=V4 ms) (K:=z7H 0 N) (g:= .nm 0) (mt:=rt true) (me:=me) (items:=z0s 0 N) (its:=[]) (ix:=ix) (k:=1) (β:=List D) (cap:=λb=>rpO (pl l (.lst l b)) (ix.map λi=>(σ0[i]?).getD none)) (σ:=λb=>rpO (pl l (.lst l b)) σ0) (tm:=λb=>rpO (pl l (.lst l b)) tm0) (λd=>[some d])
  (λi m acc b=>(∀y∈acc,Q m y)/\l∉qq acc/\Bg b/\n<=m/\acc.length=i) (s:=s) (b:=b) (n:=n) (λb=>(zaR ix).symm) (by rw[z9b,hms,z3l,z1Q hj',hj,f1,f2];rfl) rfl (λ_=>by erw[z69]) (by erw[z0s,l0,L8];exact hz) (λ_ _=>at_ints) (by erw[z0s,l0,L8];rfl)
  (λd _ b=>zjy) (λ_ _=>rfl) ⟨(by intro y h;cases h),by simp[qq],hb,i8 _,rfl⟩ (by
   rintro i hi acc b m ha ⟨q1,q2,q3,q4,rfl⟩
   have hN:acc.length<N:=by simpa[z0s] using hi
   obtain⟨y,b',n',h1,h2,h3,h4,h5⟩:=hme acc.length hN b (acc.reverse.map some++(rpO (pl l (.lst l b)) σ0++rpO (pl l (.lst l b)) tm0)) m q3 ⋯ (by rw[z26,z26,z3Q,z3Q,z5s q2])
   refine⟨true,m,rfl, .inr ⟨rfl,y,b',n',⟨λz hz=> ?_, ?_,h1,⋯,by simp⟩, ?_⟩⟩
   .rcases i9.mp hz with hz|hz
    .exact mono _ _ h3 z (q1 z hz)
    .rw[m4.mp hz];exact h2
   .rw[z3n]
    erw[qq,l4,i9,not_or]
    exact⟨q2,h4⟩
   .rw[show(z0s 0 N)[acc.length]= .int (0+(acc.length:Nat)) by simp[z0s]]
    rw[z26,z26,z3Q,z3Q,z5s q2] at h5
    exact h5)
 rw[show(z0s 0 N).length=N by simp[z0s]] at h5
 exact⟨ys,b',n',h5,h1,h2,h3,h4,h6⟩
def z2m{m:M D}{s:Stt}{l:Nat}{ds:List D}{σ tm:Qq}{n:Nat}(h:m s= .ok (.lst l ds) ⟨σ,tm,n⟩):v4 m s= .ok kLst ⟨σ,some (.lst l ds)::tm,n⟩:=by
 unfold v4;rw[ziw,h];rfl
def z3o{mi:M ItK}{K:ItK}{mt:M Bool}{me:M D}{p:D->Bool}{g:D->D}{items:List D}{its:Qq}{ix:List Nat}{s:Stt}{σ tm:Qq}{n:Nat}(hc:mi s= .ok K ⟨σ,its++tm,n⟩)(hk:its.length=K.k)(hz:items.length<qh)(hat: ∀i rest,K.at' i (its++rest)=some items[i]?)(hlen:K.len (its++tm)=items.length)
 (hmt: ∀d∈items,∀tm n,∃n',n<=n'/\mt ⟨some d::(ix.map λi=>(σ[i]?).getD none),tm,n⟩= .ok (p d) ⟨some d::(ix.map λi=>(σ[i]?).getD none),tm,n'⟩)
 (hme: ∀d∈items,p d=true->∀tm n,∃n',n<=n'/\me ⟨some d::(ix.map λi=>(σ[i]?).getD none),tm,n⟩= .ok (g d) ⟨some d::(ix.map λi=>(σ[i]?).getD none),tm,n'⟩):
 ∃n',n<=n'/\J3 mi (.nm 0) mt me 1 ix s= .ok (.lst n' ((items.filter p).map g)) ⟨σ,tm,n'+1⟩:=
 zdC (λd=>[some d]) hc hk hz hat hlen (λd _=>zjy) (λ_ _=>rfl) hmt hme
def z7w{mc:M D}{mt:M Bool}{me:M D}{p:D->Bool}{g:D->D}{l:Nat}{ds:List D}{ix:List Nat}{s:Stt}{σ tm:Qq}{n:Nat}(hc:mc s= .ok (.lst l ds) ⟨σ,tm,n⟩)(hz:ds.length<qh)
 (hmt: ∀d∈ds,∀tm n,∃n',n<=n'/\mt ⟨some d::(ix.map λi=>(σ[i]?).getD none),tm,n⟩= .ok (p d) ⟨some d::(ix.map λi=>(σ[i]?).getD none),tm,n'⟩)
 (hme: ∀d∈ds,p d=true->∀tm n,∃n',n<=n'/\me ⟨some d::(ix.map λi=>(σ[i]?).getD none),tm,n⟩= .ok (g d) ⟨some d::(ix.map λi=>(σ[i]?).getD none),tm,n'⟩):
 ∃n',n<=n'/\J3 (v4 mc) (.nm 0) mt me 1 ix s= .ok (.lst n' ((ds.filter p).map g)) ⟨σ,tm,n'+1⟩:=
 z3o (K:=kLst) (its:=[some (.lst l ds)]) (items:=ds) (by unfold v4;rw[ziw,hc];rfl) rfl hz (λi rest=>rfl) rfl hmt hme
def z7x{ms:List (M D)}{mt:M Bool}{me:M D}{p:D->Bool}{g:D->D}{N:Nat}{ix:List Nat}{s:Stt}{σ tm:Qq}{n:Nat}(hc:Q2 ms s= .ok [.int (N:Int)] ⟨σ,tm,n⟩)(hz:N<qh)
 (hmt: ∀d∈z0s 0 N,∀tm n,∃n',n<=n'/\mt ⟨some d::(ix.map λi=>(σ[i]?).getD none),tm,n⟩= .ok (p d) ⟨some d::(ix.map λi=>(σ[i]?).getD none),tm,n'⟩)
 (hme: ∀d∈z0s 0 N,p d=true->∀tm n,∃n',n<=n'/\me ⟨some d::(ix.map λi=>(σ[i]?).getD none),tm,n⟩= .ok (g d) ⟨some d::(ix.map λi=>(σ[i]?).getD none),tm,n'⟩):
 ∃n',n<=n'/\J3 (V4 ms) (.nm 0) mt me 1 ix s= .ok (.lst n' (((z0s 0 N).filter p).map g)) ⟨σ,tm,n'+1⟩:=by
 have hsz:(qh:Nat)=16777216:=rfl
 refine z3o (K:=z7H 0 N) (its:=[]) (items:=z0s 0 N) ?_ rfl (by erw[z0s,l0,L8];exact hz) (λi rest=>at_ints) (by erw[z0s,l0,L8];rfl) hmt hme
 rw[z9b,hc,z3l,z1Q ⟨⋯,⋯⟩];rfl
end Mi
set_option maxHeartbeats 1000000
set_option maxHeartbeats 4000000
set_option maxHeartbeats 40000
namespace Mi
open PySem L2
section
variable{α β:Type}{m ma mb mc:M D}{s:Stt}{ms:List (M D)}{σ tm l:Qq}{n i j k p:Nat}{x y z u d:D}{g g2:D->D->M D}{h:List D->M D}
variable{a0 a1 a2 a3 a4 a5 a6 a7 a8 a9 a10 a11 a12 a13 a14 a15 v:Option D}
def qg1:(a0::a1::l)[1]? =some a1:=(rfl)
def qg2:(a0::a1::a2::l)[2]? =some a2:=(rfl)
def qg3:(a0::a1::a2::a3::l)[3]? =some a3:=(rfl)
def qg4:(a0::a1::a2::a3::a4::l)[4]? =some a4:=(rfl)
def qg5:(a0::a1::a2::a3::a4::a5::l)[5]? =some a5:=(rfl)
def qg6:(a0::a1::a2::a3::a4::a5::a6::l)[6]? =some a6:=(rfl)
def qg7:(a0::a1::a2::a3::a4::a5::a6::a7::l)[7]? =some a7:=(rfl)
def qg8:(a0::a1::a2::a3::a4::a5::a6::a7::a8::l)[8]? =some a8:=(rfl)
def qg9:(a0::a1::a2::a3::a4::a5::a6::a7::a8::a9::l)[9]? =some a9:=(rfl)
def zkh:(a0::a1::a2::a3::a4::a5::a6::a7::a8::a9::a10::l)[10]? =some a10:=(rfl)
def zki:(a0::a1::a2::a3::a4::a5::a6::a7::a8::a9::a10::a11::l)[11]? =some a11:=(rfl)
def zkj:(a0::a1::a2::a3::a4::a5::a6::a7::a8::a9::a10::a11::a12::l)[12]? =some a12:=(rfl)
def zkk:(a0::a1::a2::a3::a4::a5::a6::a7::a8::a9::a10::a11::a12::a13::l)[13]? =some a13:=(rfl)
def zkl:(a0::a1::a2::a3::a4::a5::a6::a7::a8::a9::a10::a11::a12::a13::a14::l)[14]? =some a14:=(rfl)
def qh1:(a0::a1::l).set 1 v=a0::v::l:=(rfl)
def qh2:(a0::a1::a2::l).set 2 v=a0::a1::v::l:=(rfl)
def qh3:(a0::a1::a2::a3::l).set 3 v=a0::a1::a2::v::l:=(rfl)
def qh4:(a0::a1::a2::a3::a4::l).set 4 v=a0::a1::a2::a3::v::l:=(rfl)
def qh5:(a0::a1::a2::a3::a4::a5::l).set 5 v=a0::a1::a2::a3::a4::v::l:=(rfl)
def qh6:(a0::a1::a2::a3::a4::a5::a6::l).set 6 v=a0::a1::a2::a3::a4::a5::v::l:=(rfl)
def qh7:(a0::a1::a2::a3::a4::a5::a6::a7::l).set 7 v=a0::a1::a2::a3::a4::a5::a6::v::l:=(rfl)
def qh8:(a0::a1::a2::a3::a4::a5::a6::a7::a8::l).set 8 v=a0::a1::a2::a3::a4::a5::a6::a7::v::l:=(rfl)
def qh9:(a0::a1::a2::a3::a4::a5::a6::a7::a8::a9::l).set 9 v=a0::a1::a2::a3::a4::a5::a6::a7::a8::v::l:=(rfl)
def zkm:(a0::a1::a2::a3::a4::a5::a6::a7::a8::a9::a10::l).set 10 v=a0::a1::a2::a3::a4::a5::a6::a7::a8::a9::v::l:=(rfl)
def zkn:(a0::a1::a2::a3::a4::a5::a6::a7::a8::a9::a10::a11::l).set 11 v=a0::a1::a2::a3::a4::a5::a6::a7::a8::a9::a10::v::l:=(rfl)
def zko:(a0::a1::a2::a3::a4::a5::a6::a7::a8::a9::a10::a11::a12::l).set 12 v=a0::a1::a2::a3::a4::a5::a6::a7::a8::a9::a10::a11::v::l:=(rfl)
def zkp:(a0::a1::a2::a3::a4::a5::a6::a7::a8::a9::a10::a11::a12::a13::l).set 13 v=a0::a1::a2::a3::a4::a5::a6::a7::a8::a9::a10::a11::a12::v::l:=(rfl)
def ov:Z0 i s=match s.σ[i]? with|some (some t)=> .ok t s|_=> .no:=rfl
noncomputable def cv(g:D->D->M D)(a:D)(b:Option (Option D))(s:Stt):Res D:=match b with
 |some (some b)=>g a b s
 |_=> .no
def zdD:cv g x (some (some y)) s=g x y s:=(rfl)
def zkq:Z5 m (mC y) g s=(m s).bnd λx s1=>g x y s1:=by
 rw[zdt];cases m s<;>rfl
def zkr:Z5 m (Z0 j) g s=(m s).bnd λx s1=>cv g x s1.σ[j]? s1:=by
 rw[zdt];cases m s with
 |ok x s1=>rw[z3l,z3l];unfold Z0 cv;dsimp only[Stt.psh];cases s1.σ[j]? with
  |none=>rfl
  |some o=>cases o<;>rfl
 |ex d s1=>rfl
 |no=>rfl
noncomputable def qc1(h:List D->M D)(a:Option (Option D))(s:Stt):Res D:=match a with
 |some (some a)=>h [a] s
 |_=> .no
def zaS:qc1 h (some (some x)) s=h [x] s:=(rfl)
def zks:mCB [Z0 i] h ⟨σ,tm,n⟩=qc1 h σ[i]? ⟨σ,tm,n⟩:=by
 rw[zjw];unfold Z0 qc1 Q2 bd;dsimp only
 cases σ[i]? with
 |none=>rfl
 |some o=>cases o<;>rfl
def zbV:Q2 [m] s=(m s).bnd λx s1=> .ok [x] s1:=by
 rw[z3m];cases m s<;>rfl
noncomputable def qa1(a:Option (Option D))(s:Stt):Res (List D):=match a with
 |some (some a)=> .ok [a] s
 |_=> .no
def zjz:Q2 [Z0 i] ⟨σ,tm,n⟩=qa1 σ[i]? ⟨σ,tm,n⟩:=by
 rw[zbV];delta Z0 qa1;dsimp only
 cases σ[i]? with
 |none=>rfl
 |some o=>cases o<;>rfl
noncomputable def qa2(a b:Option (Option D))(s:Stt):Res (List D):=match a,b with
 |some (some a),some (some b)=> .ok [a,b] s
 |_,_=> .no
def zaT:qa2 (some (some x)) (some (some y)) s= .ok [x,y] s:=(rfl)
def zjA:Q2 [Z0 i,Z0 j] ⟨σ,tm,n⟩=qa2 σ[i]? σ[j]? ⟨σ,tm,n⟩:=by
 rw[z3m];delta Z0 qa2;dsimp only
 cases σ[i]? with
 |none=>rfl
 |some o=>cases o with
  |none=>rfl
  |some a=>rw[z3l];show Res.bnd _ (Q2 [Z0 j] ⟨σ,_,_⟩)=_;rw[zjz];delta qa1;cases σ[j]? with
   |none=>rfl
   |some o=>cases o<;>rfl
noncomputable def qa3(a b c:Option (Option D))(s:Stt):Res (List D):=match a,b,c with
 |some (some a),some (some b),some (some c)=> .ok [a,b,c] s
 |_,_,_=> .no
def zaU:qa3 (some (some x)) (some (some y)) (some (some z)) s= .ok [x,y,z] s:=(rfl)
def zkt:Q2 [Z0 i,Z0 j,Z0 k] ⟨σ,tm,n⟩=qa3 σ[i]? σ[j]? σ[k]? ⟨σ,tm,n⟩:=by
 rw[z3m];delta Z0 qa3;dsimp only
 cases σ[i]? with
 |none=>rfl
 |some o=>cases o with
  |none=>rfl
  |some a=>rw[z3l];show Res.bnd _ (Q2 [Z0 j,Z0 k] ⟨σ,_,_⟩)=_;rw[zjA];delta qa2;cases σ[j]? with
   |none=>rfl
   |some o=>cases o with
    |none=>rfl
    |some b=>cases σ[k]? with
     |none=>rfl
     |some o=>cases o<;>rfl
def ziX:Q2 [Z0 i,mC y] ⟨σ,tm,n⟩=qa2 σ[i]? (some (some y)) ⟨σ,tm,n⟩:=by
 rw[z3m];delta Z0 qa2;dsimp only
 cases σ[i]? with
 |none=>rfl
 |some o=>cases o<;>rfl
def ziY:W3 (.nm i) m s=(m s).lf λd s1=> .nx ⟨s1.σ.set i (some d),s1.tm,s1.n⟩:=by
 rw[zgy];cases m s<;>rfl
end
def Y9{t:D}{l n' n:Nat}{b b' r:List D}{σ tm:Qq}{σ1 tm1:D->Qq}(hb:qq b=[])(hb':qq b'=[])(hr:qq r=[])(f1: ∀q,rpO (pl l q) σ=σ1 q)(f2: ∀q,rpO (pl l q) tm=tm1 q)(e1:σ1 (.lst l b)=σ:=by rfl)(e2:tm1 (.lst l b)=tm:=by rfl):
 z32 (.ok t (.lst l b'::r) n') (.lst l b::r) ⟨σ,tm,n⟩= .ok t ⟨σ1 (.lst l b'),tm1 (.lst l b'),n'⟩:=by
 rw[z0w hb hb' hr ((f1 _).trans e1) ((f2 _).trans e2),f1,f2]
end Mi
set_option maxHeartbeats 1000000
namespace Mi
open PySem L2
def zaV{K:ItK}{g:Tg}{b:MS}{f i:Nat}{s s':Stt}{d:D}{σ':Qq}(h1:K.at' i s.tm=some (some d))(h2:asg g d s.σ=some σ')(h3:b {s with σ:=σ'}= .nx s'):forGo K g b (f+1) i s=forGo K g b f (i+1) s':=by
 conv=>lhs;unfold forGo
 erw[h1,h2,h3]
def zdE{K:ItK}{g:Tg}{b:MS}{f i:Nat}{s:Stt}(h1:K.at' i s.tm=some none):forGo K g b f i s= .nx (s.popn K.k):=by
 unfold forGo
 erw[h1]
end Mi
set_option maxHeartbeats 4000000
set_option maxHeartbeats 1000000
namespace My
open PySem L2 Mi
def at0{a:D}{l:List D}:atI (a::l) 0=some a:=z3O (by decide) rfl
def at1{a b:D}{l:List D}:atI (a::b::l) 1=some b:=z3O (by decide) rfl
def at2{a b c:D}{l:List D}:atI (a::b::c::l) 2=some c:=z3O (by decide) rfl
def ziZ{i j:Int}{s:Stt}:eqD (.int i) (.int j) s= .ok (.bool (i==j)) s:=by
 rw[ziG (by simp[eqC,Mi.plain,er,PyData.canLay0,PyData.depth])];erw[er,PyData.eqv]
def c0:((0:Nat):Int)=0:=rfl
def c1:((1:Nat):Int)=1:=rfl
def c2:((2:Nat):Int)=2:=rfl
def c3:((3:Nat):Int)=3:=rfl
def c4:((4:Nat):Int)=4:=rfl
noncomputable def Gd(t:D):Prop:=plain t=true/\(er t).canLay0=true
noncomputable def GdL(ds:List D):Prop:=plainL ds=true/\PyData.canLayAll0 (erL ds)=true
def Gd.tup{ds:List D}:Gd (.tup ds)↔GdL ds:=by erw[Gd,GdL,Mi.plain,er,PyData.canLay0]
def Gd.lst{l:Nat}{ds:List D}:Gd (.lst l ds)↔GdL ds:=by erw[Gd,GdL,Mi.plain,er,PyData.canLay0]
def GdL.cons{d:D}{ds:List D}:GdL (d::ds)↔Gd d/\GdL ds:=by
 erw[Gd,GdL,plainL,erL,PyData.canLayAll0,A3]
 constructor
 .rintro ⟨⟨a,b⟩,c,d⟩;exact⟨⟨a,c⟩,b,d⟩
 .rintro ⟨⟨a,c⟩,b,d⟩;exact⟨⟨a,b⟩,c,d⟩
def zl:qh=16777216:=rfl
section
variable{a b c d:D}{s:Stt}
def t0:U1 [] s= .ok (.tup []) s:=zaN (by decide)
def t1:U1 [a] s= .ok (.tup [a]) s:=zaN (by rw[zl];simp)
def t2:U1 [a,b] s= .ok (.tup [a,b]) s:=zaN (by rw[zl];simp)
def t3:U1 [a,b,c] s= .ok (.tup [a,b,c]) s:=zaN (by rw[zl];simp)
def k0{σ tm:Qq}{n:Nat}:lstM [] ⟨σ,tm,n⟩= .ok (.lst n []) ⟨σ,tm,n+1⟩:=zdy (by rw[zl];simp)
def k1{σ tm:Qq}{n:Nat}:lstM [a] ⟨σ,tm,n⟩= .ok (.lst n [a]) ⟨σ,tm,n+1⟩:=zdy (by rw[zl];simp)
def k2{σ tm:Qq}{n:Nat}:lstM [a,b] ⟨σ,tm,n⟩= .ok (.lst n [a,b]) ⟨σ,tm,n+1⟩:=zdy (by rw[zl];simp)
end
def BA{a b:Prop}(h:a)(k:b):a/\b:=⟨h,k⟩
noncomputable def B_0:=BA (BA (BA (BA (BA (BA @ziv (BA @ziw @z3l)) (BA (BA @z7v @zis) (BA @zit @zk5))) (BA (BA @zgi (BA @zix @ziy)) (BA (BA @zaM @ziz) (BA @x_C @zdt)))) (BA (BA (BA @ziA (BA @zgj @zgk)) (BA (BA @zk6 @zk7) (BA @zk8 @ziB))) (BA (BA (BA @zk9 @ziC) (BA @zgl @zka)) (BA (BA @zkb @zdu) (BA @z3m @zjw))))) (BA (BA (BA (BA @zgm (BA @z96 @ziE)) (BA (BA @z97 @zdv) (BA @zdw @zgn))) (BA (BA (BA @zkc @zgo) (BA @zkd @zke)) (BA (BA @ziI @ziJ) (BA @ziK @ziL)))) (BA (BA (BA @ziM (BA @ziN @zgp)) (BA (BA @zgq @zgr) (BA @ziO @ziP))) (BA (BA (BA @ziQ @zgs) (BA @zgt @zgu)) (BA (BA @zdz @zdA) (BA @ziR @zgw)))))) (BA (BA (BA (BA (BA @ziS (BA @zgx @zdB)) (BA (BA @ziT @zkf) (BA @zkg @z99))) (BA (BA @zgy (BA @ziV @zgA)) (BA (BA @ziW @z7u) (BA @ziu @z95)))) (BA (BA (BA @i6.{0,0} (BA @m8.{0,0} @A4.{0})) (BA (BA @B3.{0} @l4.{0}) (BA @List.getElem?_cons_zero.{0} @List.getElem?_cons_succ.{0}))) (BA (BA (BA @List.getElem?_nil.{0} @D4.{0}) (BA @D5.{0} @o0.{0})) (BA (BA @C0.{0} @l7.{0,0}) (BA @E7.{0,0} @M9))))) (BA (BA (BA (BA @N2 (BA @beq_self_eq_true.{0} @I0)) (BA (BA @Nat.sub_self @t0) (BA @t1 @t2))) (BA (BA (BA @t3 @k0) (BA @k1 @k2)) (BA (BA @Bool.or_false @P9) (BA @u03 @Bool.or_true)))) (BA (BA (BA @T1 (BA @L4 @u0l)) (BA (BA @S6 @at0) (BA @at1 @at2))) (BA (BA (BA @ziZ @z1P) (BA @W0 @zgB)) (BA (BA @G2 @zbU) (BA @U4 @U7))))))
noncomputable def B_1:=BA @zaO @zaP
local macro_rules | `(tactic| left) => `(tactic| (simp (config := { dsimp := false }) only [B_0, B_1, isiD, Q0, asg, asgL, A8, T2, T3, String.reduceBEq, T4]))
noncomputable def Bg(c x:Int):Prop:=0<=c/\0<=x/\x<2147483647
def Q9(l:Nat)(c x top:Int)(n:Nat)(h:Bg c x)(ht:0<top)(ht':top<1000000): ∃r c' x',0<=r/\r<top/\Bg c' x'/\Z3 [.lst l [.int c, .int x], .int top] n= .ok (.int r) [.lst l [.int c', .int x'], .int top] n:=by
 delta Z3 z4x
 obtain⟨h0,h1,h2⟩:=h
 by_cases hc:0<c
 .refine⟨c %top,c/top,x,E8 _ ⋯,D6 _ ht,⟨Int.ediv_nonneg h0 ⋯,h1,h2⟩, ?_⟩
  left
  erw[hc,decide_true]
  left
  rw[z2w ht]
  left
  rw[z98 ⟨ht,⋯⟩]
  left
  rw[zgz (j:=0) rfl (by simp[labs])]
  left
 .have hx0:=E8 (x*48271+7919) (show(2147483647:Int)≠0 by decide)
  have hx1:=D6 (x*48271+7919) (show(0:Int)<2147483647 by decide)
  generalize hy:(x*48271+7919) %2147483647=y at hx0 hx1
  refine⟨(y^(3:Int).toNat %2147483587/7*69621 %1073741789) %top,c,y,E8 _ ⋯,D6 _ ht,⟨h0,hx0,hx1⟩, ?_⟩
  left
  erw[hc,decide_false]
  left
  rw[z5o (.inl ⟨⋯,⋯⟩)]
  left
  rw[z2w (by decide),hy]
  left
  rw[zgz (j:=1) rfl (by simp[labs])]
  left
  rw[zdx ⟨by decide,by decide,⋯⟩]
  left
  rw[z2w (by decide)]
  left
  rw[z98 ⟨by decide,by decide⟩]
  left
  rw[z5o (.inr ⟨by decide,by decide⟩)]
  left
  rw[z2w (by decide)]
  left
  rw[z2w ht]
  left
noncomputable def B_2:=BA (BA @z68 @z9b) (BA @zgC @S0)
local macro_rules | `(tactic| left) => `(tactic| (simp (config := { dsimp := false }) only [B_0, B_1, B_2, isiD, Q0, asg, asgL, A8, T2, T3, String.reduceBEq, T4]))
def zbW{ns:List Int}{a:Nat}(h:a<ns.length):atI (ns.map D.int) (a:Int)=some (.int ns[a]):=z3O ⋯ (by simp[h])
def zgE(ns:List Int)(a n:Nat)(ha:a<1000)(hl:ns.length<1000): ∃c x,Bg c x/\z3j [.ro (ns.map .int), .int a] n= .ok (.lst n [.int c, .int x]) [.ro (ns.map .int), .int a] (n+1):=by
 delta z3j z66
 left
 have key: ∃c:Int,0<=c/\zbH (decide ((a:Int)<((ns.map D.int).length:Int))) (W3 (Tg.nm 2) (mCB [Z5 (Z0 0) (Z0 1) ixD] zej)) sNx ⟨[some (.ro (ns.map .int)),some (.int a),some (.int 0),none,none],[some (.ro (ns.map .int)),some (.int a)],n⟩= .nx ⟨[some (.ro (ns.map .int)),some (.int a),some (.int c),none,none],[some (.ro (ns.map .int)),some (.int a)],n⟩:=by
  by_cases h:a<ns.length
  .refine⟨if ns[a]<0 then -ns[a] else ns[a], ?_, ?_⟩
   rotate_left
   .rw[show decide ((a:Int)<((ns.map D.int).length:Int))=true by simp[h]]
    left
    rw[zbW h]
    left
   .split<;>lia
  .refine⟨0,by decide, ?_⟩
   rw[show decide ((a:Int)<((ns.map D.int).length:Int))=false by simp;lia]
   left
 obtain⟨c,hc,e1⟩:=key
 rw[e1]
 left
 rw[z2w (by decide)]
 left
 rw[z5o (.inl ⟨by decide,by decide⟩)]
 left
 have q0:=E8 c (show(2147483629:Int)≠0 by decide)
 have q1:=D6 c (show(0:Int)<2147483629 by decide)
 rw[zdx ⟨by decide,by decide,⋯⟩]
 left
 rw[z2w (by decide)]
 left
 have w0:((ns.map D.int).length:Int)=ns.length:=by simp
 rw[w0]
 generalize hk:(if(60:Int)<(ns.length:Int) then(60:Int) else(ns.length:Int))=k
 have hk0:0<=k/\k<=60/\k<=ns.length:=by split at hk<;>lia
 rw[z1Q ⟨⋯,⋯⟩]
 left
 have p0:=E8 ((c %2147483629+104729*(a:Int)+17)^(5:Int).toNat) (show(2147483647:Int)≠0 by decide)
 have p1:=D6 ((c %2147483629+104729*(a:Int)+17)^(5:Int).toNat) (show(0:Int)<2147483647 by decide)
 generalize (c %2147483629+104729*(a:Int)+17)^(5:Int).toNat %2147483647=x0 at p0 p1
 obtain⟨s',e2,x,o,hx0,hx1,rfl⟩:=z1B (P:=λi s=> ∃(x:Int) (o:Option D),0<=x/\x<2147483647/\s=⟨[some (.ro (ns.map .int)),some (.int a),some (.int c),some (.int x),o],[some (.ro (ns.map .int)),some (.int a)],n⟩) (lo:=0) (N:=k.toNat) (g:= .nm 4) (b:=W3 (.nm 3) (Z5 (Z5 (Z5 (Z5 (Z0 3) (mC (.int 48271)) z7I) (Z5 (Z5 (Z5 (Z0 0) (Z0 4) ixD) (mC (.int 2147483587)) z2f) (Z5 (Z0 4) (mC (.int 3)) X9) z7I) X9) (Z0 4) X9) (mC (.int 2147483629)) z2f)) (by
  rintro i hi s ⟨x,o,h0,h1,rfl⟩
  have hi':i<ns.length:=by lia
  refine⟨[some (.ro (ns.map .int)),some (.int a),some (.int c),some (.int x),some (.int i)],by erw[S0];rfl, ?_⟩
  refine⟨⟨[some (.ro (ns.map .int)),some (.int a),some (.int c),some (.int ((x*48271+ns[i] %2147483587*(i+3)+i) %2147483629)),some (.int i)],[some (.ro (ns.map .int)),some (.int a)],n⟩, ?_, ?_⟩
  .left
   rw[z5o (.inl ⟨⋯,⋯⟩)]
   left
   rw[zbW hi']
   left
   rw[z2w (by decide)]
   left
   rw[z5o (.inr ⟨⋯,⋯⟩)]
   left
   rw[z2w (by decide)]
   left
  .have r0:=E8 (x*48271+ns[i] %2147483587*(i+3)+i) (show(2147483629:Int)≠0 by decide)
   have r1:=D6 (x*48271+ns[i] %2147483587*(i+3)+i) (show(0:Int)<2147483629 by decide)
   exact⟨_,_,r0,⋯,rfl⟩) k.toNat 0 ⟨[some (.ro (ns.map .int)),some (.int a),some (.int c),some (.int x0),none],[some (.ro (ns.map .int)),some (.int a)],n⟩ ⋯ ⟨x0,none,p0,p1,rfl⟩
 rw[e2]
 left
 rw[zdx ⟨by decide,by decide,by decide⟩]
 left
 by_cases h:c<10^(18:Int).toNat
 .refine⟨0,x,⟨by decide,hx0,hx1⟩, ?_⟩
  erw[h,decide_true]
  left
 .refine⟨c,x,⟨hc,hx0,hx1⟩, ?_⟩
  erw[h,decide_false]
  left
def z0V{l k:Nat}{d:D}{ds:List D}(h:k≠l):rp (pl l d) (.lst k ds)= .lst k (rpL (pl l d) ds):=by erw[rp,pl,qy h]
mutual
noncomputable def Rs(n:Nat):D->Bool
 | .non=>true| .bool _=>true| .int _=>true| .str x=>PyData.strOk x
 | .tup ds=>decide (ds.length<=2000)&&RsL n ds
 | .lst l ds=>decide (n<=l)&&(decide (ds.length<=2000)&&RsL n ds)
 | .ro _=>false| .dct _ _ _=>false| .obj _ _ _ _=>false| .exc _=>false| .fn _=>false| .fdc _ _=>false
noncomputable def RsL(n:Nat):List D->Bool
 |[]=>true
 |d::ds=>Rs n d&&RsL n ds
end
noncomputable def Up(m:Nat)(t:D):Prop:= ∀k∈labs t,k<m
def zbX{α:Type}{ds:List α}{r:Int}(h0:0<=r)(h1:r<ds.length): ∃d∈ds,atI ds r=some d:=by
 have h:r.toNat<ds.length:=by lia
 exact⟨ds[r.toNat],C3 h,z3O h0 (by simp[h])⟩
theorem z6a{n:Nat}: ∀{ds:List D},RsL n ds=true↔∀d∈ds,Rs n d=true
 |[]=>by simp[RsL]
 |d::ds=>by erw[RsL,A3,z6a (ds:=ds),O3]
theorem z6b{k:Nat}: ∀{ds:List D},PyData.depthAll (erL ds)<=k↔∀d∈ds,(er d).depth<=k
 |[]=>by simp[erL,PyData.depthAll]
 |d::ds=>by simp only[erL,PyData.depthAll,O3,<-z6b (ds:=ds)];lia
mutual
theorem zaW{n:Nat}: ∀t:D,Rs n t=true->Gd t
 | .non,_=>⟨rfl,rfl⟩
 | .bool _,_=>⟨rfl,rfl⟩
 | .int _,_=>⟨rfl,rfl⟩
 | .str _,h=>⟨rfl,by simpa[Rs,er,PyData.canLay0] using h⟩
 | .tup ds,h=>by erw[Rs,A3] at h;exact Gd.tup.mpr (RsL_gd ds h.2)
 | .lst _ ds,h=>by erw[Rs,A3] at h;exact Gd.lst.mpr (RsL_gd ds h.2.2)
 | .ro _,h=>by simp[Rs] at h
 | .dct _ _ _,h=>by simp[Rs] at h
 | .obj _ _ _ _,h=>by simp[Rs] at h
 | .exc _,h=>by simp[Rs] at h
 | .fn _,h=>by simp[Rs] at h
 | .fdc _ _,h=>by simp[Rs] at h
theorem RsL_gd{n:Nat}: ∀t:List D,RsL n t=true->GdL t
 |[],_=>⟨rfl,rfl⟩
 |d::ds,h=>by erw[RsL,A3] at h;exact GdL.cons.mpr ⟨zaW d h.1,RsL_gd ds h.2⟩
end
def z6Q{n k:Nat}{es:List D}(hl:es.length<=2000)(h: ∀e∈es,Rs n e=true/\(er e).depth<=k):Rs n (.tup es)=true/\(er (.tup es)).depth<=k+1:=by
 refine⟨?_, ?_⟩
 .erw[Rs,A3,decide_eq_true_eq];exact⟨hl,z6a.mpr λd m=>(h d m).1⟩
 .erw[er,PyData.depth];exact u0d (z6b.mpr λd m=>(h d m).2)
def z6R{n k l:Nat}{es:List D}(hn:n<=l)(hl:es.length<=2000)(h: ∀e∈es,Rs n e=true/\(er e).depth<=k):Rs n (.lst l es)=true/\(er (.lst l es)).depth<=k+1:=by
 refine⟨?_, ?_⟩
 .erw[Rs,A3,decide_eq_true_eq];exact⟨hn,hl,z6a.mpr λd m=>(h d m).1⟩
 .erw[er,PyData.depth];exact u0d (z6b.mpr λd m=>(h d m).2)
def z6c{y d:D}{s:Stt}(gy:Gd y)(gd:Gd d)(e:er y=er d)(hd:(er d).depth<=60):neD y d s= .ok (.bool false) s:=by
 rw[zjx (by erw[eqC,gy.1,gd.1,gy.2,gd.2,e,L4,decide_eq_true_eq];lia),e,PySem.SeqAt.eqv_refl _ gd.2];rfl
def Y4{f:Nat->Option D}{o:Option D}{r:Qq}:rpO f (o::r)=o.map (rp f)::rpO f r:=by cases o<;>rfl
noncomputable def UpO(n:Nat)(o:Option D):Prop:= ∀d,o=some d->Up n d
def UpO.fixk{n k:Nat}{o:Option D}(h:UpO n o)(hk:n<=k)(d:D):B6 (rp (pl k d)) o=o:=by
 cases o with
 |none=>rfl
 |some t=>erw[l7];rw[z0h λm=>by have:=h t rfl k m;lia]
def UpO.fix{n:Nat}{o:Option D}(h:UpO n o)(d:D):B6 (rp (pl n d)) o=o:=by
 cases o with
 |none=>rfl
 |some t=>erw[l7];rw[z0h λm=>D8 _ (h t rfl n m)]
noncomputable def z6d:D->Bool
 | .non=>true
 |_=>false
def zj0{d:D}{s:Stt}:isN d .non s= .ok (.bool (z6d d)) s:=by cases d<;>rfl
def zgF{d:D}{s:Stt}:zeh d .non s= .ok (.bool (!z6d d)) s:=by cases d<;>rfl
def z2n{ws:List D}{l:Nat}:z4a ws none (some (l:Int))=ws.take l:=by
 unfold z4a
 rw[HT.sIx_nat,HT.sIx_none,N3,Nat.sub_zero]
 rcases S1 l ws.length with h|h
 .rw[O5 h]
 .rw[N8 h,E5,B4 h]
def z3R{ws:List D}{l:Nat}:z4a ws (some (l:Int)) none=ws.drop l:=by
 unfold z4a
 rw[HT.sIx_nat,HT.sIx_none]
 rcases S1 l ws.length with h|h
 .rw[O5 h,B4 (by simp)]
 .rw[N8 h,List.drop_length,T5,C2 h]
noncomputable abbrev Y3:=List Int×List Int×List Int
noncomputable def Wf(r:Y3):Prop:=1<=r.1.length/\r.1.length<=4/\r.2.1.length<=3/\r.2.2.length<r.1.length/\∀k∈r.1,0<=k/\k<26
noncomputable def U5(keys:List Int)(best:Option Y3)(r:Y3):Option Y3:=if keys.take r.1.length=r.1/\best.elim 0 (λb=>b.1.length)<r.1.length then some r else best
noncomputable def z1c(rows:List Y3)(keys:List Int):Option Y3:=rows.foldl (U5 keys) none
noncomputable def j0(rows:List Y3)(keys:List Int):Y3:=match z1c rows keys with
 |none=>([],keys.take 1,keys.drop 1)
 |some r=>(r.2.1,[],r.2.2++keys.drop r.1.length)
noncomputable def z2x(rows:List Y3):Nat->List Int->List Int×List Int
 |0,_=>([],[])
 |n+1,ks=>if ks=[] then([],[]) else((j0 rows ks).1++(z2x rows n (j0 rows ks).2.2).1,(j0 rows ks).2.1++(z2x rows n (j0 rows ks).2.2).2)
def z7y{keys:List Int}{best:Option Y3}{r q:Y3}(h:U5 keys best r=some q):best=some q\/(q=r/\keys.take q.1.length=q.1):=by
 unfold U5 at h
 split at h
 .rename_i hc
  cases h
  exact .inr ⟨rfl,hc.1⟩
 .exact .inl h
theorem z2o{keys:List Int}: ∀(rows:List Y3) (best:Option Y3) (q:Y3),rows.foldl (U5 keys) best=some q->best=some q\/(q∈rows/\keys.take q.1.length=q.1)
 |[],best,q,h=> .inl h
 |r::rows,best,q,h=>by
  rw[L1] at h
  rcases z2o rows _ q h with e|⟨m,e⟩
  .rcases z7y e with e|⟨e1,e2⟩
   .exact .inl e
   .exact .inr ⟨e1▸l5,e2⟩
  .exact .inr ⟨i5 _ m,e⟩
def z0O{rows:List Y3}{keys:List Int}{q:Y3}(h:z1c rows keys=some q):q∈rows/\keys.take q.1.length=q.1:=by
 rcases z2o rows none q h with e|e
 .cases e
 .exact e
def z0i{rows:List Y3}{keys:List Int}(hw: ∀r∈rows,Wf r)(hk:keys≠[]):(j0 rows keys).2.2.length<keys.length/\(j0 rows keys).1.length<=3/\(j0 rows keys).2.1.length<=1/\((j0 rows keys).2.1.length+(j0 rows keys).2.2.length<=keys.length):=by
 have hl:0<keys.length:=by
  cases keys with
  |nil=>exact absurd rfl hk
  |cons _ _=>simp
 unfold j0
 cases e:z1c rows keys with
 |none=>
  dsimp only
  rw[B8,A7,C0]
  lia
 |some r=>
  obtain⟨m,t⟩:=z0O e
  obtain⟨w1,w2,w3,w4⟩:=hw r m
  have:=congrArg O0 t
  rw[A7] at this
  dsimp only
  rw[l8,B8,C0]
  lia
theorem z5u{rows:List Y3}(hw: ∀r∈rows,Wf r): ∀(n m:Nat) (ks:List Int),ks.length<=n->ks.length<=m->z2x rows n ks=z2x rows m ks
 |0,0,ks,_,_=>rfl
 |0,m+1,ks,h,_=>by
  have e:ks=[]:=C8 ⋯
  unfold z2x
  rw[qw e]
 |n+1,0,ks,_,h=>by
  have e:ks=[]:=C8 ⋯
  unfold z2x
  rw[qw e]
 |n+1,m+1,ks,h1,h2=>by
  unfold z2x
  by_cases e:ks=[]
  .rw[qw e,qw e]
  .obtain⟨l,_⟩:=z0i hw e
   rw[qy e,qy e,z5u hw n m _ ⋯ ⋯]
noncomputable def V9(rows:List Y3)(ks:List Int):List Int×List Int:=z2x rows ks.length ks
def z1d(rows:List Y3):V9 rows []=([],[]):=rfl
def z27{rows:List Y3}(hw: ∀r∈rows,Wf r){ks:List Int}(h:ks≠[]):
 V9 rows ks=((j0 rows ks).1++(V9 rows (j0 rows ks).2.2).1,(j0 rows ks).2.1++(V9 rows (j0 rows ks).2.2).2):=by
 obtain⟨l,_⟩:=z0i hw h
 obtain⟨n,hn⟩: ∃n,ks.length=n+1:=⟨ks.length - 1,⋯⟩
 unfold V9
 rw[hn]
 conv=>lhs;unfold z2x
 rw[qy h,z5u hw n _ _ ⋯ (i8 _)]
noncomputable abbrev tI(ns:List Int):D:= .tup (ns.map .int)
theorem z4A: ∀ns:List Int,erL (ns.map .int)=ns.map PyData.int
 |[]=>rfl
 |n::ns=>by erw[i6,erL,er,z4A ns]
def z7z(ns:List Int):er (tI ns)=L2.dT ns:=by erw[tI,er,z4A];rfl
theorem z6e: ∀ns:List Int,plainL (ns.map D.int)=true
 |[]=>rfl
 |n::ns=>by erw[i6,plainL,Mi.plain,z6e ns];rfl
def zbY(a b:List Int):eqC (tI a) (tI b)=true:=by
 have h1:Mi.plain (tI a)=true:=z6e a
 have h2:Mi.plain (tI b)=true:=z6e b
 have:=zbD a
 erw[eqC,h1,h2,z7z,zfp,L4,decide_eq_true_eq];lia
def z3S{a b:List Int}{s:Stt}:eqD (tI a) (tI b) s= .ok (.bool (decide (a=b))) s:=by rw[ziG (zbY a b),z7z,z7z,z8m]
def z9d{a b:List Int}{s:Stt}:neD (tI a) (tI b) s= .ok (.bool (!decide (a=b))) s:=by rw[zjx (zbY a b),z7z,z7z,z8m]
noncomputable abbrev rD(r:Y3):D:= .tup [tI r.1,tI r.2.1,tI r.2.2]
noncomputable def oD:Option Y3->D
 |none=> .non
 |some r=>rD r
def z1l{P:Nat->Stt->Prop}{l:Nat}{ds:List D}{g:Tg}{b:MS}{tm:Qq}(hP: ∀i s,P i s->s.tm=some (.lst l ds)::tm)
 (body: ∀i d,ds[i]? =some d->∀s,P i s->∃σ',asg g d s.σ=some σ'/\∃s',b {s with σ:=σ'}= .nx s'/\P (i+1) s'):
 ∀(f i:Nat) (s:Stt),i+f=ds.length->P i s->∃s',forGo kLst g b f i s= .nx (s'.popn 1)/\P ds.length s':=by
 intro f
 induction f with
 |zero=>
  intro i s hi h
  have hi:i=ds.length:=by lia
  refine⟨s, ?_,hi▸h⟩
  unfold forGo
  have e:kLst.at' i s.tm=some none:=by rw[hP i s h];show some ds[i]? =_;rw[List.getElem?_eq_none ⋯]
  erw[e]
  rfl
 |succ f ih=>
  intro i s hi h
  have hl:i<ds.length:=by lia
  obtain⟨σ',e1,s',e2,h'⟩:=body i ds[i] (List.getElem?_eq_getElem hl) s h
  obtain⟨s2,e3,h2⟩:=ih (i+1) s' ⋯ h'
  refine⟨s2, ?_,h2⟩
  unfold forGo
  have e:kLst.at' i s.tm=some (some ds[i]):=by rw[hP i s h];show some ds[i]? =_;rw[List.getElem?_eq_getElem hl]
  erw[e,e1,e2]
  exact e3
def z9e{fu:Stt->Nat}{c:M Bool}{b:MS}{s:Stt}:z1H fu c b s=G9 c b (fu s) s:=(rfl)
def z7A{ns:List Int}{k:Nat}:(ns.map D.int).take k=(ns.take k).map D.int:=by rw[R0]
def z9f{ns:List Int}{k:Nat}:(ns.map D.int).drop k=(ns.drop k).map D.int:=by rw[u0m]
def z5D{ns:List Int}:((ns.map D.int).length:Int)=(ns.length:Int):=by rw[l0]
noncomputable def B_3:=BA (BA (BA (BA (BA @qg1 @qg2) (BA @qg3 @qg4)) (BA (BA @qg5 @qg6) (BA @qg7 (BA @qg8 @qg9)))) (BA (BA (BA @zkh @zki) (BA @zkj @zkk)) (BA (BA @zkl @qh1) (BA @qh2 (BA @qh3 @qh4))))) (BA (BA (BA (BA @qh5 @qh6) (BA @qh7 @qh8)) (BA (BA @qh9 @zkm) (BA @zkn (BA @zko @zkp)))) (BA (BA (BA @zkq @zkr) (BA @zks @zjz)) (BA (BA @zjA @zkt) (BA @ziX (BA @zbV @ziY)))))
noncomputable def B_4:=BA (BA (BA @zdD @zaS) (BA @zaT @zaU)) (BA (BA @Y4 @zj0) (BA @zgF (BA @z3S @z9d)))
local macro_rules | `(tactic| left) => `(tactic| (simp (config := { dsimp := false }) only [B_0, B_2, ↓B_3, B_4, isiD, Q0, asg, asgL, A8, T2, T3, String.reduceBEq, T4]))
def z7B(rows:List Y3)(ks:List Int)(l n:Nat)(hw: ∀r∈rows,0<r.1.length):V7 [.lst l (rows.map rD),tI ks] n= .ok (oD (z1c rows ks)) [.lst l (rows.map rD),tI ks] n:=by
 unfold V7 z09
 left
 obtain⟨s',e,hs⟩:=z1l (P:=λi s=> ∃o3,s=⟨[some (.lst l (rows.map rD)),some (tI ks),some (oD ((rows.take i).foldl (U5 ks) none)),o3],some (.lst l (rows.map rD))::[some (.lst l (rows.map rD)),some (tI ks)],n⟩) (l:=l) (ds:=rows.map rD) (g:= .nm 3) (tm:=[some (.lst l (rows.map rD)),some (tI ks)])
  (b:=sIf (z7G (V3 (Z5 (mSl (Z0 1) none (some (mCB [(Z5 (Z0 3) (mC (.int 0)) ixD)] X8))) (Z5 (Z0 3) (mC (.int 0)) ixD) eqD)) (mOr (V3 (Z5 (Z0 2) (mC .non) isN)) (V3 (Z5 (mCB [(Z5 (Z0 3) (mC (.int 0)) ixD)] X8) (mCB [(Z5 (Z0 2) (mC (.int 0)) ixD)] X8) gtD)))) (W3 (.nm 2) (Z0 3)) sNx)
  (by rintro i s ⟨o3,rfl⟩;rfl) (by
   rintro i d hd s ⟨o3,rfl⟩
   refine⟨_,rfl, ?_⟩
   rw[List.getElem?_map] at hd
   cases hr:rows[i]? with
   |none=>rw[hr] at hd;cases hd
   |some r=>
    rw[hr] at hd
    cases hd
    have hf:(rows.take (i+1)).foldl (U5 ks) none=U5 ks ((rows.take i).foldl (U5 ks) none) r:=by
     rw[C9,hr,D7,N4];rfl
    rw[hf]
    generalize (rows.take i).foldl (U5 ks) none=best
    show ∃s',_/\∃o3,s'=_
    left
    rw[z5D,z2n,z7A,z3S]
    left
    by_cases h1:ks.take r.1.length=r.1
    .erw[h1,decide_true]
     left
     cases best with
     |none=>
      erw[oD,z6d]
      left
      refine⟨_,rfl,some (rD r), ?_⟩
      unfold U5
      rw[qw ⟨h1,hw r (List.mem_of_getElem? hr)⟩]
     |some b=>
      erw[oD,z6d]
      left
      rw[z5D,z5D]
      by_cases h2:b.1.length<r.1.length
      .erw[show decide ((b.1.length:Int)<(r.1.length:Int))=true by simp[h2]]
       left
       refine⟨_,rfl,some (rD r), ?_⟩
       unfold U5
       rw[qw ⟨h1,h2⟩]
      .erw[show decide ((b.1.length:Int)<(r.1.length:Int))=false by simp;lia]
       left
       refine⟨_,rfl,some (rD r), ?_⟩
       unfold U5
       rw[qy λh=>h2 h.2]
    .erw[h1,decide_false]
     left
     refine⟨_,rfl,some (rD r), ?_⟩
     unfold U5
     rw[qy λh=>h1 h.1]) rows.length 0 ⟨[some (.lst l (rows.map rD)),some (tI ks),some .non,none],some (.lst l (rows.map rD))::[some (.lst l (rows.map rD)),some (tI ks)],n⟩ (by simp) ⟨none,by simp[oD]⟩
 obtain⟨o3,rfl⟩:=hs
 rw[z2m (l:=l) (ds:=rows.map rD) (σ:=[some (.lst l (rows.map rD)),some (tI ks),some .non,none]) (tm:=[some (.lst l (rows.map rD)),some (tI ks)]) (n:=n) (by left)]
 left
 rw[show kLst.len (some (.lst l (rows.map rD))::[some (.lst l (rows.map rD)),some (tI ks)])=rows.length by show(rows.map rD).length=_;simp,e]
 left
 rw[l0,E5]
 rfl
noncomputable def ofI:D->Int
 | .int i=>i
 |_=>0
noncomputable def unI:D->List Int
 | .tup ds=>ds.map ofI
 |_=>[]
noncomputable def unR:D->Y3
 | .tup [a,b,c]=>(unI a,unI b,unI c)
 |_=>([],[],[])
def zbZ(ns:List Int):unI (tI ns)=ns:=by
 erw[unI,C7]
 induction ns with
 |nil=>rfl
 |cons n ns ih=>erw[i6,Function.comp,ofI,ih]
def zc0(r:Y3):unR (rD r)=r:=by erw[unR,zbZ]
noncomputable def wt(ks:List Int)(r:Y3):Bool:=decide (ks.length<r.1.length)&&decide (r.1.take ks.length=ks)
noncomputable def gW(ks:List Int)(d:D):D:= .bool (wt ks (unR d))
noncomputable def bb1(o:Option Y3):List Int:=o.elim [] (·.1)
noncomputable def bb2(o:Option Y3):List Int:=o.elim [] (·.2.1)
noncomputable def bb3(o:Option Y3):List Int:=o.elim [] (·.2.2)
def zku{n:Int}{ns:List Int}:atI ((n::ns).map D.int) 0=some (.int n):=at0
def zgG{ws:List D}:z4a ws none (some (1:Int))=ws.take 1:=z2n (l:=1)
def zc1{ws:List D}:z4a ws (some (1:Int)) none=ws.drop 1:=z3R (l:=1)
theorem z5v(ks:List Int): ∀rows:List Y3,z0r (rows.map λr=>D.bool (wt ks r))=some (rows.map (wt ks))
 |[]=>rfl
 |r::rows=>by erw[i6,z0r,z5v ks rows,l7]
def px1{σ tm:Qq}{a:Option D}{n:Nat}:Stt.popn ⟨σ,a::tm,n⟩ 1=⟨σ,tm,n⟩:=rfl
def z6S(rows:List Y3)(ks:List Int)(l n:Nat)(hw: ∀r∈rows,Wf r)(hk:ks.length<=1000):G4 [.lst l (rows.map rD),tI ks] n= .ok (.tup [tI (j0 rows ks).1,tI (j0 rows ks).2.1,tI (j0 rows ks).2.2]) [.lst l (rows.map rD),tI ks] n:=by
 unfold G4 z0L
 left
 rw[z7B rows ks l n λr h=>(hw r h).1]
 unfold j0
 cases hb:z1c rows ks with
 |none=>
  erw[oD]
  left
  erw[z6d]
  left
  rw[zgG,zc1,z7A,z9f]
  rfl
 |some r=>
  obtain⟨w1,w2,w3,w4⟩:=hw r (z0O hb).1
  erw[oD]
  left
  erw[z6d]
  left
  rw[z5D,z3R,z9f,z6P (by rw[zl];erw[l0,B8];lia)]
  left
  rw[<-t8]
  rfl
def zdF(rows:List Y3)(ks:List Int)(l n:Nat)(hr:rows.length<1000): ∃n',n<=n'/\K0 [.lst l (rows.map rD),tI ks] n= .ok (.bool (rows.any (wt ks))) [.lst l (rows.map rD),tI ks] n':=by
 unfold K0 z19
 left
 obtain⟨n',hn,e⟩:=z7w (mc:=Z0 0) (mt:=rt true) (me:=z8I (Z5 (mCB [(Z0 1)] X8) (mCB [(Z5 (Z0 0) (mC (.int 0)) ixD)] X8) ltD) (Z5 (mSl (Z5 (Z0 0) (mC (.int 0)) ixD) none (some (mCB [(Z0 1)] X8))) (Z0 1) eqD)) (p:=λ_=>true) (g:=gW ks) (l:=l) (ds:=rows.map rD) (ix:=[1]) (s:=⟨[some (.lst l (rows.map rD)),some (tI ks)],[some (.lst l (rows.map rD)),some (tI ks)],n⟩) (σ:=[some (.lst l (rows.map rD)),some (tI ks)]) (tm:=[some (.lst l (rows.map rD)),some (tI ks)]) (n:=n)
  (by left) (by rw[l0,zl];lia) (λd hd tm n=>⟨n,i8 _,rfl⟩) (by
   intro d hd _ tm n
   obtain⟨r,_,rfl⟩:=m5.mp hd
   refine⟨n,i8 _, ?_⟩
   erw[i6,m8,List.getElem?_cons_zero,List.getElem?_cons_succ,B2]
   left
   rw[z5D,z5D]
   unfold gW
   rw[zc0]
   unfold wt
   by_cases h1:ks.length<r.1.length
   .erw[show decide ((ks.length:Int)<(r.1.length:Int))=true by simp[h1],h1,decide_true,L4]
    left
    rw[z5D,z2n,z7A,z3S]
   .erw[show decide ((ks.length:Int)<(r.1.length:Int))=false by simp;lia,h1,decide_false,S6]
    left)
 refine⟨n'+1,⋯, ?_⟩
 rw[e]
 left
 have hf:((rows.map rD).filter λ_=>true).map (gW ks)=rows.map λr=>D.bool (wt ks r):=by
  rw[T0.mpr (λ_ _=>rfl),C7]
  refine D1 λr _=> ?_
  erw[Function.comp,gW,zc0]
 rw[hf,zgv (z5v ks rows)]
 left
 rw[R9]
 rfl
def zaX(rows:List Y3)(ks:List Int)(l n:Nat)(hw: ∀r∈rows,Wf r)(hk:ks≠[])(hz:ks.length<=1000)(hl:l<n):z1O [.lst l (rows.map rD),tI ks] n= .ok (.tup [.lst n ((j0 rows ks).1.map .int), .lst (n+1) ((j0 rows ks).2.1.map .int),tI (j0 rows ks).2.2]) [.lst l (rows.map rD),tI ks] (n+2):=by
 unfold z1O z4y
 left
 obtain⟨s',e,hs⟩:=z1l (P:=λi s=> ∃o5,s=⟨[some (.lst l (rows.map rD)),some (tI ks),some (tI (bb1 ((rows.take i).foldl (U5 ks) none))),some (tI (bb2 ((rows.take i).foldl (U5 ks) none))),some (tI (bb3 ((rows.take i).foldl (U5 ks) none))),o5],some (.lst l (rows.map rD))::[some (.lst l (rows.map rD)),some (tI ks)],n⟩) (l:=l) (ds:=rows.map rD) (g:= .nm 5) (tm:=[some (.lst l (rows.map rD)),some (tI ks)])
  (b:=sIf (z7G (V3 (Z5 (mCB [(Z5 (Z0 5) (mC (.int 0)) ixD)] X8) (mCB [(Z0 2)] X8) gtD)) (V3 (Z5 (mSl (Z0 1) none (some (mCB [(Z5 (Z0 5) (mC (.int 0)) ixD)] X8))) (Z5 (Z0 5) (mC (.int 0)) ixD) eqD))) (W3 (.tp [(.nm 2),(.nm 3),(.nm 4)]) (Z0 5)) sNx)
  (by rintro i s ⟨o3,rfl⟩;rfl) (by
   rintro i d hd s ⟨o3,rfl⟩
   refine⟨_,rfl, ?_⟩
   rw[List.getElem?_map] at hd
   cases hr:rows[i]? with
   |none=>rw[hr] at hd;cases hd
   |some r=>
    rw[hr] at hd
    cases hd
    have hf:(rows.take (i+1)).foldl (U5 ks) none=U5 ks ((rows.take i).foldl (U5 ks) none) r:=by
     rw[C9,hr,D7,N4];rfl
    rw[hf]
    generalize (rows.take i).foldl (U5 ks) none=best
    show ∃s',_/\∃o3,s'=_
    have hb:U5 ks best r=if ks.take r.1.length=r.1/\(bb1 best).length<r.1.length then some r else best:=by
     unfold U5 bb1;cases best<;>rfl
    rw[hb]
    left
    rw[z5D,z5D]
    by_cases h2:(bb1 best).length<r.1.length
    .erw[show decide (((bb1 best).length:Int)<(r.1.length:Int))=true by simp[h2]]
     left
     rw[z5D,z2n,z7A,z3S]
     left
     by_cases h1:ks.take r.1.length=r.1
     .erw[h1,decide_true]
      left
      refine⟨_,rfl,some (rD r), ?_⟩
      rw[qw ⟨trivial,h2⟩]
      rfl
     .erw[h1,decide_false]
      left
      refine⟨_,rfl,some (rD r), ?_⟩
      rw[qy λh=>h.1.elim]
    .erw[show decide (((bb1 best).length:Int)<(r.1.length:Int))=false by simp;lia]
     left
     refine⟨_,rfl,some (rD r), ?_⟩
     rw[qy λh=>h2 h.2]) rows.length 0 ⟨[some (.lst l (rows.map rD)),some (tI ks),some (tI []),some (tI []),some (tI []),none],some (.lst l (rows.map rD))::[some (.lst l (rows.map rD)),some (tI ks)],n⟩ (by simp) ⟨none,by simp[bb1,bb2,bb3]⟩
 obtain⟨o3,rfl⟩:=hs
 rw[z2m (l:=l) (ds:=rows.map rD) (σ:=[some (.lst l (rows.map rD)),some (tI ks),some (.tup []),some (.tup []),some (.tup []),none]) (tm:=[some (.lst l (rows.map rD)),some (tI ks)]) (n:=n) (by left)]
 left
 rw[show kLst.len (some (.lst l (rows.map rD))::[some (.lst l (rows.map rD)),some (tI ks)])=rows.length by show(rows.map rD).length=_;simp]
 rw[show(D.tup [])=tI [] from rfl,e]
 erw[px1]
 left
 rw[l0,E5]
 show((_:RS)).fin=_
 have hlg:rows.foldl (U5 ks) none=z1c rows ks:=rfl
 rw[hlg]
 unfold j0
 cases hb:z1c rows ks with
 |none=>
  erw[bb1,bb2,bb3,u0p]
  left
  rw[show(D.tup [])=tI [] from rfl,z3S]
  erw[decide_true]
  left
  cases ks with
  |nil=>exact absurd rfl hk
  |cons a ks=>
   rw[zku]
   left
   rw[zc1]
   rfl
 |some r=>
  obtain⟨w1,w2,w3,w4⟩:=hw r (z0O hb).1
  erw[bb1,bb2,bb3,u0p]
  left
  rw[show(D.tup [])=tI [] from rfl,z3S]
  erw[show decide (r.1=[])=false by simp;intro h;rw[h] at w1;simp at w1]
  left
  rw[z5D,z3R,z9f,z6P (by rw[zl];erw[l0,B8];lia)]
  left
  rw[<-t8]
theorem Y5: ∀ns:List Int,qq (ns.map D.int)=[]
 |[]=>rfl
 |n::ns=>by erw[i6,qq,labs,Y5 ns];rfl
def zdG(r:Y3):labs (rD r)=[]:=by erw[labs,qq,Y5];rfl
theorem z0x: ∀rows:List Y3,qq (rows.map rD)=[]
 |[]=>rfl
 |r::rows=>by erw[i6,qq,z0x rows];rw[zdG];rfl
def z28{k:Nat}{d:D}{ns:List Int}:rp (pl k d) (.tup (ns.map D.int))= .tup (ns.map D.int):=z0h (by rw[show labs (.tup (ns.map D.int))=[] from Y5 ns];exact A2)
def J1{k:Nat}{d:D}{ns:List Int}:rpL (pl k d) (ns.map D.int)=ns.map D.int:=rpL_id _ λj hj=>by rw[Y5] at hj;cases hj
def zaY{k:Nat}{d:D}{rows:List Y3}:rpL (pl k d) (rows.map rD)=rows.map rD:=rpL_id _ λj hj=>by rw[z0x] at hj;cases hj
def W9{k l:Nat}{d:D}{rows:List Y3}(h:l≠k):rp (pl k d) (.lst l (rows.map rD))= .lst l (rows.map rD):=by rw[z0V h,zaY]
def G7{k l:Nat}{d:D}{ns:List Int}(h:l≠k):rp (pl k d) (.lst l (ns.map D.int))= .lst l (ns.map D.int):=by rw[z0V h,J1]
def z1e{l:Nat}{d:D}{ds:List D}:rp (pl l d) (.lst l ds)=d:=by erw[rp,pl,if_true]
def z3T{l:Nat}{ds es:List D}{σ tm:Qq}{n:Nat}(h:ds.length+es.length<=qh)(hl:qq es=[]):z2r (.lst l ds) [.tup es] ⟨σ,tm,n⟩= .ok .non ⟨rpO (pl l (.lst l (ds++es))) σ,rpO (pl l (.lst l (ds++es))) tm,n⟩:=by
 erw[z2r,z5C]
 rw[qw ⟨h,by rw[hl];exact A2⟩]
 rfl
def zc2{l k:Nat}{ds es:List D}{σ tm:Qq}{n:Nat}(h:ds.length+es.length<=qh)(hl:qq es=[]):z2r (.lst l ds) [.lst k es] ⟨σ,tm,n⟩= .ok .non ⟨rpO (pl l (.lst l (ds++es))) σ,rpO (pl l (.lst l (ds++es))) tm,n⟩:=by
 erw[z2r,z5C]
 rw[qw ⟨h,by rw[hl];exact A2⟩]
 rfl
theorem z6T{rows:List Y3}(hw: ∀r∈rows,Wf r): ∀(m:Nat) (ks:List Int),ks.length<=m->(V9 rows ks).1.length<=3*ks.length/\(V9 rows ks).2.length<=ks.length
 |0,ks,h=>by
  have e:ks=[]:=C8 ⋯
  subst e;simp[z1d]
 |m+1,ks,h=>by
  by_cases e:ks=[]
  .subst e;simp[z1d]
  .obtain⟨l1,l2,l3⟩:=z0i hw e
   have ih:=z6T hw m (j0 rows ks).2.2 ⋯
   rw[z27 hw e]
   erw[l8]
   lia
def z6f(rows:List Y3)(hw: ∀r∈rows,Wf r)(l n:Nat)(K:D)(hl:l<n)(hK: ∀d,rp (pl n d) K=K)(hK1: ∀d,rp (pl (n+1) d) K=K): ∀(m:Nat) (R S L:List Int) (o5 o6:Option D) (q:Nat),n+2<=q->R.length<m->R.length<=200->S.length+3*R.length<=2000->L.length+R.length<=2000->∃p5 p6 q',q<=q'/\
 G9 (V3 (Z5 (Z0 4) (mCB [] U1) neD)) (Y2 (W3 (.tp [(.nm 5),(.nm 6),(.nm 4)]) (Z8 z1O [(Z0 0),(Z0 4)])) (Y2 (v3 (u2 (Z0 2) [(Z0 5)] z2r)) (v3 (u2 (Z0 3) [(Z0 6)] z2r)))) m ⟨[some (.lst l (rows.map rD)),some K,some (.lst n (S.map .int)),some (.lst (n+1) (L.map .int)),some (.tup (R.map .int)),o5,o6],[some (.lst l (rows.map rD)),some K],q⟩
  = .nx ⟨[some (.lst l (rows.map rD)),some K,some (.lst n ((S++(V9 rows R).1).map .int)),some (.lst (n+1) ((L++(V9 rows R).2).map .int)),some (.tup []),p5,p6],[some (.lst l (rows.map rD)),some K],q'⟩:=by
 intro m
 induction m with
 |zero=>intro R S L o5 o6 q hq h;lia
 |succ m ih=>
  intro R S L o5 o6 q hq h h2 h3 h4
  unfold G9
  by_cases hR:R=[]
  .subst hR
   refine⟨o5,o6,q,i8 _, ?_⟩
   left
   rw[show(D.tup [])= .tup (([]:List Int).map .int) from rfl,z9d]
   erw[z1d,l4,decide_true,M9]
   left
  .obtain⟨l1,l2,l3⟩:=z0i hw hR
   have e0:=z27 hw hR
   have ps:=zaX rows R l q hw hR ⋯ ⋯
   left
   rw[show(D.tup [])= .tup (([]:List Int).map .int) from rfl,z9d]
   erw[hR,decide_false,N2]
   left
   rw[ps]
   left
   rw[zc2 (by rw[zl];erw[l0];lia) (Y5 _)]
   left
   simp only[<-t8,W9 (show l≠n by lia),G7 (show n+1≠n by lia),G7 (show q≠n by lia),G7 (show q+1≠n by lia),J1,hK]
   left
   try erw[G7 (show n+1≠n by lia)]
   rw[zc2 (by rw[zl];erw[l0];lia) (Y5 _)]
   left
   simp only[<-t8,W9 (show l≠n+1 by lia),G7 (show n≠n+1 by lia),G7 (show q≠n+1 by lia),G7 (show q+1≠n+1 by lia),J1,hK1]
   obtain⟨p5,p6,q',hq',e⟩:=ih (j0 rows R).2.2 (S++(j0 rows R).1) (L++(j0 rows R).2.1) (some (.lst q ((j0 rows R).1.map .int))) (some (.lst (q+1) ((j0 rows R).2.1.map .int))) (q+2) ⋯ ⋯ ⋯ (by rw[l8];lia) (by rw[l8];lia)
   refine⟨p5,p6,q',⋯, ?_⟩
   rw[e,e0]
   erw[m9]
def zaZ(rows:List Y3)(ks:List Int)(l n:Nat)(K:D)(hw: ∀r∈rows,Wf r)(hk:ks.length<=200)(hl:l<n)(hK:(∃k,k<n/\K= .lst k (ks.map .int))\/K= .tup (ks.map .int)): ∃n',n<=n'/\z2E [.lst l (rows.map rD),K] n= .ok (.tup [.lst n ((V9 rows ks).1.map .int), .lst (n+1) ((V9 rows ks).2.map .int)]) [.lst l (rows.map rD),K] n':=by
 have hK2:z5b [K]=z5b [.tup (ks.map .int)]:=by
  rcases hK with⟨k,_,rfl⟩|rfl<;>rfl
 unfold z2E z4z
 left
 rw[hK2]
 left
 rw[z9e]
 have rK: ∀j,n<=j->∀d,rp (pl j d) K=K:=λj hj d=>by
  rcases hK with⟨k,hk,rfl⟩|rfl
  .exact G7 ⋯
  .exact z28
 obtain⟨p5,p6,q',hq',e⟩:=z6f rows hw l n K hl (rK n (i8 _)) (rK (n+1) ⋯) 1000 ks [] [] none none (n+1+1) ⋯ ⋯ hk (by simp;lia) (by simp;lia)
 erw[m8,A4] at e
 refine⟨q',⋯, ?_⟩
 rw[e]
 left
noncomputable def z1f(rows:List Y3)(R:List Int):Bool:=decide (R=[])||rows.any (wt R)
noncomputable def J9(rows:List Y3):Nat->List Int->Y3
 |0,R=>([],[],R)
 |m+1,R=>if z1f rows R=true then([],[],R) else((j0 rows R).1++(J9 rows m (j0 rows R).2.2).1,(j0 rows R).2.1++(J9 rows m (j0 rows R).2.2).2.1,(J9 rows m (j0 rows R).2.2).2.2)
noncomputable def nkI(ns:List Int):NK:=ns.map λi=> .inl (.inl i)
theorem z3U: ∀ns:List Int,z35 (ns.map D.int)=some (nkI ns)
 |[]=>rfl
 |n::ns=>by
  have ih:=z3U ns
  erw[i6,z35,zbN,X2,ih,nkI]
def z29(ns:List Int):z1S (.tup (ns.map D.int))=some (nkI ns):=z3U ns
def zgH{k j:Nat}{d:D}{ks vs:List D}(h:j≠k)(hv:qq vs=[]):rp (pl k d) (.dct j ks vs)= .dct j ks vs:=by
 erw[rp,pl,qy h]
 rw[rpL_id _ λi hi=>by rw[hv] at hi;cases hi]
def z5w(rows:List Y3)(hw: ∀r∈rows,Wf r)(hr:rows.length<1000)(l n:Nat)(W:List Int)(k:Int)(hl:l<n): ∀(m:Nat) (R S L:List Int) (o5 o6:Option D) (q:Nat),n+2<=q->R.length<m->R.length<=200->S.length+3*R.length<=2000->L.length+R.length<=2000->(∀k d,B6 (rp (pl k d)) o5=o5)->(∀k d,B6 (rp (pl k d)) o6=o6)->∃p5 p6 q',q<=q'/\
 G9 (z7G (z0T (Z0 5)) (z9K (z0T (Z8 K0 [(Z0 0),(Z0 5)])))) (Y2 (W3 (.tp [(.nm 6),(.nm 7),(.nm 5)]) (Z8 G4 [(Z0 0),(Z0 5)])) (Y2 (v3 (u2 (Z0 3) [(Z0 6)] z2r)) (v3 (u2 (Z0 4) [(Z0 7)] z2r)))) m ⟨[some (.lst l (rows.map rD)),some (.tup (W.map .int)),some (.int k),some (.lst n (S.map .int)),some (.lst (n+1) (L.map .int)),some (.tup (R.map .int)),o5,o6],[some (.lst l (rows.map rD)),some (.tup (W.map .int)),some (.int k)],q⟩
  = .nx ⟨[some (.lst l (rows.map rD)),some (.tup (W.map .int)),some (.int k),some (.lst n ((S++(J9 rows m R).1).map .int)),some (.lst (n+1) ((L++(J9 rows m R).2.1).map .int)),some (.tup ((J9 rows m R).2.2.map .int)),p5,p6],[some (.lst l (rows.map rD)),some (.tup (W.map .int)),some (.int k)],q'⟩:=by
 intro m
 induction m with
 |zero=>intro R S L o5 o6 q hq h;lia
 |succ m ih=>
  intro R S L o5 o6 q hq h h2 h3 h4 r5 r6
  unfold G9 J9
  by_cases hR:R=[]
  .subst hR
   refine⟨o5,o6,q,i8 _, ?_⟩
   left
   erw[z1f,decide_true,u03,if_true,l4,m8,M7,M9]
   left
  .obtain⟨l1,l2,l3⟩:=z0i hw hR
   have hne:(R.map D.int).isEmpty=false:=by cases R with|nil=>exact absurd rfl hR|cons _ _=>rfl
   obtain⟨q1,hq1,ew⟩:=zdF rows R l q hr
   left
   erw[hne]
   left
   rw[ew]
   left
   have hs:z1f rows R=rows.any (wt R):=by erw[z1f,hR,decide_false,P9]
   rw[hs]
   cases hwt:rows.any (wt R) with
   |true=>
    refine⟨o5,o6,q1,hq1, ?_⟩
    left
    erw[if_true,l4]
   |false=>
    left
    rw[z6S rows R l q1 hw ⋯]
    left
    rw[z3T (by rw[zl];erw[l0];lia) (Y5 _)]
    left
    simp only[<-t8,W9 (show l≠n by lia),G7 (show n+1≠n by lia),J1]
    left
    try erw[G7 (show n+1≠n by lia)]
    rw[z3T (by rw[zl];erw[l0];lia) (Y5 _)]
    left
    simp only[<-t8,W9 (show l≠n+1 by lia),G7 (show n≠n+1 by lia),J1]
    obtain⟨p5,p6,q',hq',e⟩:=ih (j0 rows R).2.2 (S++(j0 rows R).1) (L++(j0 rows R).2.1) (some (.tup ((j0 rows R).1.map .int))) (some (.tup ((j0 rows R).2.1.map .int))) q1 ⋯ ⋯ ⋯ (by rw[l8];lia) (by rw[l8];lia) (λ_ _=>by rw[l7,z28]) (λ_ _=>by rw[l7,z28])
    refine⟨p5,p6,q',⋯, ?_⟩
    rw[e]
    erw[m9,t9,if_false]
def z9g(rows:List Y3)(W:List Int)(k:Int)(l n:Nat)(hw: ∀r∈rows,Wf r)(hr:rows.length<1000)(hk:W.length<=100)(hl:l<n): ∃n',n+2<=n'/\z1a [.lst l (rows.map rD), .tup (W.map .int), .int k] n= .ok (.tup [.lst n ((J9 rows 1000 (W++[k])).1.map .int), .lst (n+1) ((J9 rows 1000 (W++[k])).2.1.map .int), .tup ((J9 rows 1000 (W++[k])).2.2.map .int)]) [.lst l (rows.map rD), .tup (W.map .int), .int k] n':=by
 unfold z1a z3i
 left
 rw[z6P (by rw[zl];erw[l0,o0,C0];lia)]
 left
 rw[z9e,show W.map D.int++[D.int k]=(W++[k]).map D.int by rw[t8];rfl]
 have hl2:(W++[k]).length=W.length+1:=by simp
 obtain⟨p5,p6,q',hq',e⟩:=z5w rows hw hr l n W k hl 1000 (W++[k]) [] [] none none (n+1+1) ⋯ ⋯ ⋯ (by erw[C0];lia) (by erw[C0];lia) (λ_ _=>rfl) (λ_ _=>rfl)
 erw[m8,A4] at e
 refine⟨q',⋯, ?_⟩
 rw[e]
 left
noncomputable def kd(p:List Int):D:= .tup (p.map .int)
noncomputable def z9M(PK:List (List Int))(p:List Int):List (List Int):=if p∈PK then PK else PK++[p]
def zdH{a b:List Int}(h:nkI a=nkI b):a=b:=by
 induction a generalizing b with
 |nil=>cases b with|nil=>rfl|cons _ _=>simp[nkI] at h
 |cons x a ih=>cases b with
  |nil=>simp[nkI] at h
  |cons y b=>
   erw[nkI,i6,List.cons.injEq,Sum.inl.injEq] at h
   rw[h.1,ih h.2]
def z0b{p R:List Int}:(z1S (kd p)=some (nkI R))↔p=R:=by
 unfold kd
 rw[z29,Option.some.injEq]
 exact⟨zdH,λh=>by rw[h]⟩
def zgI(p:List Int):dkD (nkI p)=kd p:=by
 unfold dkD kd nkI
 rw[C7];rfl
def z9h(PK:List (List Int))(R:List Int):((PK.map kd).any λd=>decide (z1S d=some (nkI R)))=decide (R∈PK):=by
 rw[R9]
 induction PK with
 |nil=>rfl
 |cons p PK ih=>
  erw[N9,Function.comp,z0b]
  try erw[Function.comp,z0b] at ih
  rw[ih]
  by_cases h:p=R
  .simp[h]
  .erw[h,decide_false,P9,l6,decide_eq_decide]
   exact⟨.inr,λz=>z.resolve_left λe=>h e.symm⟩
def zb0{PK:List (List Int)}{p R:List Int}:R∈z9M PK p↔R∈PK\/R=p:=by
 unfold z9M
 split
 .rename_i h;exact⟨.inl,λz=>z.elim id λe=>e▸h⟩
 .simp
def zb1{PK:List (List Int)}{p:List Int}:(z9M PK p).length<=PK.length+1:=by
 unfold z9M;split<;>simp
noncomputable def vD(r:Y3):D:= .tup [tI r.2.1,tI r.2.2]
noncomputable def TD(j:Nat)(E:List Y3):D:= .dct j (E.map λr=>kd r.1) (E.map vD)
noncomputable def z6g(E:List Y3)(r:Y3):List Y3:=if r.1∈E.map (·.1) then E.map (λe=>if e.1=r.1 then(e.1,r.2) else e) else E++[r]
def z9i(r:Y3):labs (vD r)=[]:=by unfold vD;erw[labs,qq,Y5];rfl
def zdI(E:List Y3):qq (E.map vD)=[]:=G6 λd hd=>by obtain⟨r,_,rfl⟩:=m5.mp hd;exact z9i r
def zc3{j:Nat}{E:List Y3}{r:Y3}{s:Stt}(hz:E.length<=1000):z20 (TD j E) (.tup (r.1.map .int)) (vD r) s= .nx (s.put j (TD j (z6g E r))):=by
 have hT:isT (E.map λr=>kd r.1)=true:=by cases E<;>rfl
 have ha:((E.map λr=>kd r.1).any λd=>decide (z1S d=some (nkI r.1)))=decide (r.1∈E.map (·.1)):=by
  rw[<-z9h,C7];rfl
 unfold z20 TD
 erw[z29]
 rw[qw ⟨hT,by rw[l0,zl];lia,z9i r,zdI E⟩]
 have e1:z4f (E.map λr=>kd r.1) (nkI r.1)=(z6g E r).map λr=>kd r.1:=by
  unfold z4f z6g
  rw[ha]
  by_cases h:r.1∈E.map (·.1)
  .erw[h,decide_true,if_true,C7]
   refine D1 λe _=> ?_
   erw[Function.comp];split<;>rfl
  .erw[h,decide_false,t9,if_false,t8,zgI];rfl
 have e2:z1K (E.map λr=>kd r.1) (E.map vD) (nkI r.1) (vD r)=(z6g E r).map vD:=by
  unfold z1K z6g
  rw[ha]
  by_cases h:r.1∈E.map (·.1)
  .erw[h,decide_true,if_true]
   clear h hz hT ha e1
   induction E with
   |nil=>rfl
   |cons e E ih=>
    erw[i6,L0,ih]
    congr 1
    by_cases h:e.1=r.1
    .rw[qw (z0b.mpr h),qw h];rfl
    .rw[qy λz=>h (z0b.mp z),qy h]
  .erw[h,decide_false,t9,if_false,t8];rfl
 rw[e1,e2]
noncomputable def Wg(r:Y3):Prop:=Wf r/\∀s∈r.2.1,0<=s/\s<40
def z9j{Q:Y3->Prop}{E:List Y3}{r:Y3}(h: ∀e∈E,Q e)(hr:Q r): ∀e∈z6g E r,Q e:=λe he=>by
 unfold z6g at he
 split at he
 .obtain⟨q,hq,rfl⟩:=m5.mp he
  split
  .rename_i hk;exact hk▸hr
  .exact h q hq
 .rcases i9.mp he with he|he
  .exact h e he
  .rw[m4.mp he];exact hr
def z6U{E:List Y3}{r:Y3}:(z6g E r).length<=E.length+1:=by unfold z6g;split<;>simp
def z9k{E:List Y3}{r:Y3}(h:(E.map (·.1)).Nodup):((z6g E r).map (·.1)).Nodup:=by
 unfold z6g
 split
 .rw[C7]
  have:((λx:Y3=>x.1)∘λe=>if e.1=r.1 then(e.1,r.2) else e)=λx:Y3=>x.1:=by funext e;erw[Function.comp];split<;>rfl
  rw[this];exact h
 .rename_i hn
  rw[t8,P7]
  refine⟨h,by simp,λa ha b hb e=> ?_⟩
  erw[i6,m8,m4] at hb
  exact hn (hb▸e▸ha)
def zdJ{E:List Y3}{r:Y3}(h:(E.map (·.1)).Nodup)(hr:r∈E):findK (E.map λr=>kd r.1) (E.map vD) (nkI r.1)=some (vD r):=by
 induction E with
 |nil=>cases hr
 |cons e E ih=>
  erw[i6,E3] at h
  erw[i6,findK]
  by_cases hk:e.1=r.1
  .rw[qw (z0b.mpr hk)]
   rcases l6.mp hr with rfl|hm
   .rfl
   .exact absurd (m5.mpr ⟨r,hm,hk.symm⟩) h.1
  .rw[qy λz=>hk (z0b.mp z)]
   rcases l6.mp hr with rfl|hm
   .exact absurd rfl hk
   .exact ih h.2 hm
def zb2{k j:Nat}{d:D}{E:List Y3}(h:j≠k):rp (pl k d) (TD j E)=TD j E:=zgH h (zdI E)
def z9l{j:Nat}{d:D}{E:List Y3}:rp (pl j d) (TD j E)=d:=by unfold TD;erw[rp,pl,if_true]
noncomputable def FD(E:List Y3):D:= .fdc (E.map λr=>kd r.1) (E.map vD)
def zgJ{E:List Y3}{r:Y3}{s:Stt}(h:(E.map (·.1)).Nodup)(hr:r∈E):z2D (FD E) (.tup (r.1.map .int)) s= .ok (vD r) s:=by
 unfold z2D FD
 have hT:isT (E.map λr=>kd r.1)=true:=by cases E<;>rfl
 erw[rdD,qw hT,z29,zdJ h hr]
 rfl
noncomputable def gE(E:List Y3)(d:D):D:=match E.find? (λr=>decide (r.1=unI d)) with
 |some r=>rD r
 |none=>d
def zgK{E:List Y3}{r:Y3}(h:(E.map (·.1)).Nodup)(hr:r∈E):gE E (kd r.1)=rD r:=by
 unfold gE kd
 rw[zbZ]
 have:E.find? (λe=>decide (e.1=r.1))=some r:=by
  induction E with
  |nil=>cases hr
  |cons e E ih=>
   erw[i6,E3] at h
   rw[List.find?_cons]
   by_cases hk:e.1=r.1
   .erw[hk,decide_true]
    rcases l6.mp hr with rfl|hm
    .rfl
    .exact absurd (m5.mpr ⟨r,hm,hk.symm⟩) h.1
   .erw[hk,decide_false]
    rcases l6.mp hr with rfl|hm
    .exact absurd rfl hk
    .exact ih h.2 hm
 rw[this]
def zb3{E:List Y3}{j:Nat}{m0:M D}{σ tm:Qq}{n:Nat}{s:Stt}(hn:(E.map (·.1)).Nodup)(hz:E.length<=1000)(i0:Nat)(hσ:σ[i0]? =some (some (FD E)))(hm:z0U m0 s= .ok z3K ⟨σ,some (FD E)::tm,n⟩):
 ∃n',n<=n'/\J3 (z0U m0) (.nm 0) (rt true) (Z5 (mCB [(Z0 0)] U1) (Z5 (Z0 1) (Z0 0) z2D) X9) 1 [i0] s= .ok (.lst n' (E.map rD)) ⟨σ,tm,n'+1⟩:=by
 obtain⟨n',h1,h2⟩:=z3o (mi:=z0U m0) (K:=z3K) (mt:=rt true) (me:=Z5 (mCB [(Z0 0)] U1) (Z5 (Z0 1) (Z0 0) z2D) X9) (p:=λ_=>true) (g:=gE E) (items:=E.map λr=>kd r.1) (its:=[some (FD E)]) (ix:=[i0]) (s:=s) (σ:=σ) (tm:=tm) (n:=n) hm rfl (by rw[l0,zl];lia) (λi rest=>rfl) (by show(E.map λr=>kd r.1).length=_;rfl) (λd hd tm n=>⟨n,i8 _,rfl⟩) (by
  intro d hd _ tm n
  obtain⟨r,hr,rfl⟩:=m5.mp hd
  refine⟨n,i8 _, ?_⟩
  rw[zgK hn hr]
  erw[i6,m8,hσ,B2]
  left
  unfold kd
  rw[zgJ hn hr]
  left
  unfold vD
  rw[z6P (by rw[zl];simp)]
  rfl)
 refine⟨n',h1, ?_⟩
 rw[h2,T0.mpr (λ_ _=>rfl),C7]
 have e:List.map (gE E∘λr=>kd r.1) E=E.map rD:=D1 λr hr=>zgK hn hr
 rw[e]
noncomputable abbrev sg(l:Nat)(c x:Int)(o1:Option D)(lt fi tp:Int)(dc:D)(o6 o7 o8 o9 oa:Option D):Qq:=[some (.lst l [.int c, .int x]),o1,some (.int lt),some (.int fi),some (.int tp),some dc,o6,o7,o8,o9,oa]
theorem z4B{m:Int}: ∀{ys:List D},(∀y∈ys,∃i:Int,(0<=i/\i<m)/\y= .int i)->∃ns:List Int,(∀i∈ns,0<=i/\i<m)/\ys=ns.map .int
 |[],_=>⟨[],(λ_ h=>nomatch h),rfl⟩
 |y::ys,h=>by
  obtain⟨i,hi,rfl⟩:=h y (l5 ..)
  obtain⟨ns,hn,rfl⟩:=z4B λz hz=>h z (i5 _ hz)
  exact⟨i::ns,O3.mpr ⟨hi,hn⟩,rfl⟩
def zjB(l n:Nat)(c x lt fi tp N:Int)(o1 o6 o7 o8 o9 oa:Option D)(dc:D)(ms:List (M D))(s:Stt)(hms:Q2 ms s= .ok [.int N] ⟨sg l c x o1 lt fi tp dc o6 o7 o8 o9 oa,[some (.lst l [.int c, .int x])],n⟩)(h0:0<=N)(h1:N<=100)(hb:Bg c x)(hn:l<n)(hlt:0<lt)(hlt':lt<1000)
 (r1: ∀d,B6 (rp (pl l d)) o1=o1) (rd: ∀d,rp (pl l d) dc=dc) (r6: ∀d,B6 (rp (pl l d)) o6=o6) (r7: ∀d,B6 (rp (pl l d)) o7=o7) (r8: ∀d,B6 (rp (pl l d)) o8=o8) (r9: ∀d,B6 (rp (pl l d)) o9=o9) (ra: ∀d,B6 (rp (pl l d)) oa=oa):
 ∃(ns:List Int) (c' x':Int) (n':Nat),(ns.length:Int)=N/\(∀i∈ns,0<=i/\i<26)/\Bg c' x'/\n<=n'/\J3 (V4 ms) (.nm 0) (rt true) (Z5 (Z5 (Z0 1) (Z8 Z3 [(Z0 2),(Z0 3)]) X9) (mC (.int 26)) z2f) 1 [3,0,2] s= .ok (.lst n' (ns.map .int)) ⟨sg l c' x' o1 lt fi tp dc o6 o7 o8 o9 oa,[some (.lst l [.int c', .int x'])],n'+1⟩:=by
 obtain⟨ys,b',n',g1,g2,g3,⟨c3,x3,rfl,h3⟩,g5,g6⟩:=z5t (ms:=ms) (me:=Z5 (Z5 (Z0 1) (Z8 Z3 [(Z0 2),(Z0 3)]) X9) (mC (.int 26)) z2f) (N:=N.toNat) (ix:=[3,0,2]) (s:=s) (l:=l) (n:=n) (j:=N) (σ0:=sg l c x o1 lt fi tp dc o6 o7 o8 o9 oa) (tm0:=[some (.lst l [.int c, .int x])]) (b:=[.int c, .int x]) (Bg:=λb=> ∃c x,b=[.int c, .int x]/\Bg c x) (Q:=λ_ d=> ∃i:Int,(0<=i/\i<26)/\d= .int i) (λ_ _ _ _ h=>h)
  hms rfl ⟨⋯,⋯⟩ (by rw[zl];lia) ⟨c,x,rfl,hb⟩ hn (by erw[sg,Y4,W0,l7,z1e,G2,r1,rd,r6,r7,r8,r9,ra]) (by erw[Y4,W0,l7,z1e]) (by erw[sg,i6,m8,List.getElem?_cons_zero,List.getElem?_cons_succ,B2,Y4,W0,l7,z1e,G2]) (by
   rintro i hi b tm m ⟨c,x,rfl,hb⟩ hm hf
   obtain⟨r,c',x',hs0,hs1,h',e'⟩:=Q9 l c x lt m hb hlt ⋯
   refine⟨.int ((fi+r) %26),[.int c', .int x'],m,⟨c',x',rfl,h'⟩,⟨_,⟨⋯,⋯⟩,rfl⟩,i8 _,by simp[labs], ?_⟩
   erw[sg,i6,m8,List.getElem?_cons_zero,List.getElem?_cons_succ,B2]
   left
   rw[e',z0w rfl rfl rfl (by left) (by left;erw[hf])]
   left
   rw[z2w (by decide)]
   try rfl)
 obtain⟨ns,hns,rfl⟩:=z4B g2
 refine⟨ns,c3,x3,n',by simp at g1;lia,hns,h3,⋯, ?_⟩
 rw[g6]
 erw[sg,Y4,W0,l7,z1e,G2,r1,rd,r6,r7,r8,r9,ra]
def zkv(l n:Nat)(c x lt fi tp N:Int)(o1 o6 o7 o8 o9 oa:Option D)(dc:D)(ms:List (M D))(s:Stt)(hms:Q2 ms s= .ok [.int N] ⟨sg l c x o1 lt fi tp dc o6 o7 o8 o9 oa,[some (.lst l [.int c, .int x])],n⟩)(h0:0<=N)(h1:N<=100)(hb:Bg c x)(hn:l<n)(hlt:0<tp)(hlt':tp<=40)
 (r1: ∀d,B6 (rp (pl l d)) o1=o1) (rd: ∀d,rp (pl l d) dc=dc) (r6: ∀d,B6 (rp (pl l d)) o6=o6) (r7: ∀d,B6 (rp (pl l d)) o7=o7) (r8: ∀d,B6 (rp (pl l d)) o8=o8) (r9: ∀d,B6 (rp (pl l d)) o9=o9) (ra: ∀d,B6 (rp (pl l d)) oa=oa):
 ∃(ns:List Int) (c' x':Int) (n':Nat),(ns.length:Int)=N/\(∀i∈ns,0<=i/\i<40)/\Bg c' x'/\n<=n'/\J3 (V4 ms) (.nm 0) (rt true) (Z8 Z3 [(Z0 1),(Z0 2)]) 1 [0,4] s= .ok (.lst n' (ns.map .int)) ⟨sg l c' x' o1 lt fi tp dc o6 o7 o8 o9 oa,[some (.lst l [.int c', .int x'])],n'+1⟩:=by
 obtain⟨ys,b',n',g1,g2,g3,⟨c3,x3,rfl,h3⟩,g5,g6⟩:=z5t (ms:=ms) (me:=Z8 Z3 [(Z0 1),(Z0 2)]) (N:=N.toNat) (ix:=[0,4]) (s:=s) (l:=l) (n:=n) (j:=N) (σ0:=sg l c x o1 lt fi tp dc o6 o7 o8 o9 oa) (tm0:=[some (.lst l [.int c, .int x])]) (b:=[.int c, .int x]) (Bg:=λb=> ∃c x,b=[.int c, .int x]/\Bg c x) (Q:=λ_ d=> ∃i:Int,(0<=i/\i<40)/\d= .int i) (λ_ _ _ _ h=>h)
  hms rfl ⟨⋯,⋯⟩ (by rw[zl];lia) ⟨c,x,rfl,hb⟩ hn (by erw[sg,Y4,W0,l7,z1e,G2,r1,rd,r6,r7,r8,r9,ra]) (by erw[Y4,W0,l7,z1e]) (by erw[sg,i6,m8,List.getElem?_cons_zero,List.getElem?_cons_succ,B2,Y4,W0,l7,z1e,G2]) (by
   rintro i hi b tm m ⟨c,x,rfl,hb⟩ hm hf
   obtain⟨r,c',x',hs0,hs1,h',e'⟩:=Q9 l c x tp m hb hlt ⋯
   refine⟨.int r,[.int c', .int x'],m,⟨c',x',rfl,h'⟩,⟨_,⟨hs0,⋯⟩,rfl⟩,i8 _,by simp[labs], ?_⟩
   erw[sg,i6,m8,List.getElem?_cons_zero,List.getElem?_cons_succ,B2]
   left
   rw[e',z0w rfl rfl rfl (by left) hf]
   left)
 obtain⟨ns,hns,rfl⟩:=z4B g2
 refine⟨ns,c3,x3,n',by simp at g1;lia,hns,h3,⋯, ?_⟩
 rw[g6]
 erw[sg,Y4,W0,l7,z1e,G2,r1,rd,r6,r7,r8,r9,ra]
noncomputable def tb:MS:=(Y2 (W3 (.nm 8) (mCB [(J3 (V4 [(Z5 (mC (.int 1)) (Z8 Z3 [(Z0 0),(mC (.int 4))]) X9)]) (.nm 0) (rt true) (Z5 (Z5 (Z0 1) (Z8 Z3 [(Z0 2),(Z0 3)]) X9) (mC (.int 26)) z2f) 1 [3,0,2])] z5b))
 (Y2 (W3 (.nm 9) (mCB [(J3 (V4 [(Z8 Z3 [(Z0 0),(mC (.int 4))])]) (.nm 0) (rt true) (Z8 Z3 [(Z0 1),(Z0 2)]) 1 [0,4])] z5b))
 (Y2 (W3 (.nm 10) (mCB [(J3 (V4 [(Z8 Z3 [(Z0 0),(mCB [(Z0 8)] X8)])]) (.nm 0) (rt true) (Z5 (Z5 (Z0 1) (Z8 Z3 [(Z0 2),(Z0 3)]) X9) (mC (.int 26)) z2f) 1 [3,0,2])] z5b))
 (z4c (mCB [(Z0 9),(Z0 10)] U1) (Z0 5) (Z0 8) z20))))
noncomputable abbrev Fre(o:Option D):Prop:= ∀k d,B6 (rp (pl k d)) o=o
def z1R(ns:List Int):Fre (some (.tup (ns.map .int))):=λ_ _=>by rw[l7,z28]
def z0n(i:Int):Fre (some (.int i)):=λ_ _=>rfl
def j5:Fre none:=λ_ _=>rfl
def zj1(l j n:Nat)(c x lt fi tp:Int)(o1 o6 o7 o8 o9 oa:Option D)(E:List Y3)(hE:E.length<=900)(hb:Bg c x)(hn:l<n)(hj:j<n)(hlj:l≠j)(h0:0<lt)(h1:lt<1000)(h2:0<tp)(h3:tp<=40)(f1:Fre o1)(f6:Fre o6)(f7:Fre o7)(f8:Fre o8)(f9:Fre o9)(fa:Fre oa):
 ∃(r:Y3) (c' x':Int) (n':Nat) (p8 p9 pa:Option D),Wg r/\Bg c' x'/\n<=n'/\Fre p8/\Fre p9/\Fre pa/\tb ⟨sg l c x o1 lt fi tp (TD j E) o6 o7 o8 o9 oa,[some (.lst l [.int c, .int x])],n⟩= .nx ⟨sg l c' x' o1 lt fi tp (TD j (z6g E r)) o6 o7 p8 p9 pa,[some (.lst l [.int c', .int x'])],n'⟩:=by
 have rd: ∀d,rp (pl l d) (TD j E)=TD j E:=λd=>zb2 (λh=>hlj h.symm)
 unfold tb
 left
 obtain⟨q,c1,x1,hq0,hq1,b1,e1⟩:=Q9 l c x 4 n hb (by decide) (by decide)
 obtain⟨ks,c2,x2,n2,lk,kb,b2,hn2,e2⟩:=zjB l n c1 x1 lt fi tp (1+q) o1 o6 o7 o8 o9 oa (TD j E) [(Z5 (mC (.int 1)) (Z8 Z3 [(Z0 0),(mC (.int 4))]) X9)] ⟨sg l c x o1 lt fi tp (TD j E) o6 o7 o8 o9 oa,[some (.lst l [.int c, .int x])],n⟩ (by
  unfold sg
  left
  rw[e1,Y9 rfl rfl rfl (λq=>by left;try erw[f1 l,f6 l,f7 l,f8 l,f9 l,fa l,rd];rfl) (λq=>by left;rfl)]
  try (left)) ⋯ ⋯ b1 hn h0 h1 (f1 l) rd (f6 l) (f7 l) (f8 l) (f9 l) (fa l)
 rw[e2]
 unfold sg
 left
 obtain⟨q3,c3,x3,hq30,hq31,b3,e3⟩:=Q9 l c2 x2 4 (n2+1) b2 (by decide) (by decide)
 obtain⟨ss,c4,x4,n4,ls,lsb,b4,hn4,e4⟩:=zkv l (n2+1) c3 x3 lt fi tp q3 o1 o6 o7 (some (.tup (ks.map .int))) o9 oa (TD j E) [(Z8 Z3 [(Z0 0),(mC (.int 4))])] ⟨sg l c2 x2 o1 lt fi tp (TD j E) o6 o7 (some (.tup (ks.map .int))) o9 oa,[some (.lst l [.int c2, .int x2])],n2+1⟩ (by
  unfold sg
  left
  rw[e3,Y9 rfl rfl rfl (λq=>by left;try erw[f1 l,f6 l,f7 l,f9 l,fa l,rd,J1];rfl) (λq=>by left;rfl)]
  try (left)) ⋯ ⋯ b3 ⋯ h2 h3 (f1 l) rd (f6 l) (f7 l) (z1R ks l) (f9 l) (fa l)
 unfold sg at e4
 rw[e4]
 left
 obtain⟨q5,c5,x5,hq50,hq51,b5,e5⟩:=Q9 l c4 x4 ks.length (n4+1) b4 ⋯ ⋯
 obtain⟨fs,c6,x6,n6,lf,_,b6,hn6,e6⟩:=zjB l (n4+1) c5 x5 lt fi tp q5 o1 o6 o7 (some (.tup (ks.map .int))) (some (.tup (ss.map .int))) oa (TD j E) [(Z8 Z3 [(Z0 0),(mCB [(Z0 8)] X8)])] ⟨sg l c4 x4 o1 lt fi tp (TD j E) o6 o7 (some (.tup (ks.map .int))) (some (.tup (ss.map .int))) oa,[some (.lst l [.int c4, .int x4])],n4+1⟩ (by
  unfold sg
  left
  rw[z5D,e5,z0w rfl rfl rfl (by left;erw[f1 l,f6 l,f7 l,fa l,rd,J1]) (by left)]
  left
  erw[f1 l,f6 l,f7 l,fa l,rd,J1]) ⋯ ⋯ b5 ⋯ h0 h1 (f1 l) rd (f6 l) (f7 l) (z1R ks l) (z1R ss l) (fa l)
 unfold sg at e6
 rw[e6]
 left
 have hp:=zc3 (j:=j) (E:=E) (r:=(ks,ss,fs)) (s:=⟨[some (.lst l [.int c6, .int x6]),o1,some (.int lt),some (.int fi),some (.int tp),some (TD j E),o6,o7,some (.tup (ks.map .int)),some (.tup (ss.map .int)),some (.tup (fs.map .int))],[some (.lst l [.int c6, .int x6])],n6+1⟩) ⋯
 unfold vD tI at hp
 rw[hp]
 refine⟨(ks,ss,fs),c6,x6,n6+1,some (.tup (ks.map .int)),some (.tup (ss.map .int)),some (.tup (fs.map .int)),⟨⟨by show 1<=ks.length;lia,by show ks.length<=4;lia,by show ss.length<=3;lia,by show fs.length<ks.length;lia,kb⟩,lsb⟩,b6,⋯,z1R ks,z1R ss,z1R fs, ?_⟩
 erw[z1P,Y4,W0,l7,z28,G2,z9l,f1 j,f6 j,f7 j,z0V hlj,U7,U4]
def zen{a b w:Int}(h0:0<=w)(h1:w<2): ∃v,(v=a\/v=b)/\atI [D.int a,D.int b] w=some (.int v):=by
 have:w=0\/w=1:=by lia
 rcases this with rfl|rfl
 .exact⟨a, .inl rfl,at0⟩
 .exact⟨b, .inr rfl,at1⟩
noncomputable def tb1:MS:=z4c (mCB [(mCB [(Z8 Z3 [(Z0 0),(Z0 4)])] U1),(mCB [] U1)] U1) (Z0 5) (mCB [(Z5 (Z5 (Z0 3) (Z0 6) X9) (mC (.int 26)) z2f)] U1) z20
def zgL{σ tm:Qq}{n:Nat}:z5W ⟨σ,tm,n⟩= .ok (TD n []) ⟨σ,tm,n+1⟩:=(rfl)
def zgM(l j n:Nat)(c x lt fi tp k:Int)(o1 o7 o8 o9 oa:Option D)(E:List Y3)(hE:E.length<=900)(hb:Bg c x)(hlj:l≠j)(h2:0<tp)(h3:tp<=40)(f1:Fre o1)(f7:Fre o7)(f8:Fre o8)(f9:Fre o9)(fa:Fre oa):
 ∃(r:Y3) (c' x':Int),Wg r/\Bg c' x'/\tb1 ⟨sg l c x o1 lt fi tp (TD j E) (some (.int k)) o7 o8 o9 oa,[some (.lst l [.int c, .int x])],n⟩= .nx ⟨sg l c' x' o1 lt fi tp (TD j (z6g E r)) (some (.int k)) o7 o8 o9 oa,[some (.lst l [.int c', .int x'])],n⟩:=by
 have rd: ∀d,rp (pl l d) (TD j E)=TD j E:=λd=>zb2 (λh=>hlj h.symm)
 unfold tb1 sg
 left
 obtain⟨q,c1,x1,hq0,hq1,b1,e1⟩:=Q9 l c x tp n hb h2 ⋯
 rw[e1,Y9 rfl rfl rfl (λq=>by left;try erw[f1 l,f7 l,f8 l,f9 l,fa l,rd];rfl) (λq=>by left;rfl)]
 try (left)
 rw[z2w (by decide)]
 left
 have hp:=zc3 (j:=j) (E:=E) (r:=([(fi+k) %26],[q],[])) (s:=⟨[some (.lst l [.int c1, .int x1]),o1,some (.int lt),some (.int fi),some (.int tp),some (TD j E),some (.int k),o7,o8,o9,oa],[some (.lst l [.int c1, .int x1])],n⟩) ⋯
 unfold vD tI at hp
 erw[i6,m8] at hp
 rw[hp]
 refine⟨([(fi+k) %26],[q],[]),c1,x1,⟨⟨by simp,by simp,by simp,by simp,λz hz=>by rw[m4.mp hz];lia⟩,λz hz=>by rw[m4.mp hz];lia⟩,b1, ?_⟩
 erw[z1P,Y4,W0,l7,G2,z9l,f1 j,f7 j,f8 j,f9 j,fa j,z0V hlj,U7,U4]
def zb4(l n:Nat)(c x:Int)(hb:Bg c x)(hn:l<n): ∃(rows:List Y3) (c' x':Int) (k n':Nat),(∀r∈rows,Wg r)/\rows.length<=40/\Bg c' x'/\n<=k/\k<n'/\z0v [.lst l [.int c, .int x]] n= .ok (.lst k (rows.map rD)) [.lst l [.int c', .int x']] n':=by
 generalize hr:z0v [.lst l [.int c, .int x]] n=r
 unfold z0v at hr
 have e0:z3k=(Y2 (W3 (.nm 1) (Z5 (Z8 Z3 [(Z0 0),(mC (.int 8))]) (mC (.int 7)) z49))
  (Y2 (W3 (.nm 2) (Z5 (mCB [(Z5 (mC (.int 1)) (Z8 Z3 [(Z0 0),(mC (.int 4))]) X9),(mC (.int 26))] lstM) (Z0 1) ixD))
  (Y2 (W3 (.nm 3) (Z8 Z3 [(Z0 0),(mC (.int 26))]))
  (Y2 (W3 (.nm 4) (Z5 (mCB [(mC (.int 3)),(mC (.int 40))] lstM) (Z8 Z3 [(Z0 0),(mC (.int 2))]) ixD))
  (Y2 (W3 (.nm 5) z5W)
  (Y2 (sIf (V3 (Z5 (Z8 Z3 [(Z0 0),(mC (.int 2))]) (mC (.int 0)) eqD)) (z1p (V4 [(Z0 2)]) (.nm 6) tb1) sNx)
  (Y2 (z1p (V4 [(Z5 (mCB [(Z8 Z3 [(Z0 0),(mC (.int 8))]),(mC (.int 40))] lstM) (Z0 1) ixD)]) (.nm 7) tb)
  (z0y (mSl (J3 (z0U (Z0 5)) (.nm 0) (rt true) (Z5 (mCB [(Z0 0)] U1) (Z5 (Z0 1) (Z0 0) z2D) X9) 1 [5]) none (some (mC (.int 40)))))))))))):=rfl
 rw[e0] at hr
 revert hr
 left
 obtain⟨q1,c1,x1,hq1,hq1',b1,e1⟩:=Q9 l c x 8 n hb (by decide) (by decide)
 rw[e1,Y9 rfl rfl rfl (λq=>by left;rfl) (λq=>by left;rfl)]
 left
 rw[z98 ⟨by decide,by decide⟩]
 left
 obtain⟨q2,c2,x2,hq2,hq2',b2,e2⟩:=Q9 l c1 x1 4 n b1 (by decide) (by decide)
 rw[e2,Y9 rfl rfl rfl (λq=>by left;rfl) (λq=>by left;rfl)]
 left
 generalize hw:q1/7=w
 have hw0:0<=w:=by lia
 have hw1:w<2:=by lia
 obtain⟨lt,hlt,elt⟩:=zen (a:=1+q2) (b:=26) hw0 hw1
 rw[elt]
 left
 obtain⟨fi,c3,x3,hq3,hq3',b3,e3⟩:=Q9 l c2 x2 26 (n+1) b2 (by decide) (by decide)
 rw[e3,Y9 rfl rfl rfl (λq=>by left;rfl) (λq=>by left;rfl)]
 left
 obtain⟨q4,c4,x4,hq4,hq4',b4,e4⟩:=Q9 l c3 x3 2 (n+1+1) b3 (by decide) (by decide)
 rw[e4,z0w rfl rfl rfl (by left;try erw[z0V (show n+1≠l by lia),U7,U4,G2]) (by left;try erw[z0V (show n+1≠l by lia),U7,U4,G2])]
 left
 erw[z0V (show n+1≠l by lia),U7,U4,G2]
 left
 obtain⟨tp,htp,etp⟩:=zen (a:=3) (b:=40) hq4 hq4'
 rw[etp]
 left
 rw[zgL]
 left
 have hj:l≠n+1+1:=by lia
 have rd0: ∀d,rp (pl l d) (TD (n+1+1) [])=TD (n+1+1) []:=λd=>zb2 (λh=>hj h.symm)
 obtain⟨q5,c5,x5,hq5,hq5',b5,e5⟩:=Q9 l c4 x4 2 (n+1+1+1) b4 (by decide) (by decide)
 rw[e5,Y9 rfl rfl rfl (λq=>by left;try erw[rd0];rfl) (λq=>by left;rfl)]
 try (left)
 have k1: ∃(E:List Y3) (c6 x6:Int) (o6:Option D),(∀e∈E,Wg e)/\E.length<=26/\(E.map (·.1)).Nodup/\Bg c6 x6/\Fre o6/\zbH (q5==0) (z1p (V4 [(Z0 2)]) (.nm 6) tb1) sNx ⟨sg l c5 x5 (some (.int w)) lt fi tp (TD (n+1+1) []) none none none none none,[some (.lst l [.int c5, .int x5])],n+1+1+1⟩= .nx ⟨sg l c6 x6 (some (.int w)) lt fi tp (TD (n+1+1) E) o6 none none none none,[some (.lst l [.int c6, .int x6])],n+1+1+1⟩:=by
  cases(q5==0) with
  |false=>exact⟨[],c5,x5,none,λe h=>absurd h A2,by simp,by simp,b5,j5,by unfold sg;left⟩
  |true=>
   unfold sg
   left
   rw[z1Q ⟨⋯,⋯⟩]
   left
   obtain⟨s',e,E,c6,x6,o6,rfl,g1,g2,g3,g4,g5⟩:=z1B (P:=λi s=> ∃(E:List Y3) (c6 x6:Int) (o6:Option D),s=⟨sg l c6 x6 (some (.int w)) lt fi tp (TD (n+1+1) E) o6 none none none none,[some (.lst l [.int c6, .int x6])],n+1+1+1⟩/\(∀e∈E,Wg e)/\E.length<=i/\(E.map (·.1)).Nodup/\Bg c6 x6/\Fre o6) (lo:=0) (N:=lt.toNat) (g:= .nm 6) (b:=tb1) (by
    rintro i hi s ⟨E,c6,x6,o6,rfl,g1,g2,g3,g4,g5⟩
    refine⟨sg l c6 x6 (some (.int w)) lt fi tp (TD (n+1+1) E) (some (.int (0+(i:Int)))) none none none none,rfl, ?_⟩
    obtain⟨r,c7,x7,hr,b7,e7⟩:=zgM l (n+1+1) (n+1+1+1) c6 x6 lt fi tp (0+(i:Int)) (some (.int w)) none none none none E ⋯ g4 hj ⋯ ⋯ (z0n w) j5 j5 j5 j5
    exact⟨_,e7,z6g E r,c7,x7,_,rfl,z9j g1 hr,C1 z6U ⋯,z9k g3,b7,z0n _⟩) lt.toNat 0 ⟨sg l c5 x5 (some (.int w)) lt fi tp (TD (n+1+1) []) none none none none none,[some (.lst l [.int c5, .int x5])],n+1+1+1⟩ ⋯ ⟨[],c5,x5,none,rfl,λe h=>absurd h A2,by simp,by simp,b5,j5⟩
   exact⟨E,c6,x6,o6,g1,⋯,g3,g4,g5,e⟩
 obtain⟨E,c6,x6,o6,g1,g2,g3,b6,f6,e6⟩:=k1
 unfold sg at e6
 rw[e6]
 left
 have rd1: ∀d,rp (pl l d) (TD (n+1+1) E)=TD (n+1+1) E:=λd=>zb2 (λh=>hj h.symm)
 obtain⟨q7,c7,x7,hq7,hq7',b7,e7⟩:=Q9 l c6 x6 8 (n+1+1+1) b6 (by decide) (by decide)
 rw[e7,Y9 rfl rfl rfl (λq=>by left;try erw[rd1,f6 l];rfl) (λq=>by left;rfl)]
 try (left)
 obtain⟨N,hN,eN⟩:=zen (a:=q7) (b:=40) hw0 hw1
 rw[eN]
 left
 rw[z1Q ⟨⋯,⋯⟩]
 left
 obtain⟨s',e8,E2,c8,x8,o7,o8,o9,oa,n8,rfl,g1',g2',g3',b8,hn8,f7,f8,f9,fa⟩:=z1B (P:=λi s=> ∃(E2:List Y3) (c8 x8:Int) (o7 o8 o9 oa:Option D) (n8:Nat),s=⟨sg l c8 x8 (some (.int w)) lt fi tp (TD (n+1+1) E2) o6 o7 o8 o9 oa,[some (.lst l [.int c8, .int x8])],n8⟩/\(∀e∈E2,Wg e)/\E2.length<=26+i/\(E2.map (·.1)).Nodup/\Bg c8 x8/\n+1+1+1+1<=n8/\Fre o7/\Fre o8/\Fre o9/\Fre oa) (lo:=0) (N:=N.toNat) (g:= .nm 7) (b:=tb) (by
  rintro i hi s ⟨E2,c8,x8,o7,o8,o9,oa,n8,rfl,g1',g2',g3',b8,hn8,f7,f8,f9,fa⟩
  refine⟨sg l c8 x8 (some (.int w)) lt fi tp (TD (n+1+1) E2) o6 (some (.int (0+(i:Int)))) o8 o9 oa,rfl, ?_⟩
  obtain⟨r,c9,x9,n9,p8,p9,pa,hr,b9,hn9,h8,h9,ha,e9⟩:=zj1 l (n+1+1) n8 c8 x8 lt fi tp (some (.int w)) o6 (some (.int (0+(i:Int)))) o8 o9 oa E2 ⋯ b8 ⋯ ⋯ hj ⋯ ⋯ ⋯ ⋯ (z0n w) f6 (z0n _) f8 f9 fa
  exact⟨_,e9,z6g E2 r,c9,x9,_,p8,p9,pa,n9,rfl,z9j g1' hr,C1 z6U ⋯,z9k g3',b9,⋯,z0n _,h8,h9,ha⟩) N.toNat 0 ⟨sg l c7 x7 (some (.int w)) lt fi tp (TD (n+1+1) E) o6 none none none none,[some (.lst l [.int c7, .int x7])],n+1+1+1+1⟩ ⋯ ⟨E,c7,x7,none,none,none,none,n+1+1+1+1,rfl,g1,⋯,g3,b7,i8 _,j5,j5,j5,j5⟩
 unfold sg at e8
 rw[e8]
 left
 have hT:isT (E2.map λr=>kd r.1)=true:=by cases E2<;>rfl
 obtain⟨n9,hn9,e9⟩:=zb3 (E:=E2) (j:=n+1+1) (m0:=Z0 5) (σ:=[some (.lst l [.int c8, .int x8]),some (.int w),some (.int lt),some (.int fi),some (.int tp),some (FD E2),o6,o7,o8,o9,oa]) (tm:=[some (.lst l [.int c8, .int x8])]) (n:=n8) (s:=⟨[some (.lst l [.int c8, .int x8]),some (.int w),some (.int lt),some (.int fi),some (.int tp),some (TD (n+1+1) E2),o6,o7,o8,o9,oa],[some (.lst l [.int c8, .int x8])],n8⟩) g3' ⋯ 5 rfl (by
  unfold z0U
  left
  show(if isT (E2.map λr=>kd r.1)=true/\qq (E2.map vD)=[] then _ else _)=_
  rw[qw ⟨hT,zdI E2⟩]
  erw[z1P,Y4,W0,l7,G2,z9l,f6 (n+1+1),f7 (n+1+1),f8 (n+1+1),f9 (n+1+1),fa (n+1+1),z0V hj,U7,U4]
  rfl)
 rw[e9]
 left
 intro hr
 subst hr
 refine⟨E2.take 40,c8,x8,n9+1,n9+1+1,λr hr=>g1' r (L9 hr),by rw[A7];lia,b8,⋯,⋯, ?_⟩
 rw[show(40:Int)=((40:Nat):Int) from rfl,z2n,<-R0]
def y_app{l:Nat}{ds:List D}{y:D}{σ tm:Qq}{n:Nat}(h:ds.length<qh)(hl:labs y=[]):z5e (.lst l ds) [y] ⟨σ,tm,n⟩= .ok .non ⟨rpO (pl l (.lst l (ds++[y]))) σ,rpO (pl l (.lst l (ds++[y]))) tm,n⟩:=by
 erw[z5e]
 rw[qw ⟨h,by rw[hl];exact A2⟩]
 rfl
def at_ints{ns:List Int}{i:Int}(h0:0<=i)(h1:i<ns.length): ∃v:Int,atI (ns.map D.int) i=some (.int v):=by
 obtain⟨d,hd,e⟩:=zbX (ds:=ns.map D.int) h0 (by simpa using h1)
 obtain⟨v,_,rfl⟩:=m5.mp hd
 exact⟨v,e⟩
def zj2{b:Bool}: ∃v:Int,(0<=v/\v<2)/\(if b then(1:Int) else 0)=v:=by cases b<;>exact⟨_,⟨by decide,by decide⟩,rfl⟩
def zgN(rows:List Y3)(hw: ∀r∈rows,Wf r)(hr:rows.length<=60)(B:D)(k n:Nat)(m7:Option D)(hk:k<n)(hB: ∀d,rp (pl n d) B=B): ∃(ms:List Int) (o4 o5 o6:Option D),ms≠[]/\ms.length<=300/\Fre o4/\Fre o5/\Fre o6/\
 z1p (v4 (Z0 1)) (.tp [(.nm 4),(.nm 5),(.nm 6)]) (v3 (u2 (Z0 3) [(Z0 4)] z2r)) ⟨[some B,some (.lst k (rows.map rD)),some (.int 60),some (.lst n [.int 0]),none,none,none,none,none,none],[some B,some (.lst k (rows.map rD)),some (.int 60)],n+1⟩
  = .nx ⟨[some B,some (.lst k (rows.map rD)),some (.int 60),some (.lst n (ms.map .int)),o4,o5,o6,none,none,none],[some B,some (.lst k (rows.map rD)),some (.int 60)],n+1⟩:=by
 left
 obtain⟨s',e,ms,o4,o5,o6,rfl,g1,g2,g4,g5,g6⟩:=z1l (P:=λi s=> ∃(ms:List Int) (o4 o5 o6:Option D),s=⟨[some B,some (.lst k (rows.map rD)),some (.int 60),some (.lst n (ms.map .int)),o4,o5,o6,none,none,none],some (.lst k (rows.map rD))::[some B,some (.lst k (rows.map rD)),some (.int 60)],n+1⟩/\ms≠[]/\ms.length<=1+4*i/\Fre o4/\Fre o5/\Fre o6) (l:=k) (ds:=rows.map rD) (g:= .tp [(.nm 4),(.nm 5),(.nm 6)]) (tm:=[some B,some (.lst k (rows.map rD)),some (.int 60)])
  (b:=v3 (u2 (Z0 3) [(Z0 4)] z2r)) (by rintro i s ⟨ms,o4,o5,o6,rfl,_⟩;rfl) (by
   rintro i d hd s ⟨ms,o4,o5,o6,rfl,g1,g2,g4,g5,g6⟩
   rw[List.getElem?_map] at hd
   cases hr':rows[i]? with
   |none=>rw[hr'] at hd;cases hd
   |some r=>
    rw[hr'] at hd
    cases hd
    have hi:i<rows.length:=(List.getElem?_eq_some_iff.mp hr').1
    have hl:=(hw r (List.mem_of_getElem? hr')).2.1
    refine⟨[some B,some (.lst k (rows.map rD)),some (.int 60),some (.lst n (ms.map .int)),some (.tup (r.1.map .int)),some (.tup (r.2.1.map .int)),some (.tup (r.2.2.map .int)),none,none,none],rfl, ?_⟩
    refine⟨_, ?_,ms++r.1,some (.tup (r.1.map .int)),some (.tup (r.2.1.map .int)),some (.tup (r.2.2.map .int)),rfl,by simp[g1],by rw[l8];lia,z1R _,z1R _,z1R _⟩
    left
    rw[z3T (by rw[zl];erw[l0];lia) (Y5 _)]
    left
    simp only[<-t8,W9 (show k≠n by lia),J1,hB]) rows.length 0 ⟨[some B,some (.lst k (rows.map rD)),some (.int 60),some (.lst n [.int 0]),none,none,none,none,none,none],some (.lst k (rows.map rD))::[some B,some (.lst k (rows.map rD)),some (.int 60)],n+1⟩ (by simp) ⟨[0],none,none,none,rfl,by simp,by simp,j5,j5,j5⟩
 rw[l0] at g2
 refine⟨ms,o4,o5,o6,g1,⋯,g4,g5,g6, ?_⟩
 rw[z2m (l:=k) (ds:=rows.map rD) (σ:=[some B,some (.lst k (rows.map rD)),some (.int 60),some (.lst n [.int 0]),none,none,none,none,none,none]) (tm:=[some B,some (.lst k (rows.map rD)),some (.int 60)]) (n:=n+1) (by left)]
 left
 rw[show kLst.len (some (.lst k (rows.map rD))::[some B,some (.lst k (rows.map rD)),some (.int 60)])=rows.length by show(rows.map rD).length=_;simp,e]
 rfl
noncomputable def pb:MS:=(Y2 (W3 (.nm 9) (mCB [(Z5 (Z8 Z3 [(Z0 0),(mC (.int 8))]) (mC (.int 7)) eqD)] z9L))
 (v3 (u2 (Z0 7) [(Z5 (mCB [(Z5 (Z0 3) (Z8 Z3 [(Z0 0),(mCB [(Z0 3)] X8)]) ixD),(Z8 Z3 [(Z0 0),(mC (.int 26))])] lstM) (Z0 9) ixD)] z5e)))
def zj3(rows:List Y3)(l k n q:Nat)(c x i:Int)(ms ks:List Int)(o4 o5 o6 o9:Option D)(hb:Bg c x)(hl:l<n)(hk:k<n)(hlk:k≠l)(hq:n+1<q)(hm:ms≠[])(lm:ms.length<=300)(lk:ks.length<=500)(f4:Fre o4)(f5:Fre o5)(f6:Fre o6)(f9:Fre o9): ∃(v c' x' w:Int) (q':Nat),Bg c' x'/\q<=q'/\
 pb ⟨[some (.lst l [.int c, .int x]),some (.lst k (rows.map rD)),some (.int 60),some (.lst n (ms.map .int)),o4,o5,o6,some (.lst (n+1) (ks.map .int)),some (.int i),o9],[some (.lst l [.int c, .int x]),some (.lst k (rows.map rD)),some (.int 60)],q⟩
  = .nx ⟨[some (.lst l [.int c', .int x']),some (.lst k (rows.map rD)),some (.int 60),some (.lst n (ms.map .int)),o4,o5,o6,some (.lst (n+1) ((ks++[v]).map .int)),some (.int i),some (.int w)],[some (.lst l [.int c', .int x']),some (.lst k (rows.map rD)),some (.int 60)],q'⟩:=by
 have rr: ∀d,rp (pl l d) (.lst k (rows.map rD))= .lst k (rows.map rD):=λd=>W9 hlk
 have rm: ∀d,rp (pl l d) (.lst n (ms.map .int))= .lst n (ms.map .int):=λd=>G7 ⋯
 have rk: ∀d,rp (pl l d) (.lst (n+1) (ks.map .int))= .lst (n+1) (ks.map .int):=λd=>G7 ⋯
 have lpos:0<ms.length:=by cases ms with|nil=>exact absurd rfl hm|cons _ _=>simp
 unfold pb
 left
 obtain⟨q1,c1,x1,hq1,hq1',b1,e1⟩:=Q9 l c x 8 q hb (by decide) (by decide)
 rw[e1,Y9 rfl rfl rfl (λq=>by left;try erw[rr,rm,rk,f4 l,f5 l,f6 l,f9 l];rfl) (λq=>by left;try erw[rr];rfl)]
 try (left)
 obtain⟨w,⟨hw0,hw1⟩,ew⟩:= @zj2 (q1==7)
 rw[ew]
 try (left)
 rw[z5D]
 obtain⟨q2,c2,x2,hq2,hq2',b2,e2⟩:=Q9 l c1 x1 ms.length q b1 ⋯ ⋯
 rw[e2,Y9 rfl rfl rfl (λq=>by left;try erw[rr,rm,rk,f4 l,f5 l,f6 l];rfl) (λq=>by left;try erw[rr,rm,rk];rfl)]
 try (left)
 obtain⟨v1,ev1⟩:=at_ints hq2 hq2'
 rw[ev1]
 left
 obtain⟨v2,c3,x3,hq3,hq3',b3,e3⟩:=Q9 l c2 x2 26 q b2 (by decide) (by decide)
 rw[e3,Y9 rfl rfl rfl (λq=>by left;try erw[rr,rm,rk,f4 l,f5 l,f6 l];rfl) (λq=>by left;try erw[rr,rk];rfl)]
 try (left)
 obtain⟨v,hv,ev⟩:=zen (a:=v1) (b:=v2) hw0 hw1
 rw[ev]
 left
 try erw[rk]
 rw[y_app (by rw[zl,l0];lia) rfl]
 left
 refine⟨v,c3,x3,w,q+1,b3,⋯, ?_⟩
 have hs:ks.map D.int++[D.int v]=(ks++[v]).map D.int:=by rw[t8];rfl
 erw[hs,W9 (show k≠n+1 by lia),G7 (show n≠n+1 by lia),f4 (n+1),f5 (n+1),f6 (n+1),z0V (show l≠n+1 by lia),U7,U4,G2]
def z7C(rows:List Y3)(hw: ∀r∈rows,Wf r)(hr:rows.length<=60)(l k n:Nat)(c x:Int)(hb:Bg c x)(hl:l<n)(hk:k<n)(hlk:k≠l): ∃(ks:List Int) (c' x':Int) (q n':Nat),ks.length<=60/\Bg c' x'/\n<=q/\q<n'/\z0N [.lst l [.int c, .int x], .lst k (rows.map rD), .int 60] n= .ok (.lst q (ks.map .int)) [.lst l [.int c', .int x'], .lst k (rows.map rD), .int 60] n':=by
 unfold z0N z1z
 left
 obtain⟨ms,o4,o5,o6,hm,lm,f4,f5,f6,e1⟩:=zgN rows hw hr (.lst l [.int c, .int x]) k n none hk (λd=>by rw[z0V ⋯];erw[U7,U4,G2])
 rw[z68] at e1
 rw[e1]
 left
 obtain⟨q2,c2,x2,hq2,hq2',b2,e2⟩:=Q9 l c x 61 (n+1+1) hb (by decide) (by decide)
 have rr: ∀d,rp (pl l d) (.lst k (rows.map rD))= .lst k (rows.map rD):=λd=>W9 hlk
 have rm: ∀d,rp (pl l d) (.lst n (ms.map .int))= .lst n (ms.map .int):=λd=>G7 ⋯
 rw[show(60:Int)+1=61 from rfl,e2,z0w rfl rfl rfl (by left;erw[rr,rm,f4 l,f5 l,f6 l,z0V (show n+1≠l by lia),U4]) (by left;erw[rr])]
 left
 erw[rr,rm,f4 l,f5 l,f6 l,z0V (show n+1≠l by lia),U4]
 try (left)
 rw[z1Q ⟨⋯,⋯⟩]
 left
 obtain⟨s',e3,ks,c3,x3,o8,o9,q,rfl,b3,hq,lk,f8,f9⟩:=z1B (P:=λi s=> ∃(ks:List Int) (c3 x3:Int) (o8 o9:Option D) (q:Nat),s=⟨[some (.lst l [.int c3, .int x3]),some (.lst k (rows.map rD)),some (.int 60),some (.lst n (ms.map .int)),o4,o5,o6,some (.lst (n+1) (ks.map .int)),o8,o9],[some (.lst l [.int c3, .int x3]),some (.lst k (rows.map rD)),some (.int 60)],q⟩/\Bg c3 x3/\n+1<q/\ks.length=i/\Fre o8/\Fre o9) (lo:=0) (N:=q2.toNat) (g:= .nm 8) (b:=pb) (by
  rintro i hi s ⟨ks,c3,x3,o8,o9,q,rfl,b3,hq,lk,f8,f9⟩
  refine⟨[some (.lst l [.int c3, .int x3]),some (.lst k (rows.map rD)),some (.int 60),some (.lst n (ms.map .int)),o4,o5,o6,some (.lst (n+1) (ks.map .int)),some (.int (0+(i:Int))),o9],rfl, ?_⟩
  obtain⟨v,c4,x4,w,q',b4,hq',e4⟩:=zj3 rows l k n q c3 x3 (0+(i:Int)) ms ks o4 o5 o6 o9 b3 hl hk hlk hq hm lm ⋯ f4 f5 f6 f9
  exact⟨_,e4,ks++[v],c4,x4,_,_,q',rfl,b4,⋯,by rw[l8,lk];rfl,z0n _,z0n _⟩) q2.toNat 0 ⟨[some (.lst l [.int c2, .int x2]),some (.lst k (rows.map rD)),some (.int 60),some (.lst n (ms.map .int)),o4,o5,o6,some (.lst (n+1) []),none,none],[some (.lst l [.int c2, .int x2]),some (.lst k (rows.map rD)),some (.int 60)],n+1+1⟩ ⋯ ⟨[],c2,x2,none,none,n+1+1,rfl,b2,⋯,rfl,j5,j5⟩
 unfold pb at e3
 rw[e3]
 left
 exact⟨ks,c3,x3,n+1,q,⋯,b3,⋯,⋯,rfl⟩
theorem z3V{rows:List Y3}(hw: ∀r∈rows,Wf r): ∀(m:Nat) (R:List Int),R.length<=m->z1f rows (J9 rows m R).2.2=true
 |0,R,h=>by
  have e:R=[]:=C8 ⋯
  subst e;simp[J9,z1f]
 |m+1,R,h=>by
  unfold J9
  cases hs:z1f rows R with
  |true=>erw[if_true];exact hs
  |false=>
   have hne:R≠[]:=λe=>by rw[e] at hs;simp[z1f] at hs
   erw[t9,if_false]
   exact z3V hw m _ (by have:=(z0i hw hne).1;lia)
noncomputable abbrev Ent:=Int×List Int×List Int
noncomputable def okK(rows:List Y3)(W:List Int)(k:Int):Bool:=(J9 rows 1000 (W++[k])).2.1.isEmpty
noncomputable def ent(rows:List Y3)(W:List Int)(k:Int):Ent:=(k,(J9 rows 1000 (W++[k])).1,(J9 rows 1000 (W++[k])).2.2)
noncomputable def K26:List Int:=(B5 26).map λ(i:Nat)=>(i:Int)
noncomputable def z1g(rows:List Y3)(W:List Int):List Ent:=(K26.filter (okK rows W)).map (ent rows W)
noncomputable abbrev Sg:=Nat×List Int
noncomputable def z9N(sn:List Int)(p:Nat)(e:Ent):Bool:=decide ((sn.drop p).take e.2.1.length=e.2.1)
noncomputable def zdK(rows:List Y3)(sn:List Int)(g:Sg):List (Int×Sg):=((z1g rows g.2).filter (z9N sn g.1)).map λe=>(e.1,(g.1+e.2.1.length,e.2.2))
noncomputable abbrev Fd:=List (Sg×Nat)
noncomputable def addF(F:Fd)(c:Nat)(g:Sg):Fd:=if g∈F.map (·.1) then F else F++[(g,c+1)]
noncomputable def putF(F:Fd)(c:Nat)(gs:List Sg):Fd:=gs.foldl (λF g=>addF F c g) F
noncomputable def proc(gl:Sg->List Sg)(F:Fd)(i:Nat):Fd:=match F[i]? with
 |some q=>putF F q.2 (gl q.1)
 |none=>F
noncomputable def runF'(gl:Sg->List Sg):Nat->Nat->Fd->Fd
 |0,_,F=>F
 |n+1,i,F=>runF' gl n (i+1) (proc gl F i)
def zb5{F:Fd}{c:Nat}{g:Sg}: ∃A,addF F c g=F++A:=by
 unfold addF
 split
 .exact⟨[],by simp⟩
 .exact⟨_,rfl⟩
theorem z6V{c:Nat}: ∀{gs:List Sg} {F:Fd},∃A,putF F c gs=F++A
 |[],F=>⟨[],by simp[putF]⟩
 |g::gs,F=>by
  obtain⟨A,h⟩:=zb5 (F:=F) (c:=c) (g:=g)
  obtain⟨B,h'⟩:=z6V (c:=c) (gs:=gs) (F:=addF F c g)
  refine⟨A++B, ?_⟩
  show putF (addF F c g) c gs=_
  rw[h',h,m9]
def zb6{gl:Sg->List Sg}{F:Fd}{i:Nat}: ∃A,proc gl F i=F++A:=by
 unfold proc
 split
 .exact z6V
 .exact⟨[],by simp⟩
theorem z6h{gl:Sg->List Sg}: ∀(n m i:Nat) (F:Fd),runF' gl (n+m) i F=runF' gl m (i+n) (runF' gl n i F)
 |0,m,i,F=>by simp[runF']
 |n+1,m,i,F=>by
  rw[show n+1+m=(n+m)+1 by lia]
  show runF' gl (n+m) (i+1) (proc gl F i)=_
  rw[z6h n m (i+1)]
  show _=runF' gl m (i+(n+1)) (runF' gl n (i+1) (proc gl F i))
  rw[show i+1+n=i+(n+1) by lia]
theorem z4C{gl:Sg->List Sg}: ∀(n i:Nat) (F:Fd),∃A,runF' gl n i F=F++A
 |0,i,F=>⟨[],by simp[runF']⟩
 |n+1,i,F=>by
  obtain⟨A,h⟩:=zb6 (gl:=gl) (F:=F) (i:=i)
  obtain⟨B,h'⟩:=z4C n (i+1) (proc gl F i)
  refine⟨A++B, ?_⟩
  show runF' gl n (i+1) (proc gl F i)=_
  rw[h',h,m9]
def zb7{gl:Sg->List Sg}{n m:Nat}{F:Fd}(h:n<=m):(runF' gl n 0 F).length<=(runF' gl m 0 F).length:=by
 obtain⟨d,rfl⟩:=Nat.exists_eq_add_of_le h
 rw[z6h]
 obtain⟨A,e⟩:=z4C (gl:=gl) d (0+n) (runF' gl n 0 F)
 rw[e,l8];lia
def z9m{gl:Sg->List Sg}{F:Fd}{B:Nat}(hB: ∀n,(runF' gl n 0 F).length<=B): ∃N,N<=B/\(runF' gl N 0 F).length=N/\∀i,i<N->i<(runF' gl i 0 F).length:=by
 have key: ∀d,(∀i,i<d->i<(runF' gl i 0 F).length)\/∃N,N<d/\(runF' gl N 0 F).length<=N/\∀i,i<N->i<(runF' gl i 0 F).length:=by
  intro d
  induction d with
  |zero=>exact .inl λi h=>absurd h (S3 _)
  |succ d ih=>
   rcases ih with h|⟨N,h1,h2⟩
   .rcases R8 d (runF' gl d 0 F).length with q|q
    .exact .inl λi hi=>by
      rcases Nat.lt_or_eq_of_le (Nat.le_of_lt_succ hi) with z|z
      .exact h i z
      .rw[z];exact q
    .exact .inr ⟨d,B0 _,q,h⟩
   .exact .inr ⟨N,⋯,h2⟩
 rcases key (B+1) with h|⟨N,h1,h2,h3⟩
 .exact absurd (h B (B0 _)) (by have:=hB B;lia)
 .refine⟨N,⋯, ?_,h3⟩
  rcases u01 N with z|z
  .subst z;lia
  .have:=h3 (N - 1) ⋯
   have:=zb7 (gl:=gl) (F:=F) (show N - 1<=N by lia)
   lia
def z9n{F:Fd}{c:Nat}{g:Sg}(h:(F.map (·.1)).Nodup):((addF F c g).map (·.1)).Nodup:=by
 unfold addF
 split
 .exact h
 .rename_i hn
  rw[t8,P7]
  refine⟨h,by simp,λa ha b hb e=> ?_⟩
  erw[i6,m8,m4] at hb
  exact hn (hb▸e▸ha)
theorem z6W{Q:Sg->Prop}{c:Nat}: ∀{gs:List Sg} {F:Fd},(F.map (·.1)).Nodup->(∀q∈F,Q q.1)->(∀g∈gs,Q g)->((putF F c gs).map (·.1)).Nodup/\∀q∈putF F c gs,Q q.1
 |[],F,h1,h2,_=>⟨h1,h2⟩
 |g::gs,F,h1,h2,h3=>by
  refine z6W (gs:=gs) (F:=addF F c g) (z9n h1) (λq hq=> ?_) (λg' h'=>h3 g' (i5 _ h'))
  unfold addF at hq
  split at hq
  .exact h2 q hq
  .rcases i9.mp hq with hq|hq
   .exact h2 q hq
   .rw[m4.mp hq];exact h3 g (l5 ..)
theorem z6i{gl:Sg->List Sg}{Q:Sg->Prop}(hq: ∀g,Q g->∀g'∈gl g,Q g'): ∀(n i:Nat) (F:Fd),(F.map (·.1)).Nodup->(∀q∈F,Q q.1)->((runF' gl n i F).map (·.1)).Nodup/\∀q∈runF' gl n i F,Q q.1
 |0,i,F,h1,h2=>⟨h1,h2⟩
 |n+1,i,F,h1,h2=>by
  have key:((proc gl F i).map (·.1)).Nodup/\∀q∈proc gl F i,Q q.1:=by
   unfold proc
   split
   .rename_i q e
    exact z6W h1 h2 (hq _ (h2 q (List.mem_of_getElem? e)))
   .exact⟨h1,h2⟩
  exact z6i hq n (i+1) _ key.1 key.2
noncomputable def z4D(rows:List Y3):List (List Int):=[]::(rows.map λr=>(B5 r.1.length).map λn=>r.1.take n).flatten
def zb8{rows:List Y3}{W:List Int}(h:z1f rows W=true):W∈z4D rows:=by
 unfold z1f at h
 erw[u0j,decide_eq_true_eq,R6] at h
 unfold z4D
 rcases h with rfl|⟨r,hr,hw⟩
 .simp
 .erw[wt,A3,decide_eq_true_eq] at hw
  refine i5 _ (u0e.mpr ⟨_,m5.mpr ⟨r,hr,rfl⟩,m5.mpr ⟨W.length,by simpa using hw.1,hw.2⟩⟩)
def z9o{rows:List Y3}(hw: ∀r∈rows,Wf r):(z4D rows).length<=1+4*rows.length:=by
 have:((rows.map λr=>(B5 r.1.length).map λn=>r.1.take n).flatten).length<=4*rows.length:=by
  induction rows with
  |nil=>simp
  |cons r rows ih=>
   have:=ih λq hq=>hw q (i5 _ hq)
   have w:=(hw r (l5 ..)).2.1
   erw[i6,List.flatten_cons,l8,l0,L8,o0]
   lia
 unfold z4D
 rw[o0];lia
theorem z2G{α:Type}[DecidableEq α]: ∀{xs ys:List α},xs.Nodup->(∀x∈xs,x∈ys)->xs.length<=ys.length
 |[],ys,_,_=>B7 _
 |x::xs,ys,h,hm=>by
  have h':=E3.mp h
  have hx:=hm x (l5 ..)
  have:=z2G (xs:=xs) (ys:=ys.erase x) h'.2 λz hz=>by
   rw[List.mem_erase_of_ne (λ(e:z=x)=>h'.1 (e▸hz))]
   exact hm z (i5 _ hz)
  rw[List.length_erase_of_mem hx] at this
  have hp:0<ys.length:=List.length_pos_of_mem hx
  rw[o0];lia
noncomputable def zhy(rows:List Y3)(n:Nat):List Sg:=((B5 (n+1)).map λp=>(z4D rows).map λw=>(p,w)).flatten
def zb9{rows:List Y3}{n:Nat}:(zhy rows n).length=(n+1)*(z4D rows).length:=by
 unfold zhy
 rw[List.length_flatten,C7]
 have:((B5 (n+1)).map (O0∘λp=>(z4D rows).map λw=>(p,w)))=A8 (n+1) (z4D rows).length:=by
  rw[List.eq_replicate_iff]
  refine⟨by simp,λx hx=> ?_⟩
  obtain⟨p,_,rfl⟩:=m5.mp hx
  simp
 rw[this,List.sum_replicate_nat]
noncomputable def Ok(rows:List Y3)(n:Nat)(g:Sg):Prop:=g.1<=n/\z1f rows g.2=true
def zgO{rows:List Y3}{n:Nat}{g:Sg}(h:Ok rows n g):g∈zhy rows n:=by
 refine u0e.mpr ⟨_,m5.mpr ⟨g.1,P1.mpr (Nat.lt_succ_of_le h.1),rfl⟩,m5.mpr ⟨g.2,zb8 h.2,rfl⟩⟩
noncomputable def gl(rows:List Y3)(sn:List Int)(g:Sg):List Sg:=(zdK rows sn g).map (·.2)
def z4E{rows:List Y3}(hw: ∀r∈rows,Wf r){W:List Int}(h:z1f rows W=true):W.length<=3:=by
 unfold z1f at h
 erw[u0j,decide_eq_true_eq,R6] at h
 rcases h with rfl|⟨r,hr,hw'⟩
 .simp
 .erw[wt,A3,decide_eq_true_eq] at hw'
  have:=(hw r hr).2.1;lia
def zgP{rows:List Y3}(hw: ∀r∈rows,Wf r){sn:List Int}{g:Sg}(h:Ok rows sn.length g): ∀g'∈gl rows sn g,Ok rows sn.length g':=λg' hg=>by
 unfold gl zdK at hg
 obtain⟨q,hq,rfl⟩:=m5.mp hg
 obtain⟨e,he,rfl⟩:=m5.mp hq
 obtain⟨he,hf⟩:=O4.mp he
 unfold z1g at he
 obtain⟨k,_,rfl⟩:=m5.mp he
 refine⟨?_,z3V hw 1000 _ (by have:=z4E hw h.2;simp;lia)⟩
 unfold z9N at hf
 erw[decide_eq_true_eq] at hf
 have:=congrArg O0 hf
 rw[A7,B8] at this
 have:=h.1
 show g.1+(ent rows g.2 k).2.1.length<=sn.length
 lia
def z3p{rows:List Y3}(hw: ∀r∈rows,Wf r)(hr:rows.length<=40){sn:List Int}(hs:sn.length<=25)(n:Nat):(runF' (gl rows sn) n 0 [((0,[]),0)]).length<=5000:=by
 obtain⟨h1,h2⟩:=z6i (gl:=gl rows sn) (Q:=Ok rows sn.length) (λg h=>zgP hw h) n 0 [((0,[]),0)] (by simp) (λq hq=>by
  rw[m4.mp hq]
  exact⟨B7 _,by simp[z1f]⟩)
 have:=z2G h1 (ys:=zhy rows sn.length) λg hg=>by
  obtain⟨q,hq,rfl⟩:=m5.mp hg
  exact zgO (h2 q hq)
 rw[l0,zb9] at this
 have hl:=z9o hw
 have:(sn.length+1)*(z4D rows).length<=26*161:=Nat.mul_le_mul ⋯ ⋯
 lia
noncomputable def kkD(j:Nat)(ks:List Int):D:= .dct j (.non::ks.map .int) (ks.map λ_=> .bool true)
noncomputable def z9O(ks:List Int)(k:Int):List Int:=if k∈ks then ks else ks++[k]
def zc4(ks:List Int)(k:Int):((ks.map D.int).any λd=>decide (X2 d=some (.inl k)))=decide (k∈ks):=by
 induction ks with
 |nil=>rfl
 |cons p ks ih=>
  have e0:X2 (D.int p)=some (.inl p):=rfl
  rw[i6,N9,ih,e0]
  by_cases h:p=k
  .subst h;simp
  .have h': ¬k=p:=λe=>h e.symm
   simp[h,h']
def zgQ{j:Nat}{ks:List Int}{k:Int}{s:Stt}(hz:ks.length<=1000):z5k (kkD j ks) (.int k) (.bool true) s= .nx (s.put j (kkD j (z9O ks k))):=by
 have hl:qq (ks.map λ_=>D.bool true)=[]:=G6 λd hd=>by obtain⟨_,_,rfl⟩:=m5.mp hd;rfl
 unfold z5k kkD
 erw[X2]
 rw[qw ⟨by rw[l0,zl];lia,rfl,hl⟩]
 have e1:z8V (ks.map D.int) (.inl k)=(z9O ks k).map D.int:=by
  unfold z8V z9O
  rw[zc4]
  by_cases h:k∈ks
  .erw[h,decide_true,if_true]
  .erw[h,decide_false,t9,if_false,t8];rfl
 have e2:z5X (ks.map D.int) (ks.map λ_=>D.bool true) (.inl k) (.bool true)=(z9O ks k).map λ_=>D.bool true:=by
  unfold z5X z9O
  rw[zc4]
  by_cases h:k∈ks
  .erw[h,decide_true,if_true]
   clear h hz hl e1
   induction ks with
   |nil=>rfl
   |cons p ks ih=>erw[i6,L0,ite_self,ih]
  .erw[h,decide_false,t9,if_false,t8];rfl
 rw[e1,e2]
def zdL{j:Nat}{ks:List Int}:labs (kkD j ks)=[j]:=by
 have hl:qq (ks.map λ_=>D.bool true)=[]:=G6 λd hd=>by obtain⟨_,_,rfl⟩:=m5.mp hd;rfl
 erw[kkD,labs,qq,Y5,hl,l4]
def zgR{j:Nat}{d:D}{ks:List Int}:rp (pl j d) (kkD j ks)=d:=by unfold kkD;erw[rp,pl,if_true]
def zdM{ks:List Int}{k:Int}(h:ks.Nodup):(z9O ks k).Nodup:=by
 unfold z9O
 split
 .exact h
 .rename_i hn
  rw[P7]
  refine⟨h,by simp,λa ha b hb e=> ?_⟩
  rw[m4] at hb
  exact hn (hb▸e▸ha)
def z6X{ks:List Int}{k z:Int}:z∈z9O ks k↔z∈ks\/z=k:=by
 unfold z9O
 split
 .rename_i h
  exact⟨.inl,λq=>q.elim id λe=>e▸h⟩
 .simp
def zc5{ks:List Int}(hn:ks.Nodup)(hk: ∀k∈ks,0<=k/\k<40):ks.length<=40:=by
 have hz:=z2G hn (ys:=(B5 40).map λ(i:Nat)=>(i:Int)) λk h=>m5.mpr ⟨k.toNat,P1.mpr (by have:=hk k h;lia),by have:=hk k h;lia⟩
 simpa using hz
theorem z3W{rows:List Y3}(hw: ∀r∈rows,Wf r): ∀(m:Nat) (R:List Int),(J9 rows m R).1.length<=3*R.length/\(J9 rows m R).2.1.length<=R.length
 |0,R=>by simp[J9]
 |m+1,R=>by
  unfold J9
  cases hs:z1f rows R with
  |true=>simp
  |false=>
   have hne:R≠[]:=λe=>by rw[e] at hs;simp[z1f] at hs
   have h1:=z0i hw hne
   have h2:=z3W hw m (j0 rows R).2.2
   erw[t9,if_false,l8]
   lia
noncomputable def EnD(lo hi:Nat):List Ent->List D->Prop
 |[],ds=>ds=[]
 |e::es,ds=> ∃a r,ds= .tup [.int e.1, .lst a (e.2.1.map .int), .tup (e.2.2.map .int)]::r/\lo<=a/\a<hi/\EnD lo hi es r
theorem EnD.mono{lo hi lo' hi':Nat}(h1:lo'<=lo)(h2:hi<=hi'): ∀{es:List Ent} {ds:List D},EnD lo hi es ds->EnD lo' hi' es ds
 |[],ds,h=>h
 |e::es,ds,⟨a,r,h,ha,hb,hr⟩=>⟨a,r,h,⋯,⋯,EnD.mono h1 h2 hr⟩
theorem EnD.snoc{lo hi a:Nat}{e:Ent}(ha:lo<=a)(hb:a<hi): ∀{es:List Ent} {ds:List D},EnD lo hi es ds->EnD lo hi (es++[e]) (ds++[.tup [.int e.1, .lst a (e.2.1.map .int), .tup (e.2.2.map .int)]])
 |[],ds,h=>by
  have h:ds=[]:=h
  subst h
  exact⟨a,[],rfl,ha,hb,rfl⟩
 |e'::es,ds,⟨a',r,h,h1,h2,hr⟩=>⟨a',r++[_],by rw[h];rfl,h1,h2,EnD.snoc ha hb hr⟩
theorem EnD.labs{lo hi:Nat}: ∀{es:List Ent} {ds:List D},EnD lo hi es ds->∀j∈qq ds,lo<=j/\j<hi
 |[],ds,h,j,hj=>by
  have h:ds=[]:=h
  subst h;erw[qq] at hj;cases hj
 |e::es,ds,⟨a,r,h,h1,h2,hr⟩,j,hj=>by
  subst h
  erw[qq,Mi.labs,Y5,l4,A4,i9,m4,l6,A2,or_false] at hj
  rcases hj with rfl|hj
  .exact⟨h1,h2⟩
  .exact EnD.labs hr j hj
theorem EnD.len{lo hi:Nat}: ∀{es:List Ent} {ds:List D},EnD lo hi es ds->ds.length=es.length
 |[],ds,h=>by
  have h:ds=[]:=h
  subst h;rfl
 |e::es,ds,⟨a,r,h,h1,h2,hr⟩=>by rw[h,o0,o0,EnD.len hr]
noncomputable def Lo(n:Nat)(o:Option D):Prop:= ∀k,k<=n->∀d,o.map (rp (pl k d))=o
def Lo.li{n q:Nat}{ns:List Int}(h:n<q):Lo n (some (.lst q (ns.map .int))):=λk hk d=>by rw[l7,G7 (show q≠k by lia)]
def Lo.tI{n:Nat}{ns:List Int}:Lo n (some (.tup (ns.map .int))):=λk hk d=>by rw[l7,z28]
def Lo.int{n:Nat}{i:Int}:Lo n (some (.int i)):=λ_ _ _=>rfl
def Lo.no{n:Nat}:Lo n none:=λ_ _ _=>rfl
noncomputable def VL(rows:List Y3)(lo hi:Nat)(W:List Int)(v:D):Prop:= ∃q ds,v= .lst q ds/\lo<=q/\q<hi/\EnD lo hi (z1g rows W) ds
noncomputable def DV(rows:List Y3)(lo hi:Nat):List (List Int)->List D->Prop
 |[],vs=>vs=[]
 |W::FK,vs=> ∃v r,vs=v::r/\VL rows lo hi W v/\DV rows lo hi FK r
def VL.mono{rows:List Y3}{lo hi hi':Nat}{W:List Int}{v:D}(h2:hi<=hi')(h:VL rows lo hi W v):VL rows lo hi' W v:=by
 obtain⟨q,ds,e,a,b,c⟩:=h
 exact⟨q,ds,e,a,⋯,c.mono (i8 _) h2⟩
def VL.labs{rows:List Y3}{lo hi:Nat}{W:List Int}{v:D}(h:VL rows lo hi W v): ∀j∈labs v,lo<=j/\j<hi:=λj hj=>by
 obtain⟨q,ds,rfl,a,b,c⟩:=h
 erw[Mi.labs,l6] at hj
 rcases hj with rfl|hj
 .exact⟨a,b⟩
 .exact c.labs j hj
theorem DV.mono{rows:List Y3}{lo hi hi':Nat}(h2:hi<=hi'): ∀{FK:List (List Int)} {vs:List D},DV rows lo hi FK vs->DV rows lo hi' FK vs
 |[],vs,h=>h
 |W::FK,vs,⟨v,r,e,h,hr⟩=>⟨v,r,e,h.mono h2,DV.mono h2 hr⟩
theorem DV.labs{rows:List Y3}{lo hi:Nat}: ∀{FK:List (List Int)} {vs:List D},DV rows lo hi FK vs->∀j∈qq vs,lo<=j/\j<hi
 |[],vs,h,j,hj=>by
  have h:vs=[]:=h
  subst h;erw[qq] at hj;cases hj
 |W::FK,vs,⟨v,r,e,h,hr⟩,j,hj=>by
  subst e
  erw[qq,i9] at hj
  exact hj.elim (h.labs j) (DV.labs hr j)
theorem DV.snoc{rows:List Y3}{lo hi:Nat}{W:List Int}{v:D}(h:VL rows lo hi W v): ∀{FK:List (List Int)} {vs:List D},DV rows lo hi FK vs->DV rows lo hi (FK++[W]) (vs++[v])
 |[],vs,h'=>by
  have h':vs=[]:=h'
  subst h'
  exact⟨v,[],rfl,h,rfl⟩
 |W'::FK,vs,⟨v',r,e,h1,hr⟩=>⟨v',r++[v],by rw[e];rfl,h1,DV.snoc h hr⟩
theorem DV.zip{rows:List Y3}{lo hi:Nat}{W:List Int}{v:D}(h:VL rows lo hi W v): ∀{FK:List (List Int)} {vs:List D},DV rows lo hi FK vs->DV rows lo hi FK (P0 (λd w=>if z1S d=some (nkI W) then v else w) (FK.map kd) vs)
 |[],vs,h'=>by
  have h':vs=[]:=h'
  subst h';rfl
 |W'::FK,vs,⟨v',r,e,h1,hr⟩=>by
  subst e
  refine⟨_,_,rfl, ?_,DV.zip h hr⟩
  show VL rows lo hi W' (if z1S (kd W')=some (nkI W) then v else v')
  split
  .rename_i q
   rw[z0b.mp q];exact h
  .exact h1
theorem DV.find{rows:List Y3}{lo hi:Nat}{W:List Int}: ∀{FK:List (List Int)} {vs:List D},DV rows lo hi FK vs->W∈FK->∃v,findK (FK.map kd) vs (nkI W)=some v/\VL rows lo hi W v
 |[],vs,h,hm=>by cases hm
 |W'::FK,vs,⟨v',r,e,h1,hr⟩,hm=>by
  subst e
  erw[i6,findK]
  by_cases q:W'=W
  .subst q
   exact⟨v',by rw[qw (z0b.mpr rfl)],h1⟩
  .obtain⟨v,f,g⟩:=DV.find hr ((l6.mp hm).resolve_left λz=>q z.symm)
   exact⟨v,by rw[qy (λz=>q (z0b.mp z))];exact f,g⟩
theorem DV.has{rows:List Y3}{lo hi:Nat}{W:List Int}: ∀{FK:List (List Int)} {vs:List D},DV rows lo hi FK vs->(findK (FK.map kd) vs (nkI W)).isSome=decide (W∈FK)
 |[],vs,h=>by
  have h:vs=[]:=h
  subst h;rfl
 |W'::FK,vs,⟨v',r,e,h1,hr⟩=>by
  subst e
  erw[i6,findK]
  by_cases q:W'=W
  .subst q
   rw[qw (z0b.mpr rfl)];simp
  .rw[qy (λz=>q (z0b.mp z)),DV.has hr]
   have:W≠W':=λz=>q z.symm
   simp[this]
def zgS{rows:List Y3}{lo hi j:Nat}{W:List Int}{v:D}{FK:List (List Int)}{vs:List D}{s:Stt}(hz:FK.length<=10000)(hj:j∉labs v)(h:VL rows lo hi W v)(hv:DV rows lo hi FK vs):
 ∃vs',DV rows lo hi (z9M FK W) vs'/\z5Z (.dct j (FK.map kd) vs) (.tup (W.map .int)) v s= .nx (s.put j (.dct j ((z9M FK W).map kd) vs')):=by
 have hT:isT (FK.map kd)=true:=by cases FK<;>rfl
 have e1:z4f (FK.map kd) (nkI W)=(z9M FK W).map kd:=by
  unfold z4f z9M
  rw[z9h]
  by_cases h:W∈FK
  .erw[h,decide_true,if_true]
  .erw[h,decide_false,t9,if_false,t8,zgI];rfl
 refine⟨z1K (FK.map kd) vs (nkI W) v, ?_, ?_⟩
 .unfold z1K z9M
  rw[z9h]
  by_cases q:W∈FK
  .erw[q,decide_true,if_true]
   exact hv.zip h
  .erw[q,decide_false,t9,if_false]
   exact hv.snoc h
 .unfold z5Z
  erw[z29]
  rw[qw ⟨hT,by rw[l0,zl];lia,hj⟩,e1]
def zdN(PK:List (List Int)):qq (PK.map kd)=[]:=G6 λd hd=>by obtain⟨p,_,rfl⟩:=m5.mp hd;exact Y5 p
def zj4{rows:List Y3}{lo hi j k:Nat}{d:D}{FK:List (List Int)}{vs:List D}(h:DV rows lo hi FK vs)(hj:j≠k)(hk:k<lo\/hi<=k):rp (pl k d) (.dct j (FK.map kd) vs)= .dct j (FK.map kd) vs:=z0h (by
 erw[labs,zdN,A4,l6,not_or]
 exact⟨λe=>hj e.symm,λq=>by have:=h.labs k q;lia⟩)
def z5x{j:Nat}{d:D}{ks vs:List D}:rp (pl j d) (.dct j ks vs)=d:=by erw[rp,pl,if_true]
theorem z6j{K:ItK}{g:Tg}{b:MS}{P:Nat->Stt->Prop}{item:Nat->D}{N:Nat}(hat: ∀i s,P i s->K.at' i s.tm=some (if i<N then some (item i) else none))
 (body: ∀i,i<N->∀s,P i s->∃σ',asg g (item i) s.σ=some σ'/\∃s',b {s with σ:=σ'}= .nx s'/\P (i+1) s'):
 ∀(f i:Nat) (s:Stt),i+f=N->P i s->∃s',forGo K g b f i s= .nx (s'.popn K.k)/\P N s'
 |0,i,s,hi,h=>by
  have e:i=N:=by lia
  subst e
  exact⟨s,zdE (by rw[hat i s h,qy (D8 _)]),h⟩
 |f+1,i,s,hi,h=>by
  obtain⟨σ',h1,s1,h2,h3⟩:=body i ⋯ s h
  obtain⟨s2,h4,h5⟩:=z6j hat body f (i+1) s1 ⋯ h3
  exact⟨s2,by rw[zaV (by rw[hat i s h,qw ⋯]) h1 h2,h4],h5⟩
def zj5{ds:List D}{i:Nat}{tm:Qq}:zbJ.at' i (some (.tup ds)::tm)=some (if i<ds.length then some (ds.getD i .non) else none):=by
 show some (ds[i]?)=_
 by_cases h:i<ds.length
 .rw[qw h];simp[h]
 .rw[qy h];simp[R1 h]
def zj6{ks vs:List D}{i:Nat}{tm:Qq}:z3K.at' i (some (.fdc ks vs)::tm)=some (if i<ks.length then some (ks.getD i .non) else none):=by
 show some (ks[i]?)=_
 by_cases h:i<ks.length
 .rw[qw h];simp[h]
 .rw[qy h];simp[R1 h]
def zgT{m:M D}{s:Stt}{ds:List D}{σ tm:Qq}{n:Nat}(h:m s= .ok (.tup ds) ⟨σ,tm,n⟩):v4 m s= .ok zbJ ⟨σ,some (.tup ds)::tm,n⟩:=by
 unfold v4 bd
 rw[h];rfl
noncomputable def prB:MS:=(Y2 (W3 (.tp [(.nm 4),(.nm 5),(.nm 6)]) (Z8 z1a [(Z0 0),(Z0 1),(Z0 3)]))
 (sIf (z9K (z0T (Z0 5))) (v3 (u2 (Z0 2) [(mCB [(Z0 3),(Z0 4),(Z0 6)] U1)] z5e)) sNx))
def zgU{i:Nat}(h:i<26):K26[i]? =some (i:Int):=by simp[K26,h]
def zgV(rows:List Y3)(hw: ∀r∈rows,Wf r)(hr:rows.length<1000)(l n2 m:Nat)(hl:l<n2)(h2:n2<m)(W:List Int)(hW:W.length<=100)(k:Int)(o4 o5 o6:Option D)(es:List Ent)(ds:List D)(he:EnD (n2+1) m es ds)(hz:ds.length<=1000):
 ∃ds' p4 p5 p6 m',m<=m'/\EnD (n2+1) m' (es++(([k].filter (okK rows W)).map (ent rows W))) ds'/\prB ⟨[some (.lst l (rows.map rD)),some (.tup (W.map .int)),some (.lst n2 ds),some (.int k),o4,o5,o6],[some (.lst l (rows.map rD)),some (.tup (W.map .int))],m⟩= .nx ⟨[some (.lst l (rows.map rD)),some (.tup (W.map .int)),some (.lst n2 ds'),some (.int k),p4,p5,p6],[some (.lst l (rows.map rD)),some (.tup (W.map .int))],m'⟩:=by
 obtain⟨n',hn',e1⟩:=z9g rows W k l m hw hr hW ⋯
 unfold prB
 left
 rw[e1]
 left
 cases hk:(J9 rows 1000 (W++[k])).2.1 with
 |cons x L=>
  have ef:[k].filter (okK rows W)=[]:=by simp[okK,hk]
  refine⟨ds,some (.lst m ((J9 rows 1000 (W++[k])).1.map .int)),some (.lst (m+1) ((x::L).map .int)),some (.tup ((J9 rows 1000 (W++[k])).2.2.map .int)),n',⋯, ?_, ?_⟩
  .rw[ef,m8,l4]
   exact he.mono (i8 _) ⋯
  .erw[i6,u07]
   left
 |nil=>
  have ef:[k].filter (okK rows W)=[k]:=by simp[okK,hk]
  erw[m8,M7]
  left
  rw[Mi.y_app ⟨by rw[zl];lia,by
   erw[labs,qq,Y5,l4,A4,m4]
   lia⟩]
  left
  erw[W9 (show l≠n2 by lia),J1,z28,G7 (show m≠n2 by lia),z0V (show m+1≠n2 by lia),U4]
  refine⟨_,_,_,_,n',⋯, ?_,rfl⟩
  rw[ef]
  exact EnD.snoc (e:=ent rows W k) ⋯ ⋯ (he.mono (i8 _) ⋯)
def zgW(rows:List Y3)(hw: ∀r∈rows,Wf r)(hr:rows.length<1000)(l n:Nat)(hl:l<n)(W:List Int)(hW:W.length<=100):
 ∃ds n',n<n'/\EnD (n+1) n' (z1g rows W) ds/\w8 [.lst l (rows.map rD), .tup (W.map .int)] n= .ok (.lst n ds) [.lst l (rows.map rD), .tup (W.map .int)] n':=by
 unfold w8
 have e0:J8=(Y2 (W3 (.nm 2) (mCB [] lstM))
  (Y2 (z1p (V4 [(Z5 (mC (.int 25)) (mC (.int 1)) X9)]) (.nm 3) prB)
  (z0y (Z0 2)))):=rfl
 rw[e0]
 left
 rw[z1Q ⟨by decide,by decide⟩]
 left
 obtain⟨s',e,ds,o3,o4,o5,o6,m,hm,hE,rfl⟩:=z1B (P:=λi s=> ∃(ds:List D) (o3 o4 o5 o6:Option D) (m:Nat),n+1<=m/\EnD (n+1) m (((K26.take i).filter (okK rows W)).map (ent rows W)) ds/\s=⟨[some (.lst l (rows.map rD)),some (.tup (W.map .int)),some (.lst n ds),o3,o4,o5,o6],[some (.lst l (rows.map rD)),some (.tup (W.map .int))],m⟩) (lo:=0) (N:=((25:Int)+1).toNat) (g:= .nm 3) (b:=prB) (by
  rintro i hi s ⟨ds,o3,o4,o5,o6,m,hm,hE,rfl⟩
  have hi:i<26:=hi
  refine⟨_,rfl, ?_⟩
  have hds:=hE.len
  rw[l0] at hds
  have:=S5 (okK rows W) (K26.take i)
  rw[A7] at this
  obtain⟨ds',p4,p5,p6,m',hm',hE',e⟩:=zgV rows hw hr l n m hl ⋯ W hW i o4 o5 o6 _ ds hE ⋯
  rw[S0]
  refine⟨_,e,ds',some (.int i),p4,p5,p6,m',⋯, ?_,rfl⟩
  rw[C9,zgU hi,D7,u00,t8]
  exact hE') ((25:Int)+1).toNat 0 ⟨[some (.lst l (rows.map rD)),some (.tup (W.map .int)),some (.lst n []),none,none,none,none],[some (.lst l (rows.map rD)),some (.tup (W.map .int))],n+1⟩ ⋯ ⟨[],none,none,none,none,n+1,i8 _,rfl,rfl⟩
 rw[e]
 left
 refine⟨ds,m,⋯, ?_,rfl⟩
 rw[B4 (by simp[K26])] at hE
 exact hE
noncomputable def gD(g:Sg):D:= .tup [.int g.1, .tup (g.2.map .int)]
noncomputable def nkG(g:Sg):NK:=[.inl (.inl (g.1:Int)), .inr (g.2.map Sum.inl)]
theorem z3q: ∀ns:List Int,z0Z (ns.map D.int)=some (ns.map Sum.inl)
 |[]=>rfl
 |n::ns=>by
  have ih:=z3q ns
  erw[i6,z0Z,X2,ih]
def z1h(g:Sg):z1S (gD g)=some (nkG g):=by
 unfold gD nkG
 erw[z1S,z35,zbN,X2,z3q]
def z6k{a b:Sg}(h:nkG a=nkG b):a=b:=by
 obtain⟨p,W⟩:=a
 obtain⟨q,V⟩:=b
 unfold nkG at h
 erw[List.cons.injEq,Sum.inl.injEq,Sum.inr.injEq,and_true] at h
 obtain⟨h1,h2⟩:=h
 have e1:p=q:=by lia
 have e2:W=V:=by
  have: ∀(A B:List Int),(A.map Sum.inl:List Key)=B.map Sum.inl->A=B:=by
   intro A
   induction A with
   |nil=>intro B h;cases B with|nil=>rfl|cons _ _=>simp at h
   |cons x A ih=>
    intro B h
    cases B with
    |nil=>simp at h
    |cons y B=>
     erw[i6,List.cons.injEq,Sum.inl.injEq] at h
     rw[h.1,ih B h.2]
  exact this W V h2
 rw[e1,e2]
def zj7(g:Sg):dkD (nkG g)=gD g:=by
 unfold dkD nkG gD
 erw[i6,m8,nkD,z1k,C7]
 rfl
def z4F(g:Sg):labs (gD g)=[]:=by
 unfold gD
 erw[labs,qq,Y5,l4]
noncomputable def ksF(F:Fd):List D:=F.map λq=>gD q.1
noncomputable def GV(R:Sg×Nat->D->Prop):Fd->List D->Prop
 |[],vs=>vs=[]
 |q::F,vs=> ∃v r,vs=v::r/\R q v/\labs v=[]/\GV R F r
theorem GV.labs{R:Sg×Nat->D->Prop}: ∀{F:Fd} {vs:List D},GV R F vs->qq vs=[]
 |[],vs,h=>by
  have h:vs=[]:=h
  subst h;rfl
 |q::F,vs,⟨v,r,e,_,hl,hr⟩=>by subst e;erw[qq,hl,GV.labs hr];rfl
def z4G(F:Fd):qq (ksF F)=[]:=G6 λd hd=>by obtain⟨q,_,rfl⟩:=m5.mp hd;exact z4F _
theorem GV.snoc{R:Sg×Nat->D->Prop}{q:Sg×Nat}{v:D}(h:R q v)(hl:Mi.labs v=[]): ∀{F:Fd} {vs:List D},GV R F vs->GV R (F++[q]) (vs++[v])
 |[],vs,h'=>by
  have h':vs=[]:=h'
  subst h'
  exact⟨v,[],rfl,h,hl,rfl⟩
 |q'::F,vs,⟨v',r,e,h1,h2,hr⟩=>⟨v',r++[v],by rw[e];rfl,h1,h2,GV.snoc h hl hr⟩
theorem GV.has{R:Sg×Nat->D->Prop}{g:Sg}: ∀{F:Fd} {vs:List D},GV R F vs->(findK (ksF F) vs (nkG g)).isSome=decide (g∈F.map (·.1))
 |[],vs,h=>by
  have h:vs=[]:=h
  subst h;rfl
 |q::F,vs,⟨v,r,e,h1,h2,hr⟩=>by
  subst e
  have ih:=GV.has (g:=g) hr
  erw[ksF,i6,findK,z1h,Option.some.injEq] at ih⊢
  by_cases e:q.1=g
  .subst e;simp
  .rw[qy (λz=>e (z6k z)),ih]
   have:g≠q.1:=λz=>e z.symm
   simp[this]
theorem GV.find{R:Sg×Nat->D->Prop}{q:Sg×Nat}: ∀{F:Fd} {vs:List D},GV R F vs->(F.map (·.1)).Nodup->q∈F->∃v,findK (ksF F) vs (nkG q.1)=some v/\R q v/\Mi.labs v=[]
 |[],vs,h,_,hm=>by cases hm
 |q'::F,vs,⟨v,r,e,h1,h2,hr⟩,hn,hm=>by
  subst e
  rw[i6,E3] at hn
  rcases l6.mp hm with rfl|hm
  .exact⟨v,by erw[ksF,i6,findK,z1h,if_true],h1,h2⟩
  .obtain⟨w,f,g⟩:=GV.find hr hn.2 hm
   have ne:q'.1≠q.1:=λz=>hn.1 (z▸m5.mpr ⟨q,hm,rfl⟩)
   refine⟨w, ?_,g⟩
   erw[ksF,i6,findK,z1h,Option.some.injEq] at f⊢
   rw[qy (λz=>ne (z6k z))];exact f
def z6l(F:Fd):isT (ksF F)=true:=by cases F<;>rfl
def zdO{R:Sg×Nat->D->Prop}{F:Fd}{vs:List D}{j:Nat}{g:Sg}{s:Stt}(h:GV R F vs):z37 (gD g) (.dct j (ksF F) vs) s= .ok (.bool (!decide (g∈F.map (·.1)))) s:=by
 unfold z37
 erw[rdD,qw (z6l F),z1h,h.has]
 rfl
def zgX{R:Sg×Nat->D->Prop}{F:Fd}{vs:List D}{j:Nat}{q:Sg×Nat}(h:GV R F vs)(hn:(F.map (·.1)).Nodup)(hq:q∈F): ∃v,R q v/\Mi.labs v=[]/\∀s:Stt,z2D (.dct j (ksF F) vs) (gD q.1) s= .ok v s:=by
 obtain⟨v,f,r,l⟩:=h.find hn hq
 refine⟨v,r,l,λs=> ?_⟩
 unfold z2D
 erw[rdD,qw (z6l F),z1h,f]
 rfl
def zgY{R:Sg×Nat->D->Prop}{F:Fd}{vs:List D}{j c:Nat}{g:Sg}{v:D}{s:Stt}(h:GV R F vs)(hz:F.length<=100000)(hg:g∉F.map (·.1))(hv:R (g,c) v)(hl:Mi.labs v=[]):
 GV R (F++[(g,c)]) (vs++[v])/\z20 (.dct j (ksF F) vs) (gD g) v s= .nx (s.put j (.dct j (ksF (F++[(g,c)])) (vs++[v]))):=by
 refine⟨h.snoc hv hl, ?_⟩
 have ha:((ksF F).any λd=>decide (z1S d=some (nkG g)))=false:=by
  rw[List.any_eq_false]
  intro d hd
  obtain⟨q,hq,rfl⟩:=m5.mp hd
  rw[z1h]
  erw[Option.some.injEq,decide_eq_true_eq]
  exact λz=>hg (z6k z▸m5.mpr ⟨q,hq,rfl⟩)
 unfold z20
 erw[z1h]
 rw[qw ⟨z6l F,by unfold ksF;rw[l0,zl];lia,hl,h.labs⟩]
 unfold z4f z1K
 rw[ha]
 erw[t9,if_false,zj7,ksF,t8,i6,m8]
def zgZ{R:Sg×Nat->D->Prop}{F:Fd}{vs:List D}{j k:Nat}{d:D}(h:GV R F vs)(hj:j≠k):rp (pl k d) (.dct j (ksF F) vs)= .dct j (ksF F) vs:=z0h (by
 erw[Mi.labs,z4G,h.labs,l4,m4];lia)
def zdP{ws:List D}{a k:Nat}:z4a ws (some (a:Int)) (some ((a:Int)+(k:Int)))=(ws.drop a).take k:=by
 unfold z4a
 rw[show(a:Int)+(k:Int)=((a+k:Nat):Int) by lia,HT.sIx_nat,HT.sIx_nat]
 rcases S1 a ws.length with h|h
 .rw[O5 h]
  rcases S1 (a+k) ws.length with h2|h2
  .rw[O5 h2,show a+k -a=k by lia]
  .rw[N8 h2,B4 (by rw[B8];lia),B4 (by rw[B8];lia)]
 .rw[N8 h,C2 (i8 _),C2 h,T5,T5]
def z9p{a b:Nat}{A B:List Int}{s:Stt}(hA:A.length<=2000)(hB:B.length<=2000):eqD (.lst a (A.map D.int)) (.lst b (B.map D.int)) s= .ok (.bool (decide (A=B))) s:=by
 have g: ∀(q:Nat) (L:List Int),L.length<=2000->Gd (.lst q (L.map D.int))/\(er (.lst q (L.map D.int))).depth<=1:=λq L h=>by
  have r:=z6R (n:=0) (k:=0) (l:=q) (es:=L.map D.int) (B7 _) (by simpa using h) λe he=>by
   obtain⟨i,_,rfl⟩:=m5.mp he;exact⟨rfl,by simp[er,PyData.depth]⟩
  exact⟨zaW _ r.1,r.2⟩
 have gA:=g a A hA
 have gB:=g b B hB
 rw[ziG (by
  erw[eqC,gA.1.1,gA.1.2,gB.1.1,gB.1.2,T1,L4,decide_eq_true_eq]
  have:=u0i (er (.lst a (A.map D.int))).depth (er (.lst b (B.map D.int))).depth
  have:=gA.2
  lia)]
 congr 2
 have:=L2.z8m A B
 erw[er,z4A]
 erw[L2.dT,PyData.eqv] at this⊢
 exact this
noncomputable def RP(q:Sg×Nat)(v:D):Prop:= ∃x y,v= .tup [.int q.2,x,y]
noncomputable def K2(sn:List Int)(p c:Nat)(F:Fd)(e:Ent):Fd:=if z9N sn p e=true then addF F c (p+e.2.1.length,e.2.2) else F
theorem z5y(sn:List Int)(p c:Nat): ∀(es:List Ent) (F:Fd),putF F c (((es.filter (z9N sn p)).map λe=>(e.1,((p+e.2.1.length,e.2.2):Sg))).map (·.2))=es.foldl (K2 sn p c) F
 |[],F=>rfl
 |e::es,F=>by
  rw[L1,<-z5y sn p c es]
  unfold K2
  cases h:z9N sn p e with
  |true=>erw[u0f,h,if_true,i6];rfl
  |false=>erw[u0f,h,t9,if_false]
noncomputable def goB:MS:=(Y2 (W3 (.nm 13) (mCB [(Z5 (Z0 8) (mCB [(Z0 11)] X8) X9),(Z0 12)] U1))
 (sIf (z7G (V3 (Z5 (Z0 13) (Z0 3) z37)) (V3 (Z5 (mSl (Z0 1) (some (Z0 8)) (some (Z5 (Z0 8) (mCB [(Z0 11)] X8) X9))) (Z0 11) eqD))) (Y2 (z4c (mCB [(Z5 (Z5 (Z5 (Z0 3) (Z0 7) z2D) (mC (.int 0)) ixD) (mC (.int 1)) X9),(Z0 7),(Z0 10)] U1) (Z0 3) (Z0 13) z20)
 (v3 (u2 (Z0 4) [(Z0 13)] z5e))) sNx))
noncomputable def foD(F:Fd):List D:=F.map λq=>gD q.1
def zba(F:Fd):qq (foD F)=[]:=z4G F
def zdQ{k:Nat}{d:D}{g:Sg}:rp (pl k d) (gD g)=gD g:=z0h (by rw[z4F];exact A2)
def zdR{j k:Nat}{d:D}{F:Fd}(h:j≠k):rp (pl k d) (.lst j (foD F))= .lst j (foD F):=by rw[z0V h,rpL_id _ λi hi=>by rw[zba] at hi;cases hi]
noncomputable def wsS(l:Nat)(rows:List Y3)(ls:Nat)(sn:List Int)(jw:Nat)(F:Fd)(vs:List D)(jf:Nat)(C5:D)(i:Int)(g:Sg)(o10 o11 o12 o13:Option D):Qq:=[some (.lst l (rows.map rD)),some (.lst ls (sn.map .int)),some (gD (0,[])),some (.dct jw (ksF F) vs),some (.lst jf (foD F)),some C5,some (.int i),some (gD g),some (.int g.1),some (.tup (g.2.map .int)),o10,o11,o12,o13]
def zbb{F:Fd}{c:Nat}{g:Sg}{q:Sg×Nat}(h:q∈F):q∈addF F c g:=by
 unfold addF
 split
 .exact h
 .exact i7 _ h
def z9q{sn:List Int}{p c:Nat}{F:Fd}{e:Ent}{q:Sg×Nat}(h:q∈F):q∈K2 sn p c F e:=by
 unfold K2
 split
 .exact zbb h
 .exact h
def zbc{sn:List Int}{p c:Nat}{F:Fd}{e:Ent}(h:(F.map (·.1)).Nodup):((K2 sn p c F e).map (·.1)).Nodup:=by
 unfold K2
 split
 .exact z9n h
 .exact h
def z9r{sn:List Int}{p c:Nat}{F:Fd}{e:Ent}:(K2 sn p c F e).length<=F.length+1:=by
 unfold K2 addF
 split
 .split<;>simp
 .lia
def zdS{sn:List Int}{p:Nat}{e:Ent}:decide ((sn.drop p).take e.2.1.length=e.2.1)=z9N sn p e:=rfl
def zh0(rows:List Y3)(sn:List Int)(hsn:sn.length<=2000)(l ls jw jf n a:Nat)(C5:D)(i:Int)(g:Sg)(c:Nat)(F:Fd)(vs:List D)(hV:GV RP F vs)(hn:(F.map (·.1)).Nodup)(hg:(g,c)∈F)(hz:F.length<=90000)(e:Ent)(he:e.2.1.length<=2000)(o13:Option D)(hwf:jw≠jf)(hlw:l≠jw)(hlf:l≠jf)(hsw:ls≠jw)(hsf:ls≠jf)(haw:a≠jw)(haf:a≠jf)(h5w: ∀d,rp (pl jw d) C5=C5)(h5f: ∀d,rp (pl jf d) C5=C5)(h13w: ∀d,o13.map (rp (pl jw d))=o13)(tm:Qq)(htw: ∀d,rpO (pl jw d) tm=tm)(htf: ∀d,rpO (pl jf d) tm=tm):
 ∃vs' p13 n',n<=n'/\(∀k d,p13.map (rp (pl k d))=p13)/\GV RP (K2 sn g.1 c F e) vs'/\goB ⟨wsS l rows ls sn jw F vs jf C5 i g (some (.int e.1)) (some (.lst a (e.2.1.map .int))) (some (.tup (e.2.2.map .int))) o13,tm,n⟩= .nx ⟨wsS l rows ls sn jw (K2 sn g.1 c F e) vs' jf C5 i g (some (.int e.1)) (some (.lst a (e.2.1.map .int))) (some (.tup (e.2.2.map .int))) p13,tm,n'⟩:=by
 have eg:D.tup [.int ((g.1:Int)+((e.2.1.map D.int).length:Int)), .tup (e.2.2.map .int)]=gD (g.1+e.2.1.length,e.2.2):=by
  unfold gD
  rw[l0]
  erw[Int.natCast_add]
 have fgD: ∀(k:Nat) (d:D) (h:Sg),rp (pl k d) (gD h)=gD h:=λk d h=>zdQ
 unfold goB wsS
 left
 rw[eg,zdO hV]
 by_cases hin:((g.1+e.2.1.length,e.2.2):Sg)∈F.map (·.1)
 .have es:K2 sn g.1 c F e=F:=by
   unfold K2 addF
   rw[qw hin];split<;>rfl
  rw[es]
  erw[hin,decide_true,M9]
  left
  exact⟨vs,some (gD (g.1+e.2.1.length,e.2.2)),n,i8 _,λk d=>by rw[l7,fgD],hV,rfl⟩
 .erw[hin,decide_false,N2]
  left
  rw[z5D,zdP,z9f,z7A,z9p (by rw[A7,B8];lia) he,zdS]
  cases hf:z9N sn g.1 e with
  |false=>
   have es:K2 sn g.1 c F e=F:=by unfold K2;rw[qy (by rw[hf];decide)]
   rw[es]
   left
   exact⟨vs,some (gD (g.1+e.2.1.length,e.2.2)),n+1,⋯,λk d=>by rw[l7,fgD],hV,rfl⟩
  |true=>
   have es:K2 sn g.1 c F e=F++[((g.1+e.2.1.length,e.2.2),c+1)]:=by
    unfold K2 addF
    rw[qw hf,qy hin]
   rw[es]
   obtain⟨v,⟨x,y,rfl⟩,hvl,ev⟩:=zgX (j:=jw) hV hn hg
   left
   rw[ev]
   left
   have ep:=λs:Stt=>zgY (j:=jw) (s:=s) (c:=c+1) (v:= .tup [.int ((c:Int)+1),gD g, .int e.1]) hV ⋯ hin ⟨gD g, .int e.1,by simp⟩ (by erw[Mi.labs,qq,z4F,l4])
   rw[(ep _).2]
   left
   erw[W9 hlw,G7 hsw,fgD,z5x,zdR (show jf≠jw by lia),h5w,htw,G7 haw,J1]
   left
   erw[zdR (show jf≠jw by lia)]
   rw[Mi.y_app ⟨by unfold foD;rw[l0,zl];lia,by rw[z4F];exact A2⟩]
   have efo:foD F++[gD (g.1+e.2.1.length,e.2.2)]=foD (F++[((g.1+e.2.1.length,e.2.2),c+1)]):=by simp[foD]
   rw[efo]
   left
   erw[W9 hlf,G7 hsf,fgD,zgZ (ep ⟨[],[],0⟩).1 hwf,h5f,htf,G7 haf,J1]
   exact⟨_,some (gD (g.1+e.2.1.length,e.2.2)),n+1,⋯,λk d=>by rw[l7,fgD],(ep ⟨[],[],0⟩).1,rfl⟩
theorem EnD.at{lo hi:Nat}: ∀{es:List Ent} {ds:List D} {i:Nat} {d:D},EnD lo hi es ds->ds[i]? =some d->∃e a,es[i]? =some e/\d= .tup [.int e.1, .lst a (e.2.1.map .int), .tup (e.2.2.map .int)]/\lo<=a/\a<hi
 |[],ds,i,d,h,hd=>by
  have h:ds=[]:=h
  subst h;cases hd
 |e::es,ds,i,d,⟨a,r,h,h1,h2,hr⟩,hd=>by
  subst h
  cases i with
  |zero=>cases hd;exact⟨e,a,rfl,rfl,h1,h2⟩
  |succ i=>
   obtain⟨e',a',q1,q2,q3⟩:=EnD.at (es:=es) (ds:=r) (i:=i) hr (by simpa using hd)
   exact⟨e',a',by simpa using q1,q2,q3⟩
def z9s{rows:List Y3}: ∀W,(z1g rows W).length<=26:=λW=>by
 unfold z1g
 rw[l0]
 exact C1 (S5 _ _) (by simp[K26])
def zdT{rows:List Y3}(hw: ∀r∈rows,Wf r){W:List Int}(hW:W.length<=100): ∀e∈z1g rows W,e.2.1.length<=303:=λe he=>by
 unfold z1g at he
 obtain⟨k,_,rfl⟩:=m5.mp he
 have:=(z3W hw 1000 (W++[k])).1
 rw[l8,E6] at this
 show(J9 rows 1000 (W++[k])).1.length<=303
 lia
theorem z6Y{sn:List Int}{p c:Nat}: ∀(es:List Ent) (F:Fd),(F.map (·.1)).Nodup->((es.foldl (K2 sn p c) F).map (·.1)).Nodup/\(∀q∈F,q∈es.foldl (K2 sn p c) F)/\(es.foldl (K2 sn p c) F).length<=F.length+es.length
 |[],F,h=>⟨h,λ_ h=>h,i8 _⟩
 |e::es,F,h=>by
  obtain⟨h1,h2,h3⟩:=z6Y es (K2 sn p c F e) (zbc h)
  have:=z9r (sn:=sn) (p:=p) (c:=c) (F:=F) (e:=e)
  exact⟨h1,λq hq=>h2 q (z9q hq),by rw[L1,o0];lia⟩
noncomputable def enB:MS:=z1p (v4 (Z5 (Z0 5) (Z0 9) z2D)) (.tp [(.nm 10),(.nm 11),(.nm 12)]) goB
def zh1(rows:List Y3)(hw: ∀r∈rows,Wf r)(sn:List Int)(hsn:sn.length<=2000)(l ls jw jf jp n:Nat)(FK:List (List Int))(vp:List D)(hD:DV rows (jp+1) n FK vp)(i:Int)(g:Sg)(hgF:g.2∈FK)(hg2:g.2.length<=100)(c:Nat)(F:Fd)(vs:List D)(hV:GV RP F vs)(hn:(F.map (·.1)).Nodup)(hg:(g,c)∈F)(hz:F.length<=80000)(o10 o11 o12 o13:Option D)(hwf:jw≠jf)(hlw:l≠jw)(hlf:l≠jf)(hsw:ls≠jw)(hsf:ls≠jf)(hpw:jw<jp)(hpf:jf<jp)(hpn:jp<n)(w10:Lo jp o10)(w11:Lo jp o11)(w12:Lo jp o12)(w13:Lo jp o13):
 ∃vs' p10 p11 p12 p13 n',n<=n'/\Lo jp p10/\Lo jp p11/\Lo jp p12/\Lo jp p13/\GV RP ((z1g rows g.2).foldl (K2 sn g.1 c) F) vs'/\enB ⟨wsS l rows ls sn jw F vs jf (.dct jp (FK.map kd) vp) i g o10 o11 o12 o13,[some (.lst l (rows.map rD)),some (.lst ls (sn.map .int))],n⟩= .nx ⟨wsS l rows ls sn jw ((z1g rows g.2).foldl (K2 sn g.1 c) F) vs' jf (.dct jp (FK.map kd) vp) i g p10 p11 p12 p13,[some (.lst l (rows.map rD)),some (.lst ls (sn.map .int))],n'⟩:=by
 obtain⟨v,fv,q,ds,rfl,q1,q2,hE⟩:=hD.find hgF
 have ed: ∀s:Stt,z2D (.dct jp (FK.map kd) vp) (.tup (g.2.map .int)) s= .ok (.lst q ds) s:=λs=>by
  have hT:isT (FK.map kd)=true:=by cases FK<;>rfl
  unfold z2D
  erw[rdD,qw hT,z29,fv]
  rfl
 have h5: ∀k,k<jp->∀d,rp (pl k d) (.dct jp (FK.map kd) vp)= .dct jp (FK.map kd) vp:=λk hk d=>zj4 hD ⋯ (.inl ⋯)
 have hq: ∀k,k<jp->∀d,rp (pl k d) (.lst q ds)= .lst q ds:=λk hk d=>z0h λh=>by
  erw[Mi.labs,l6] at h
  rcases h with h|h
  .lia
  .have:=hE.labs k h;lia
 have hds:=hE.len
 have h26:=z9s (rows:=rows) g.2
 unfold enB
 have hi:v4 (Z5 (Z0 5) (Z0 9) z2D) ⟨wsS l rows ls sn jw F vs jf (.dct jp (FK.map kd) vp) i g o10 o11 o12 o13,[some (.lst l (rows.map rD)),some (.lst ls (sn.map .int))],n⟩= .ok kLst ⟨wsS l rows ls sn jw F vs jf (.dct jp (FK.map kd) vp) i g o10 o11 o12 o13,some (.lst q ds)::[some (.lst l (rows.map rD)),some (.lst ls (sn.map .int))],n⟩:=z2m (by
  unfold wsS
  left
  rw[ed])
 rw[z68,hi,z7v]
 obtain⟨s',e,vs',p10,p11,p12,p13,m,hm,k10,k11,k12,k13,hV',rfl⟩:=z1l (P:=λt s=> ∃(vs':List D) (p10 p11 p12 p13:Option D) (m:Nat),n<=m/\Lo jp p10/\Lo jp p11/\Lo jp p12/\Lo jp p13/\GV RP (((z1g rows g.2).take t).foldl (K2 sn g.1 c) F) vs'/\s=⟨wsS l rows ls sn jw (((z1g rows g.2).take t).foldl (K2 sn g.1 c) F) vs' jf (.dct jp (FK.map kd) vp) i g p10 p11 p12 p13,some (.lst q ds)::[some (.lst l (rows.map rD)),some (.lst ls (sn.map .int))],m⟩) (l:=q) (ds:=ds) (g:= .tp [(.nm 10),(.nm 11),(.nm 12)]) (tm:=[some (.lst l (rows.map rD)),some (.lst ls (sn.map .int))]) (b:=goB)
  (by rintro t s ⟨_,_,_,_,_,_,_,_,_,_,_,_,rfl⟩;rfl) (by
   rintro t d hd s ⟨vs',p10,p11,p12,p13,m,hm,_,_,_,k13,hV',rfl⟩
   obtain⟨en,a,he,rfl,a1,a2⟩:=hE.at hd
   refine⟨_,rfl, ?_⟩
   obtain⟨i1,i2,i3⟩:=z6Y (sn:=sn) (p:=g.1) (c:=c) ((z1g rows g.2).take t) F hn
   rw[A7] at i3
   obtain⟨vs2,q13,m',hm',z13,hV2,e⟩:=zh0 rows sn hsn l ls jw jf m a (.dct jp (FK.map kd) vp) i g c _ vs' hV' i1 (i2 _ hg) ⋯ en (by have:=zdT hw hg2 en (List.mem_of_getElem? he);lia) p13 hwf hlw hlf hsw hsf ⋯ ⋯ (h5 jw hpw) (h5 jf hpf) (λd=>k13 jw ⋯ d) (some (.lst q ds)::[some (.lst l (rows.map rD)),some (.lst ls (sn.map .int))]) (λd=>by erw[Y4,W0,l7,hq jw hpw,W9 hlw,G7 hsw]) (λd=>by erw[Y4,W0,l7,hq jf hpf,W9 hlf,G7 hsf])
   refine⟨_,e,vs2,some (.int en.1),some (.lst a (en.2.1.map .int)),some (.tup (en.2.2.map .int)),q13,m',⋯,Lo.int,Lo.li ⋯,Lo.tI,λk _ d=>z13 k d, ?_, ?_⟩
   .rw[C9,he,D7,N4];exact hV2
   .rw[C9,he,D7,N4];rfl) ds.length 0 ⟨wsS l rows ls sn jw F vs jf (.dct jp (FK.map kd) vp) i g o10 o11 o12 o13,some (.lst q ds)::[some (.lst l (rows.map rD)),some (.lst ls (sn.map .int))],n⟩ ⋯ ⟨vs,o10,o11,o12,o13,n,i8 _,w10,w11,w12,w13,hV,rfl⟩
 dsimp only
 rw[show kLst.len (some (.lst q ds)::[some (.lst l (rows.map rD)),some (.lst ls (sn.map D.int))])=ds.length from rfl,e,px1]
 rw[B4 ⋯] at hV'⊢
 exact⟨vs',p10,p11,p12,p13,m,hm,k10,k11,k12,k13,hV',rfl⟩
noncomputable def inB:MS:=sIf (V3 (Z5 (Z0 9) (Z0 5) z37)) (z4c (Z8 w8 [(Z0 0),(Z0 9)]) (Z0 5) (Z0 9) z5Z) sNx
noncomputable def wbM:MS:=(Y2 (W3 (.nm 7) (Z5 (Z0 4) (Z0 6) ixD))
 (Y2 (W3 (.tp [(.nm 8),(.nm 9)]) (Z0 7))
 (Y2 inB
 (Y2 enB
 (z7o 6 (mC (.int 1)))))))
noncomputable def wtS(l:Nat)(rows:List Y3)(ls:Nat)(sn:List Int)(jw:Nat)(F:Fd)(vs:List D)(jf:Nat)(jp:Nat)(FK:List (List Int))(vp:List D)(i:Int)(o7 o8 o9 o10 o11 o12 o13:Option D):Qq:=[some (.lst l (rows.map rD)),some (.lst ls (sn.map .int)),some (gD (0,[])),some (.dct jw (ksF F) vs),some (.lst jf (foD F)),some (.dct jp (FK.map kd) vp),some (.int i),o7,o8,o9,o10,o11,o12,o13]
def zj8{F:Fd}{i:Nat}{q:Sg×Nat}(h:F[i]? =some q):atI (foD F) (i:Int)=some (gD q.1):=z3O ⋯ (by simp[foD,h])
def z9t{rows:List Y3}{lo hi j:Nat}{FK:List (List Int)}{vs:List D}{W:List Int}{s:Stt}(h:DV rows lo hi FK vs):z37 (.tup (W.map .int)) (.dct j (FK.map kd) vs) s= .ok (.bool (!decide (W∈FK))) s:=by
 have hT:isT (FK.map kd)=true:=by cases FK<;>rfl
 unfold z37
 erw[rdD,qw hT,z29,h.has]
 rfl
def zh2{i n:Nat}{a:Int}{m:M D}{σ tm:Qq}(h:σ[i]? =some (some (.int a))):z7o i m ⟨σ,tm,n⟩=z1o m (zg7 i a) ⟨σ,tm,n⟩:=by
 unfold z7o;erw[h]
def zh3{i:Nat}{a b:Int}{s:Stt}:zg7 i a (.int b) s= .nx {s with σ:=s.σ.set i (some (.int (a+b)))}:=rfl
def zj9(rows:List Y3)(hw: ∀r∈rows,Wf r)(hr:rows.length<1000)(sn:List Int)(hsn:sn.length<=2000)(l ls jw jf jp n:Nat)(hlw:l<jw)(hsw:ls<jw)(hwf:jw<jf)(hfp:jf<jp)(hpn:jp<n)(FK:List (List Int))(vp:List D)(hFK:FK.length<=9000)(hD:DV rows (jp+1) n FK vp)(i:Nat)(q:Sg×Nat)(F:Fd)(vs:List D)(hV:GV RP F vs)(hn:(F.map (·.1)).Nodup)(hq:F[i]? =some q)(hg2:q.1.2.length<=100)(hz:F.length<=80000)(o7 o8 o9 o10 o11 o12 o13:Option D)(w10:Lo jp o10)(w11:Lo jp o11)(w12:Lo jp o12)(w13:Lo jp o13):
 ∃FK' vp' vs' p7 p8 p9 p10 p11 p12 p13 n',n<=n'/\FK'.length<=FK.length+1/\DV rows (jp+1) n' FK' vp'/\Lo jp p10/\Lo jp p11/\Lo jp p12/\Lo jp p13/\GV RP (proc (gl rows sn) F i) vs'/\wbM ⟨wtS l rows ls sn jw F vs jf jp FK vp i o7 o8 o9 o10 o11 o12 o13,[some (.lst l (rows.map rD)),some (.lst ls (sn.map .int))],n⟩= .nx ⟨wtS l rows ls sn jw (proc (gl rows sn) F i) vs' jf jp FK' vp' (i+1:Nat) p7 p8 p9 p10 p11 p12 p13,[some (.lst l (rows.map rD)),some (.lst ls (sn.map .int))],n'⟩:=by
 have ep:proc (gl rows sn) F i=(z1g rows q.1.2).foldl (K2 sn q.1.1 q.2) F:=by
  unfold proc
  rw[hq]
  exact z5y sn q.1.1 q.2 (z1g rows q.1.2) F
 rw[ep]
 have fgD: ∀(k:Nat) (d:D) (h:Sg),rp (pl k d) (gD h)=gD h:=λk d h=>zdQ
 have key: ∃FK' vp' n1,n<=n1/\FK'.length<=FK.length+1/\q.1.2∈FK'/\DV rows (jp+1) n1 FK' vp'/\inB ⟨wsS l rows ls sn jw F vs jf (.dct jp (FK.map kd) vp) i q.1 o10 o11 o12 o13,[some (.lst l (rows.map rD)),some (.lst ls (sn.map .int))],n⟩= .nx ⟨wsS l rows ls sn jw F vs jf (.dct jp (FK'.map kd) vp') i q.1 o10 o11 o12 o13,[some (.lst l (rows.map rD)),some (.lst ls (sn.map .int))],n1⟩:=by
  by_cases hin:q.1.2∈FK
  .refine⟨FK,vp,n,i8 _,⋯,hin,hD, ?_⟩
   unfold wsS inB
   left
   rw[z9t hD]
   erw[hin,decide_true,M9]
   left
  .obtain⟨ds,n1,hn1,hE,e1⟩:=zgW rows hw hr l n ⋯ q.1.2 hg2
   have hvl:VL rows (jp+1) n1 q.1.2 (.lst n ds):=⟨n,ds,rfl,⋯,⋯,hE.mono ⋯ (i8 _)⟩
   obtain⟨vp',hv',e2⟩:=zgS (j:=jp) (s:=⟨wsS l rows ls sn jw F vs jf (.dct jp (FK.map kd) vp) i q.1 o10 o11 o12 o13,[some (.lst l (rows.map rD)),some (.lst ls (sn.map .int))],n1⟩) ⋯ (λh=>by have:=hvl.labs jp h;lia) hvl (hD.mono ⋯)
   refine⟨z9M FK q.1.2,vp',n1,⋯,zb1,zb0.mpr (.inr rfl),hv', ?_⟩
   unfold wsS at e2⊢
   unfold inB
   left
   rw[z9t hD]
   erw[hin,decide_false,N2]
   left
   rw[e1]
   left
   rw[e2]
   erw[z1P,Y4,W0,l7,W9 (show l≠jp by lia),G7 (show ls≠jp by lia),fgD,zgZ hV (show jw≠jp by lia),zdR (show jf≠jp by lia),z5x,G2,z28,w10 jp (i8 _),w11 jp (i8 _),w12 jp (i8 _),w13 jp (i8 _)]
 obtain⟨FK',vp',n1,hn1,lFK,hm,hD',e1⟩:=key
 obtain⟨vs',p10,p11,p12,p13,n2,hn2,x10,x11,x12,x13,hV',e2⟩:=zh1 rows hw sn hsn l ls jw jf jp n1 FK' vp' hD' i q.1 hm hg2 q.2 F vs hV hn (List.mem_of_getElem? hq) hz o10 o11 o12 o13 ⋯ ⋯ ⋯ ⋯ ⋯ ⋯ ⋯ ⋯ w10 w11 w12 w13
 refine⟨FK',vp',vs',some (gD q.1),some (.int q.1.1),some (.tup (q.1.2.map .int)),p10,p11,p12,p13,n2,⋯,lFK,hD'.mono hn2,x10,x11,x12,x13,hV', ?_⟩
 have hgD:gD q.1= .tup [.int q.1.1, .tup (q.1.2.map .int)]:=rfl
 unfold wsS at e1 e2
 rw[hgD] at e1 e2
 unfold wbM wtS
 left
 rw[zj8 hq,hgD]
 left
 rw[e1]
 left
 rw[e2]
 left
 rw[zh2 rfl]
 left
 rw[zh3]
 rfl
noncomputable def F0:Fd:=[((0,[]),0)]
def z4H{gl:Sg->List Sg}{i:Nat}{F:Fd}:runF' gl (i+1) 0 F=proc gl (runF' gl i 0 F) i:=by
 rw[z6h]
 show runF' gl 0 (0+i+1) (proc gl (runF' gl i 0 F) (0+i))=_
 rw[I0];rfl
def z5z{rows:List Y3}(hw: ∀r∈rows,Wf r){sn:List Int}(n:Nat):((runF' (gl rows sn) n 0 F0).map (·.1)).Nodup/\∀q∈runF' (gl rows sn) n 0 F0,Ok rows sn.length q.1:=
 z6i (gl:=gl rows sn) (Q:=Ok rows sn.length) (λg h=>zgP hw h) n 0 F0 (by simp[F0]) (λq hq=>by
  rw[m4.mp hq]
  exact⟨B7 _,by simp[z1f]⟩)
def z9u(F:Fd):(foD F).length=F.length:=by simp[foD]
def z7D(rows:List Y3)(hw: ∀r∈rows,Wf r)(hr:rows.length<=40)(sn:List Int)(hsn:sn.length<=25)(l ls jw jf jp:Nat)(hlw:l<jw)(hsw:ls<jw)(hwf:jw<jf)(hfp:jf<jp)(N:Nat)(hN:N<=5000)(hend:(runF' (gl rows sn) N 0 F0).length=N)(hgo: ∀i,i<N->i<(runF' (gl rows sn) i 0 F0).length):
 ∀(d i fuel:Nat),i+d=N->d<fuel->∀(FK:List (List Int)) (vp vs:List D) (o7 o8 o9 o10 o11 o12 o13:Option D) (n:Nat),jp<n->FK.length<=i->DV rows (jp+1) n FK vp->GV RP (runF' (gl rows sn) i 0 F0) vs->Lo jp o10->Lo jp o11->Lo jp o12->Lo jp o13->
 ∃(FK':List (List Int)) (vp' vs':List D) (p7 p8 p9 p10 p11 p12 p13:Option D) (n':Nat),n<=n'/\GV RP (runF' (gl rows sn) N 0 F0) vs'/\G9 (V3 (Z5 (Z0 6) (mCB [(Z0 4)] X8) ltD)) wbM fuel ⟨wtS l rows ls sn jw (runF' (gl rows sn) i 0 F0) vs jf jp FK vp i o7 o8 o9 o10 o11 o12 o13,[some (.lst l (rows.map rD)),some (.lst ls (sn.map .int))],n⟩= .nx ⟨wtS l rows ls sn jw (runF' (gl rows sn) N 0 F0) vs' jf jp FK' vp' N p7 p8 p9 p10 p11 p12 p13,[some (.lst l (rows.map rD)),some (.lst ls (sn.map .int))],n'⟩:=by
 intro d
 induction d with
 |zero=>
  intro i fuel hi hf FK vp vs o7 o8 o9 o10 o11 o12 o13 n hn hK hD hV _ _ _ _
  have hi:i=N:=by lia
  subst hi
  obtain⟨m,rfl⟩: ∃m,fuel=m+1:=⟨fuel - 1,⋯⟩
  refine⟨FK,vp,vs,o7,o8,o9,o10,o11,o12,o13,n,i8 _,hV, ?_⟩
  unfold G9 wtS
  left
  have e:decide ((i:Int)<((foD (runF' (gl rows sn) i 0 F0)).length:Int))=false:=by
   rw[z9u,hend];simp
  rw[e]
  rfl
 |succ d ih=>
  intro i fuel hi hf FK vp vs o7 o8 o9 o10 o11 o12 o13 n hn hK hD hV w10 w11 w12 w13
  obtain⟨m,rfl⟩: ∃m,fuel=m+1:=⟨fuel - 1,⋯⟩
  have hlt:=hgo i ⋯
  obtain⟨h1,h2⟩:=z5z hw (sn:=sn) i
  have hb:=z3p hw hr hsn i
  have hq:=List.getElem?_eq_getElem hlt
  have ho:=h2 _ (C3 hlt)
  have hs:=z4E hw ho.2
  obtain⟨FK',vp',vs',p7,p8,p9,p10,p11,p12,p13,n',hn',hK',hD',x10,x11,x12,x13,hV',e1⟩:=zj9 rows hw ⋯ sn ⋯ l ls jw jf jp n hlw hsw hwf hfp hn FK vp ⋯ hD i _ _ vs hV h1 hq ⋯ (by show(runF' (gl rows sn) i 0 [((0,[]),0)]).length<=80000;lia) o7 o8 o9 o10 o11 o12 o13 w10 w11 w12 w13
  rw[<-z4H] at hV' e1
  obtain⟨FK2,vp2,vs2,q7,q8,q9,q10,q11,q12,q13,n2,hn2,hV2,e2⟩:=ih (i+1) m ⋯ ⋯ FK' vp' vs' p7 p8 p9 p10 p11 p12 p13 n' ⋯ ⋯ hD' hV' x10 x11 x12 x13
  refine⟨FK2,vp2,vs2,q7,q8,q9,q10,q11,q12,q13,n2,⋯,hV2, ?_⟩
  have e:decide ((i:Int)<((foD (runF' (gl rows sn) i 0 F0)).length:Int))=true:=by
   rw[z9u,decide_eq_true_iff];lia
  unfold G9
  have ec:V3 (Z5 (Z0 6) (mCB [(Z0 4)] X8) ltD) ⟨wtS l rows ls sn jw (runF' (gl rows sn) i 0 F0) vs jf jp FK vp i o7 o8 o9 o10 o11 o12 o13,[some (.lst l (rows.map rD)),some (.lst ls (sn.map .int))],n⟩= .ok true ⟨wtS l rows ls sn jw (runF' (gl rows sn) i 0 F0) vs jf jp FK vp i o7 o8 o9 o10 o11 o12 o13,[some (.lst l (rows.map rD)),some (.lst ls (sn.map .int))],n⟩:=by
   unfold wtS
   left
   rw[e]
  erw[z1o,ec]
  show(match wbM ⟨wtS l rows ls sn jw (runF' (gl rows sn) i 0 F0) vs jf jp FK vp i o7 o8 o9 o10 o11 o12 o13,[some (.lst l (rows.map rD)),some (.lst ls (sn.map .int))],n⟩ with
   | .nx s'=>G9 (V3 (Z5 (Z0 6) (mCB [(Z0 4)] X8) ltD)) wbM m s'
   | .ct s'=>G9 (V3 (Z5 (Z0 6) (mCB [(Z0 4)] X8) ltD)) wbM m s'
   | .bk s'=> .nx s'
   | .rt d s'=> .rt d s'
   | .ex d s'=> .ex d s'
   | .no=> .no)=_
  rw[e1]
  exact e2
def z6m(rows:List Y3)(hw: ∀r∈rows,Wf r)(hr:rows.length<=40)(sn:List Int)(hsn:sn.length<=25)(l ls n:Nat)(hl:l<n)(hs:ls<n)(N:Nat)(hN:N<=5000)(hend:(runF' (gl rows sn) N 0 F0).length=N)(hgo: ∀i,i<N->i<(runF' (gl rows sn) i 0 F0).length):
 ∃vs n',n<n'/\GV RP (runF' (gl rows sn) N 0 F0) vs/\v7 [.lst l (rows.map rD), .lst ls (sn.map .int)] n= .ok (.dct n (ksF (runF' (gl rows sn) N 0 F0)) vs) [.lst l (rows.map rD), .lst ls (sn.map .int)] n':=by
 unfold v7
 have e0:z1y=(Y2 (W3 (.nm 2) (mCB [(mC (.int 0)),(mCB [] U1)] U1))
  (Y2 (W3 (.nm 3) (z2h (Z0 2) (mCB [(mC (.int 0)),(mC .non),(mC .non)] U1)))
  (Y2 (W3 (.nm 4) (mCB [(Z0 2)] lstM))
  (Y2 (W3 (.nm 5) z5W)
  (Y2 (W3 (.nm 6) (mC (.int 0)))
  (Y2 (z1H (λ_=>100000) (V3 (Z5 (Z0 6) (mCB [(Z0 4)] X8) ltD)) wbM)
  (z0y (Z0 3)))))))):=rfl
 rw[e0]
 left
 have ed:z2h (Z0 2) (mCB [(mC (.int 0)),(mC .non),(mC .non)] U1) ⟨[some (.lst l (rows.map rD)),some (.lst ls (sn.map .int)),some (.tup [.int 0, .tup []]),none,none,none,none,none,none,none,none,none,none,none],[some (.lst l (rows.map rD)),some (.lst ls (sn.map .int))],n⟩= .ok (.dct n (ksF F0) [.tup [.int 0, .non, .non]]) ⟨[some (.lst l (rows.map rD)),some (.lst ls (sn.map .int)),some (.tup [.int 0, .tup []]),none,none,none,none,none,none,none,none,none,none,none],[some (.lst l (rows.map rD)),some (.lst ls (sn.map .int))],n+1⟩:=by
  have e:z2h (Z0 2) (mCB [(mC (.int 0)),(mC .non),(mC .non)] U1) ⟨[some (.lst l (rows.map rD)),some (.lst ls (sn.map .int)),some (.tup [.int 0, .tup []]),none,none,none,none,none,none,none,none,none,none,none],[some (.lst l (rows.map rD)),some (.lst ls (sn.map .int))],n⟩= .ok (.dct n (ksF F0) [.tup [.int 0, .non, .non]]) ⟨rpO (pl n (.dct n (ksF F0) [.tup [.int 0, .non, .non]])) [some (.lst l (rows.map rD)),some (.lst ls (sn.map .int)),some (.tup [.int 0, .tup []]),none,none,none,none,none,none,none,none,none,none,none],rpO (pl n (.dct n (ksF F0) [.tup [.int 0, .non, .non]])) [some (.lst l (rows.map rD)),some (.lst ls (sn.map .int))],n+1⟩:=by
   unfold z2h
   rfl
  rw[e]
  erw[Y4,W0,l7,E7,W9 (show l≠n by lia),G7 (show ls≠n by lia),zbU,U7,U4,G2]
 rw[ed]
 left
 have eD: ∀σ tm,z5W ⟨σ,tm,n+1+1⟩= .ok (.dct (n+1+1) [] []) ⟨σ,tm,n+1+1+1⟩:=λ_ _=>rfl
 rw[eD]
 left
 rw[z9e]
 obtain⟨FK',vp',vs',p7,p8,p9,p10,p11,p12,p13,n',hn',hV,e⟩:=z7D rows hw hr sn hsn l ls n (n+1) (n+1+1) hl hs ⋯ ⋯ N hN hend hgo N 0 100000 ⋯ ⋯ [] [] [.tup [.int 0, .non, .non]] none none none none none none none (n+1+1+1) ⋯ (i8 _) rfl ⟨_,[],rfl,⟨.non, .non,rfl⟩,rfl,rfl⟩ Lo.no Lo.no Lo.no Lo.no
 unfold wtS at e
 have ee:=e
 refine⟨vs',n',⋯,hV, ?_⟩
 have es:(⟨[some (.lst l (rows.map rD)),some (.lst ls (sn.map .int)),some (.tup [.int 0, .tup []]),some (.dct n (ksF F0) [.tup [.int 0, .non, .non]]),some (.lst (n+1) [.tup [.int 0, .tup []]]),some (.dct (n+1+1) [] []),some (.int 0),none,none,none,none,none,none,none],[some (.lst l (rows.map rD)),some (.lst ls (sn.map .int))],n+1+1+1⟩:Stt)=⟨[some (.lst l (rows.map rD)),some (.lst ls (sn.map .int)),some (gD (0,[])),some (.dct n (ksF (runF' (gl rows sn) 0 0 F0)) [.tup [.int 0, .non, .non]]),some (.lst (n+1) (foD (runF' (gl rows sn) 0 0 F0))),some (.dct (n+1+1) (([]:List (List Int)).map kd) []),some (.int ((0:Nat):Int)),none,none,none,none,none,none,none],[some (.lst l (rows.map rD)),some (.lst ls (sn.map .int))],n+1+1+1⟩:=rfl
 rw[es,e]
 left
def z9v{i:Int}:Gd (.int i):=⟨rfl,by simp[er,PyData.canLay0]⟩
def z2a:GdL []:=⟨rfl,rfl⟩
theorem z6Z: ∀ns:List Int,GdL (ns.map D.int)
 |[]=>z2a
 |n::ns=>GdL.cons.mpr ⟨z9v,z6Z ns⟩
noncomputable def stD(q:Sg×Nat):D:= .tup [.int q.1.1, .tup (q.1.2.map .int), .int q.2]
noncomputable def stL(F:Fd):List D:=F.map stD
theorem z9w: ∀a b:List Int,(So.ltL (a.map PyData.int) (b.map PyData.int)).isSome=true
 |[],b=>by simp[So.ltL]
 |x::a,[]=>by simp[So.ltL]
 |x::a,y::b=>by
  show(So.ltL (.int x::a.map PyData.int) (.int y::b.map PyData.int)).isSome=true
  rw[So.ltL]
  split
  .exact z9w a b
  .simp[So.ltD]
def z5A(q:Sg×Nat):er (stD q)= .tuple [.int q.1.1, .tuple (q.1.2.map .int), .int q.2]:=by
 erw[stD,er,erL,z4A]
def zja(p q:Sg×Nat):(So.ltD (er (stD p)) (er (stD q))).isSome=true:=by
 rw[z5A,z5A]
 erw[So.ltD,So.ltL]
 split
 .split
  .split<;>rfl
  .exact z9w _ _
 .rfl
def z70(q:Sg×Nat):Gd (stD q):=Gd.tup.mpr (GdL.cons.mpr ⟨z9v,GdL.cons.mpr ⟨Gd.tup.mpr (z6Z q.1.2),GdL.cons.mpr ⟨z9v,z2a⟩⟩⟩)
theorem zc6: ∀F:Fd,GdL (stL F)
 |[]=>z2a
 |q::F=>GdL.cons.mpr ⟨z70 q,zc6 F⟩
def zbd(F:Fd):qq (stL F)=[]:=G6 λd hd=>by
 obtain⟨q,_,rfl⟩:=m5.mp hd
 erw[stD,Mi.labs,qq,Y5,l4]
def zdU(F:Fd):z8r (erL (stL F))=true:=by
 have mem: ∀{F:Fd} {d:PyData},d∈erL (stL F)->∃p∈F,d=er (stD p):=by
  intro F
  induction F with
  |nil=>intro d h;simp[stL,erL] at h
  |cons p F ih=>
   intro d h
   have h':d∈er (stD p)::erL (stL F):=h
   rcases l6.mp h' with rfl|h'
   .exact⟨p,l5,rfl⟩
   .obtain⟨q,hq,e⟩:=ih h'
    exact⟨q,i5 _ hq,e⟩
 unfold z8r
 erw[A3,N5,decide_eq_true_eq]
 refine⟨λd hd=> ?_,λd hd e he=> ?_⟩
 .obtain⟨p,hp,rfl⟩:=mem hd
  refine⟨⟨by rw[z5A];rfl,(z70 p).2⟩, ?_⟩
  have t:(er (tI p.1.2)).depth<=60:=by rw[z7z];have:=zbD p.1.2;lia
  have: ∀ns:List Int,PyData.depthAll (ns.map PyData.int)<=1:=λns=>by
   induction ns with
   |nil=>simp[PyData.depthAll]
   |cons n ns ih=>erw[i6,PyData.depthAll,PyData.depth];lia
  have h1:=this p.1.2
  rw[z5A]
  erw[PyData.depth,PyData.depthAll]
  lia
 .obtain⟨p,hp,rfl⟩:=mem hd
  obtain⟨q,hq,rfl⟩:=mem he
  exact zja p q
def zh4{l n:Nat}{F:Fd}{σ tm:Qq}:zem [.lst l (stL F)] ⟨σ,tm,n⟩= .ok (.lst n (z2t (stL F))) ⟨σ,tm,n+1⟩:=by
 erw[zem]
 rw[qw (by rw[(zc6 F).1,zdU,zbd];rfl)]
 rfl
def z6n(rows:List Y3)(hw: ∀r∈rows,Wf r)(l n q:Nat)(K:D)(hl:l<n)(hK: ∀d,rp (pl n d) K=K)(hK1: ∀d,rp (pl (n+1) d) K=K): ∀(m:Nat) (R S L:List Int) (o5 o6:Option D),R.length<m->R.length<=200->S.length+3*R.length<=2000->L.length+R.length<=2000->(∀k d,B6 (rp (pl k d)) o5=o5)->(∀k d,B6 (rp (pl k d)) o6=o6)->∃p5 p6,(∀k d,B6 (rp (pl k d)) p5=p5)/\(∀k d,B6 (rp (pl k d)) p6=p6)/\
 G9 (z0T (Z0 4)) (Y2 (W3 (.tp [(.nm 5),(.nm 6),(.nm 4)]) (Z8 G4 [(Z0 0),(Z0 4)])) (Y2 (v3 (u2 (Z0 2) [(Z0 5)] z2r)) (v3 (u2 (Z0 3) [(Z0 6)] z2r)))) m ⟨[some (.lst l (rows.map rD)),some K,some (.lst n (S.map .int)),some (.lst (n+1) (L.map .int)),some (.tup (R.map .int)),o5,o6],[some (.lst l (rows.map rD)),some K],q⟩
  = .nx ⟨[some (.lst l (rows.map rD)),some K,some (.lst n ((S++(V9 rows R).1).map .int)),some (.lst (n+1) ((L++(V9 rows R).2).map .int)),some (.tup []),p5,p6],[some (.lst l (rows.map rD)),some K],q⟩:=by
 intro m
 induction m with
 |zero=>intro R S L o5 o6 h;lia
 |succ m ih=>
  intro R S L o5 o6 h h2 h3 h4 r5 r6
  unfold G9
  cases R with
  |nil=>
   refine⟨o5,o6,r5,r6, ?_⟩
   left
   erw[z1d,l4,m8,M7,M9]
   left
  |cons a R=>
   obtain⟨l1,l2,l3⟩:=z0i hw (R7 a R)
   have e0:=z27 hw (R7 a R)
   have ps:=z6S rows (a::R) l q hw ⋯
   have hne:((a::R).map D.int).isEmpty=false:=rfl
   generalize hR:a::R=R' at*
   left
   erw[hne]
   left
   rw[ps]
   left
   rw[z3T (by rw[zl];erw[l0];lia) (Y5 _)]
   left
   simp only[<-t8,W9 (show l≠n by lia),G7 (show n+1≠n by lia),J1,hK]
   left
   erw[G7 (show n+1≠n by lia)]
   rw[z3T (by rw[zl];erw[l0];lia) (Y5 _)]
   left
   simp only[<-t8,W9 (show l≠n+1 by lia),G7 (show n≠n+1 by lia),J1,hK1]
   obtain⟨p5,p6,g5,g6,e⟩:=ih (j0 rows R').2.2 (S++(j0 rows R').1) (L++(j0 rows R').2.1) (some (.tup ((j0 rows R').1.map .int))) (some (.tup ((j0 rows R').2.1.map .int))) ⋯ ⋯ (by rw[l8];lia) (by rw[l8];lia) (λ_ _=>by rw[l7,z28]) (λ_ _=>by rw[l7,z28])
   refine⟨p5,p6,g5,g6, ?_⟩
   rw[e,e0]
   erw[m9]
def zbe(rows:List Y3)(ks:List Int)(l n:Nat)(K:D)(hw: ∀r∈rows,Wf r)(hk:ks.length<=200)(hl:l<n)(hK:(∃k,k<n/\K= .lst k (ks.map .int))\/K= .tup (ks.map .int)):K5 [.lst l (rows.map rD),K] n= .ok (.tup [.lst n ((V9 rows ks).1.map .int), .lst (n+1) ((V9 rows ks).2.map .int)]) [.lst l (rows.map rD),K] (n+2):=by
 have hK2:z5b [K]=z5b [.tup (ks.map .int)]:=by
  rcases hK with⟨k,_,rfl⟩|rfl<;>rfl
 unfold K5 z0M
 left
 rw[hK2]
 left
 rw[z9e]
 have rK: ∀j,n<=j->∀d,rp (pl j d) K=K:=λj hj d=>by
  rcases hK with⟨k,hk,rfl⟩|rfl
  .exact G7 ⋯
  .exact z28
 obtain⟨p5,p6,_,_,e⟩:=z6n rows hw l n (n+1+1) K hl (rK n (i8 _)) (rK (n+1) ⋯) 1000 ks [] [] none none ⋯ hk (by simp;lia) (by simp;lia) (λ_ _=>rfl) (λ_ _=>rfl)
 erw[m8,A4] at e
 rw[e]
 left
def z9x(rows:List Y3)(ks:List Int)(l n:Nat)(hw: ∀r∈rows,Wf r)(hk:ks.length<=200)(hl:l<n):K1 [.lst l (rows.map rD), .tup (ks.map .int)] n= .ok (.tup [.lst n ((V9 rows ks).1.map .int), .lst (n+1) ((V9 rows ks).2.map .int)]) [.lst l (rows.map rD), .tup (ks.map .int)] (n+2):=by
 unfold K1 z1b
 left
 rw[zbe rows ks l n _ hw hk hl (.inr rfl)]
 left
def z7E{K:ItK}{g:Tg}{me:M D}{gf:D->D}{fr:D->Qq}{cap:Qq}{k:Nat}{items:List D}{its σ0 tm0:Qq}{ol:Nat}(hk:its.length=K.k)(hol:σ0.length=ol)(hz:items.length<qh)(hat: ∀i rest,K.at' i (its++rest)=some items[i]?)
 (has: ∀d∈items,∀pre:Qq,pre.length=k->asg g d (pre++cap)=some (fr d++cap)) (hfr: ∀d∈items,(fr d).length=k)
 (hme: ∀d∈items,∀tm n,∃n',n<=n'/\me ⟨fr d++cap,tm,n⟩= .ok (gf d) ⟨fr d++cap,tm,n'⟩):
 ∀(f:Nat) (i:Nat) (acc:List D) (pre:Qq) (n:Nat),i+f=items.length->acc.length=i->pre.length=k->∃n',n<=n'/\K4 K g (rt true) me ol f i acc.length ⟨pre++cap,(acc.reverse.map some)++(σ0++(its++tm0)),n⟩= .ok (.lst n' (acc++(items.drop i).map gf)) ⟨σ0,tm0,n'+1⟩:=by
 intro f
 induction f with
 |zero=>
  intro i acc pre n hi ha hp
  have hi:i=items.length:=by lia
  refine⟨n,i8 _, ?_⟩
  have l1:(acc.reverse.map some).length=acc.length:=by simp
  have e1:((acc.reverse.map some)++(σ0++(its++tm0))).drop (acc.length+ol)=its++tm0:=by
   rw[<-m9];exact z0g _ _ _ (by simp[hol])
  have e0:K.at' i (its++tm0)=some none:=by
   rw[hat,List.getElem?_eq_none (show items.length<=i by lia)]
  unfold K4
  erw[e1,e0]
  rw[z2F _ _ _ l1]
  have e2:(acc.reverse.map some).reverse=acc.map some:=by simp
  rw[e2,z1A]
  erw[Res.ok.injEq,Stt.mk.injEq,and_true,C2 (show items.length<=i by lia),m8,l4,true_and]
  constructor
  .rw[z0g _ _ _ l1,z2F _ _ _ hol]
  .have:((acc.reverse.map some)++(σ0++(its++tm0))).drop (acc.length+ol+K.k)=(((acc.reverse.map some)++(σ0++(its++tm0))).drop (acc.length+ol)).drop K.k:=by rw[D9]
   rw[this,e1]
   exact z0g _ _ _ hk
 |succ f ih=>
  intro i acc pre n hi ha hp
  have hlt:i<items.length:=by lia
  have hm:=C3 hlt
  have e1:((acc.reverse.map some)++(σ0++(its++tm0))).drop (acc.length+ol)=its++tm0:=by
   rw[<-m9];exact z0g _ _ _ (by simp[hol])
  have e0:K.at' i (its++tm0)=some (some items[i]):=by
   rw[hat,List.getElem?_eq_getElem hlt]
  rw[M8 hlt,i6]
  obtain⟨n2,hn2,h2⟩:=hme items[i] hm ((acc.reverse.map some)++(σ0++(its++tm0))) n
  obtain⟨n3,hn3,h3⟩:=ih (i+1) (acc++[gf items[i]]) (fr items[i]) n2 ⋯ (by simp;lia) (hfr _ hm)
  refine⟨n3,⋯, ?_⟩
  unfold K4
  erw[e1,e0,has _ hm pre hp,rt,qw (show acc.length<qh by lia),h2]
  erw[l8,o0,C0,I0,F7,A6,F8,A4,t8,i6,m8,B3,m9] at h3
  exact h3
def z3r{mi:M ItK}{K:ItK}{g:Tg}{me:M D}{gf:D->D}{fr:D->Qq}{k:Nat}{items:List D}{its:Qq}{ix:List Nat}{s:Stt}{σ tm:Qq}{n:Nat}(hc:mi s= .ok K ⟨σ,its++tm,n⟩)(hk:its.length=K.k)(hz:items.length<qh)(hat: ∀i rest,K.at' i (its++rest)=some items[i]?)(hlen:K.len (its++tm)=items.length)
 (has: ∀d∈items,∀pre:Qq,pre.length=k->asg g d (pre++ix.map λi=>(σ[i]?).getD none)=some (fr d++ix.map λi=>(σ[i]?).getD none)) (hfr: ∀d∈items,(fr d).length=k)
 (hme: ∀d∈items,∀tm n,∃n',n<=n'/\me ⟨fr d++ix.map λi=>(σ[i]?).getD none,tm,n⟩= .ok (gf d) ⟨fr d++ix.map λi=>(σ[i]?).getD none,tm,n'⟩):
 ∃n',n<=n'/\J3 mi g (rt true) me k ix s= .ok (.lst n' (items.map gf)) ⟨σ,tm,n'+1⟩:=by
 obtain⟨n',h2,h3⟩:=z7E (K:=K) (me:=me) (gf:=gf) (fr:=fr) (cap:=ix.map λi=>(σ[i]?).getD none) (k:=k) (σ0:=σ) (tm0:=tm) hk rfl hz hat has hfr hme items.length 0 [] (A8 k none) n (by simp) (by simp) (by simp)
 refine⟨n',h2, ?_⟩
 unfold J3
 erw[bd,hc,hlen]
 erw[m8,F8,A4,C0,N3] at h3
 exact h3
noncomputable def itF:Fd->List D->List D
 |q::F,v::vs=> .tup [gD q.1,v]::itF F vs
 |_,_=>[]
theorem zc7: ∀{F:Fd} {vs:List D} {i:Nat},vs.length=F.length->zg8 i (ksF F) vs=(itF F vs)[i]?
 |[],[],i,_=>by simp[zg8,ksF,itF]
 |[],_::_,_,h=>by simp at h
 |_::_,[],_,h=>by simp at h
 |q::F,v::vs,0,_=>rfl
 |q::F,v::vs,i+1,h=>zc7 (F:=F) (vs:=vs) (i:=i) (by simpa using h)
theorem z6o: ∀{F:Fd} {vs:List D},vs.length=F.length->(itF F vs).length=F.length
 |[],[],_=>rfl
 |[],_::_,h=>by simp at h
 |_::_,[],h=>by simp at h
 |q::F,v::vs,h=>by erw[itF,o0,z6o (F:=F) (vs:=vs) (by simpa using h)]
theorem GV.len{R:Sg×Nat->D->Prop}: ∀{F:Fd} {vs:List D},GV R F vs->vs.length=F.length
 |[],vs,h=>by
  have h:vs=[]:=h
  subst h;rfl
 |q::F,vs,⟨v,r,e,_,_,hr⟩=>by rw[e,o0,o0,GV.len hr]
noncomputable def frP:D->Qq
 | .tup [.tup [a,b],v]=>[some v,some a,some b]
 |_=>[none,none,none]
noncomputable def gfP:D->D
 | .tup [.tup [a,b], .tup (c::_)]=> .tup [a,b,c]
 |_=> .non
theorem zh5: ∀{F:Fd} {vs:List D},GV RP F vs->(∀d∈itF F vs,∃(q:Sg) (x:Int) (y:D×D),d= .tup [gD q, .tup [.int x,y.1,y.2]])/\(itF F vs).map gfP=stL F
 |[],vs,h=>by
  have h:vs=[]:=h
  subst h
  exact⟨(λ_ h=>nomatch h),rfl⟩
 |q::F,vs,⟨v,r,e,⟨x,y,hv⟩,_,hr⟩=>by
  subst e
  subst hv
  obtain⟨h1,h2⟩:=zh5 hr
  refine⟨λd hd=> ?_, ?_⟩
  .rcases l6.mp hd with rfl|hd
   .exact⟨q.1,q.2,(x,y),rfl⟩
   .exact h1 d hd
  .show gfP _::(itF F r).map gfP=_
   rw[h2];rfl
def zc8(rows:List Y3)(hw: ∀r∈rows,Wf r)(hr:rows.length<=40)(sn:List Int)(hsn:sn.length<=25)(l ls n:Nat)(hl:l<n)(hs:ls<n)(N:Nat)(hN:N<=5000)(hend:(runF' (gl rows sn) N 0 F0).length=N)(hgo: ∀i,i<N->i<(runF' (gl rows sn) i 0 F0).length):
 ∃n',n<n'/\Q1 [.lst l (rows.map rD), .lst ls (sn.map .int)] n= .ok (.lst n' (z2t (stL (runF' (gl rows sn) N 0 F0)))) [.lst l (rows.map rD), .lst ls (sn.map .int)] (n'+1):=by
 obtain⟨vs,n1,hn1,hV,e1⟩:=z6m rows hw hr sn hsn l ls n hl hs N hN hend hgo
 generalize runF' (gl rows sn) N 0 F0=F at*
 unfold Q1 X6
 left
 rw[e1]
 left
 obtain⟨p1,p2⟩:=zh5 hV
 obtain⟨n2,hn2,e2⟩:=z3r (mi:=z7p (Z0 2)) (K:=zdg) (g:= .tp [(.tp [(.nm 1),(.nm 2)]),(.nm 0)]) (me:=(mCB [(Z0 1),(Z0 2),(Z5 (Z0 0) (mC (.int 0)) ixD)] U1)) (gf:=gfP) (fr:=frP) (k:=3) (items:=itF F vs) (its:=[some (.fdc (ksF F) vs)]) (ix:=[]) (s:=⟨[some (.lst l (rows.map rD)),some (.lst ls (sn.map .int)),some (.dct n (ksF F) vs)],[some (.lst l (rows.map rD)),some (.lst ls (sn.map .int))],n1⟩) (σ:=[some (.lst l (rows.map rD)),some (.lst ls (sn.map .int)),some (.fdc (ksF F) vs)]) (tm:=[some (.lst l (rows.map rD)),some (.lst ls (sn.map .int))]) (n:=n1) (by
  unfold z7p
  left
  rw[qw ⟨z6l F,hV.labs⟩]
  erw[z1P,Y4,W0,l7,W9 (show l≠n by lia),G7 (show ls≠n by lia),z5x]) rfl (by rw[z6o hV.len,zl];lia) (λi rest=>by
  show some (zg8 i (ksF F) vs)=_
  rw[zc7 hV.len]) (by
  show(ksF F).length=_
  rw[z6o hV.len];simp[ksF]) (λd hd pre hp=>by
  obtain⟨q,x,y,rfl⟩:=p1 d hd
  match pre,hp with
  |[a,b,c],_=>rfl) (λd hd=>by
  obtain⟨q,x,y,rfl⟩:=p1 d hd
  rfl) (λd hd tm m=>by
  obtain⟨q,x,y,rfl⟩:=p1 d hd
  refine⟨m,i8 _, ?_⟩
  show(mCB [(Z0 1),(Z0 2),(Z5 (Z0 0) (mC (.int 0)) ixD)] U1) ⟨[some (.tup [.int x,y.1,y.2]),some (.int q.1),some (.tup (q.2.map .int))],tm,m⟩=_
  left
  rfl)
 rw[e2,p2]
 left
 rw[zh4]
 exact⟨n2+1,⋯,rfl⟩
noncomputable def sbM:MS:=(Y2 (W3 (.nm 11) (mCB [(Z5 (Z8 Z3 [(Z0 0),(mC (.int 8))]) (mC (.int 7)) eqD)] z9L))
 (v3 (u2 (Z0 9) [(Z5 (mCB [(Z5 (Z0 4) (Z8 Z3 [(Z0 0),(mCB [(Z0 4)] X8)]) ixD),(Z8 Z3 [(Z0 0),(mC (.int 40))])] lstM) (Z0 11) ixD)] z5e)))
noncomputable abbrev Fra(o:Option D):Prop:= ∀f:Nat->Option D,B6 (rp f) o=o
def z9y(ns:List Int):Fra (some (.tup (ns.map .int))):=λf=>by
 rw[l7,z8z _ λj hj=>by rw[show labs (.tup (ns.map D.int))=[] from Y5 ns] at hj;cases hj]
def z4I:Fra none:=λ_=>rfl
def zh6(rows:List Y3)(hw: ∀r∈rows,Wf r)(hr:rows.length<=60)(B:D)(k n:Nat)(M w:Int)(hk:k<n)(hB: ∀d,rp (pl n d) B=B): ∃(ms:List Int) (o5 o6 o7:Option D),ms≠[]/\ms.length<=300/\Fra o5/\Fra o6/\Fra o7/\
 z1p (v4 (Z0 1)) (.tp [(.nm 5),(.nm 6),(.nm 7)]) (v3 (u2 (Z0 4) [(Z0 6)] z2r)) ⟨[some B,some (.lst k (rows.map rD)),some (.int M),some (.int w),some (.lst n [.int 0]),none,none,none,none,none,none,none],[some B,some (.lst k (rows.map rD)),some (.int M)],n+1⟩
  = .nx ⟨[some B,some (.lst k (rows.map rD)),some (.int M),some (.int w),some (.lst n (ms.map .int)),o5,o6,o7,none,none,none,none],[some B,some (.lst k (rows.map rD)),some (.int M)],n+1⟩:=by
 left
 obtain⟨s',e,ms,o5,o6,o7,rfl,g1,g2,g4,g5,g6⟩:=z1l (P:=λi s=> ∃(ms:List Int) (o5 o6 o7:Option D),s=⟨[some B,some (.lst k (rows.map rD)),some (.int M),some (.int w),some (.lst n (ms.map .int)),o5,o6,o7,none,none,none,none],some (.lst k (rows.map rD))::[some B,some (.lst k (rows.map rD)),some (.int M)],n+1⟩/\ms≠[]/\ms.length<=1+3*i/\Fra o5/\Fra o6/\Fra o7) (l:=k) (ds:=rows.map rD) (g:= .tp [(.nm 5),(.nm 6),(.nm 7)]) (tm:=[some B,some (.lst k (rows.map rD)),some (.int M)])
  (b:=v3 (u2 (Z0 4) [(Z0 6)] z2r)) (by rintro i s ⟨ms,o5,o6,o7,rfl,_⟩;rfl) (by
   rintro i d hd s ⟨ms,o5,o6,o7,rfl,g1,g2,g4,g5,g6⟩
   rw[List.getElem?_map] at hd
   cases hr':rows[i]? with
   |none=>rw[hr'] at hd;cases hd
   |some r=>
    rw[hr'] at hd
    cases hd
    have hi:i<rows.length:=(List.getElem?_eq_some_iff.mp hr').1
    have hl:=(hw r (List.mem_of_getElem? hr')).2.2.1
    refine⟨[some B,some (.lst k (rows.map rD)),some (.int M),some (.int w),some (.lst n (ms.map .int)),some (.tup (r.1.map .int)),some (.tup (r.2.1.map .int)),some (.tup (r.2.2.map .int)),none,none,none,none],rfl, ?_⟩
    refine⟨_, ?_,ms++r.2.1,some (.tup (r.1.map .int)),some (.tup (r.2.1.map .int)),some (.tup (r.2.2.map .int)),rfl,by simp[g1],by rw[l8];lia,z9y _,z9y _,z9y _⟩
    left
    rw[z3T (by rw[zl];erw[l0];lia) (Y5 _)]
    left
    simp only[<-t8,W9 (show k≠n by lia),J1,hB]) rows.length 0 ⟨[some B,some (.lst k (rows.map rD)),some (.int M),some (.int w),some (.lst n [.int 0]),none,none,none,none,none,none,none],some (.lst k (rows.map rD))::[some B,some (.lst k (rows.map rD)),some (.int M)],n+1⟩ (by simp) ⟨[0],none,none,none,rfl,by simp,by simp,z4I,z4I,z4I⟩
 rw[l0] at g2
 refine⟨ms,o5,o6,o7,g1,⋯,g4,g5,g6, ?_⟩
 rw[z2m (l:=k) (ds:=rows.map rD) (σ:=[some B,some (.lst k (rows.map rD)),some (.int M),some (.int w),some (.lst n [.int 0]),none,none,none,none,none,none,none]) (tm:=[some B,some (.lst k (rows.map rD)),some (.int M)]) (n:=n+1) (by left)]
 left
 rw[show kLst.len (some (.lst k (rows.map rD))::[some B,some (.lst k (rows.map rD)),some (.int M)])=rows.length by show(rows.map rD).length=_;simp,e]
 rfl
def zjb(rows:List Y3)(l k n q:Nat)(c x i M w:Int)(ms ks:List Int)(o5 o6 o7 o8 o11:Option D)(hb:Bg c x)(hl:l<n)(hk:k<n)(hlk:k≠l)(hq:n+1<q)(hm:ms≠[])(lm:ms.length<=300)(lk:ks.length<=500)(f5:Fre o5)(f6:Fre o6)(f7:Fre o7)(f8:Fre o8)(f11:Fre o11): ∃(v c' x' u:Int) (q':Nat),Bg c' x'/\q<=q'/\
 sbM ⟨[some (.lst l [.int c, .int x]),some (.lst k (rows.map rD)),some (.int M),some (.int w),some (.lst n (ms.map .int)),o5,o6,o7,o8,some (.lst (n+1) (ks.map .int)),some (.int i),o11],[some (.lst l [.int c, .int x]),some (.lst k (rows.map rD)),some (.int M)],q⟩
  = .nx ⟨[some (.lst l [.int c', .int x']),some (.lst k (rows.map rD)),some (.int M),some (.int w),some (.lst n (ms.map .int)),o5,o6,o7,o8,some (.lst (n+1) ((ks++[v]).map .int)),some (.int i),some (.int u)],[some (.lst l [.int c', .int x']),some (.lst k (rows.map rD)),some (.int M)],q'⟩:=by
 have rr: ∀d,rp (pl l d) (.lst k (rows.map rD))= .lst k (rows.map rD):=λd=>W9 hlk
 have rm: ∀d,rp (pl l d) (.lst n (ms.map .int))= .lst n (ms.map .int):=λd=>G7 ⋯
 have rk: ∀d,rp (pl l d) (.lst (n+1) (ks.map .int))= .lst (n+1) (ks.map .int):=λd=>G7 ⋯
 have lpos:0<ms.length:=by cases ms with|nil=>exact absurd rfl hm|cons _ _=>simp
 unfold sbM
 left
 obtain⟨q1,c1,x1,hq1,hq1',b1,e1⟩:=Q9 l c x 8 q hb (by decide) (by decide)
 rw[e1,Y9 rfl rfl rfl (λq=>by left;try erw[rr,rm,rk,f5 l,f6 l,f7 l,f8 l,f11 l];rfl) (λq=>by left;try erw[rr];rfl)]
 try (left)
 obtain⟨w,⟨hw0,hw1⟩,ew⟩:= @zj2 (q1==7)
 rw[ew]
 try (left)
 rw[z5D]
 obtain⟨q2,c2,x2,hq2,hq2',b2,e2⟩:=Q9 l c1 x1 ms.length q b1 ⋯ ⋯
 rw[e2,Y9 rfl rfl rfl (λq=>by left;try erw[rr,rm,rk,f5 l,f6 l,f7 l,f8 l];rfl) (λq=>by left;try erw[rr,rm,rk];rfl)]
 try (left)
 obtain⟨v1,ev1⟩:=at_ints hq2 hq2'
 rw[ev1]
 left
 obtain⟨v2,c3,x3,hq3,hq3',b3,e3⟩:=Q9 l c2 x2 40 q b2 (by decide) (by decide)
 rw[e3,Y9 rfl rfl rfl (λq=>by left;try erw[rr,rm,rk,f5 l,f6 l,f7 l,f8 l];rfl) (λq=>by left;try erw[rr,rk];rfl)]
 try (left)
 obtain⟨v,hv,ev⟩:=zen (a:=v1) (b:=v2) hw0 hw1
 rw[ev]
 left
 try erw[rk]
 rw[y_app (by rw[zl,l0];lia) rfl]
 left
 refine⟨v,c3,x3,w,q+1,b3,⋯, ?_⟩
 have hs:ks.map D.int++[D.int v]=(ks++[v]).map D.int:=by rw[t8];rfl
 erw[hs,W9 (show k≠n+1 by lia),G7 (show n≠n+1 by lia),f5 (n+1),f6 (n+1),f7 (n+1),f8 (n+1),z0V (show l≠n+1 by lia),U7,U4,G2]
noncomputable def f2(q p:Nat)(A B:List D):Nat->Option D:=λk=>if q=k then some (.lst q A) else if p=k then some (.lst p B) else none
def z71{q p:Nat}{A B:List D}{ns:List Int}:rpL (f2 q p A B) (ns.map D.int)=ns.map D.int:=rpL_id _ λj hj=>by rw[Y5] at hj;cases hj
def zc9{q p k:Nat}{A B:List D}{ns:List Int}(h1:q≠k)(h2:p≠k):rp (f2 q p A B) (.lst k (ns.map D.int))= .lst k (ns.map D.int):=by
 erw[rp,f2,qy h1,qy h2]
 rw[z71]
def z9z{q p:Nat}{A B ds:List D}:rp (f2 q p A B) (.lst q ds)= .lst q A:=by erw[rp,f2,if_true]
def z9A{q p:Nat}{A B ds:List D}(h:q≠p):rp (f2 q p A B) (.lst p ds)= .lst p B:=by erw[rp,f2,qy h,if_true]
def z9B{t i:D}{l k n' n:Nat}{b b' R:List D}{σ tm:Qq}(h:l≠k)(hb:qq b=[])(hb':qq b'=[])(hR:qq R=[])(hi:labs i=[])(g1:rpO (f2 l k b R) σ=σ)(g2:rpO (f2 l k b R) tm=tm):
 z32 (.ok t [.lst l b', .lst k R,i] n') [.lst l b, .lst k R,i] ⟨σ,tm,n⟩= .ok t ⟨rpO (f2 l k b' R) σ,rpO (f2 l k b' R) tm,n'⟩:=by
 have fi: ∀j,findT j i=none:=λj=>z3P i (by rw[hi];exact A2)
 have e:(λj=>findL j [D.lst l b', .lst k R,i])=f2 l k b' R:=by
  funext j
  erw[findL,findT,f2]
  by_cases h1:l=j
  .erw[qw h1]
  .erw[qy h1,findL_none _ (show j∉qq b' by rw[hb'];exact A2)]
   by_cases h2:k=j
   .erw[qw h2]
   .erw[qy h2,findL_none _ (show j∉qq R by rw[hR];exact A2),fi]
 unfold z32
 dsimp only
 by_cases hz:[D.lst l b',D.lst k R,i]=[D.lst l b,D.lst k R,i]
 .have hh:b'=b:=by injection hz with hz _;injection hz
  subst hh
  rw[qw rfl,g1,g2]
 .rw[qy hz,qw]
  .rw[e]
  .intro j _ hj
   rw[show findL j [D.lst l b',D.lst k R,i]=f2 l k b' R j from congrFun e j]
   erw[qq,labs,hb,hR,hi,l4,i9,l6,A2,or_false] at hj
   unfold f2
   rcases hj with rfl|rfl
   .simp
   .simp[h]
def z9C(rows:List Y3)(hw: ∀r∈rows,Wf r)(hr:rows.length<=60)(l k n:Nat)(c x M:Int)(hM:0<=M)(hM':M<=24)(hb:Bg c x)(hl:l<n)(hk:k<n)(hlk:k≠l): ∃(sn:List Int) (c' x':Int) (q n':Nat),sn.length<=24/\Bg c' x'/\n<=q/\q<n'/\K6 [.lst l [.int c, .int x], .lst k (rows.map rD), .int M] n= .ok (.lst q (sn.map .int)) [.lst l [.int c', .int x'], .lst k (rows.map rD), .int M] n':=by
 generalize hr:K6 [.lst l [.int c, .int x], .lst k (rows.map rD), .int M] n=r
 unfold K6 z25 at hr
 revert hr
 left
 have rr: ∀d,rp (pl l d) (.lst k (rows.map rD))= .lst k (rows.map rD):=λd=>W9 hlk
 obtain⟨w,c1,x1,hw0,hw1,b1,e1⟩:=Q9 l c x 3 n hb (by decide) (by decide)
 rw[e1,Y9 rfl rfl rfl (λq=>by left;try erw[rr];rfl) (λq=>by left;try erw[rr];rfl)]
 try (left)
 obtain⟨ms,o5,o6,o7,hm,lm,f5,f6,f7,e2⟩:=zh6 rows hw hr (.lst l [.int c1, .int x1]) k n M w hk (λd=>by rw[z0V ⋯];erw[U7,U4,G2])
 have g5:Fre o5:=λk d=>f5 (pl k d)
 have g6:Fre o6:=λk d=>f6 (pl k d)
 have g7:Fre o7:=λk d=>f7 (pl k d)
 rw[z68] at e2
 rw[e2]
 left
 have rm: ∀d,rp (pl l d) (.lst n (ms.map .int))= .lst n (ms.map .int):=λd=>G7 ⋯
 obtain⟨q2,c2,x2,hq2,hq2',b2,e3⟩:=Q9 l c1 x1 (M+1) (n+1) b1 ⋯ ⋯
 rw[e3,Y9 rfl rfl rfl (λq=>by left;try erw[rr,rm,g5 l,g6 l,g7 l];rfl) (λq=>by left;try erw[rr];rfl)]
 try (left)
 by_cases hw2:0<w
 .erw[show decide (w>0)=true from decide_eq_true hw2]
  left
  obtain⟨ks,c3,x3,p,n3,lk,b3,hp,hp',e4⟩:=z7C rows hw hr l k (n+1) c2 x2 b2 ⋯ ⋯ hlk
  rw[e4,z9B (show l≠k by lia) rfl rfl (z0x rows) rfl (by erw[Y4,W0,l7,E7,G2,z9z,z9A (show l≠k by lia),f5,f6,f7,zc9 (show l≠n by lia) (show k≠n by lia)]) (by erw[Y4,W0,l7,E7,G2,z9z,z9A (show l≠k by lia)])]
  left
  erw[Y4,W0,l7,E7,G2,z9z,z9A (show l≠k by lia),f5,f6,f7,zc9 (show l≠n by lia) (show k≠n by lia)]
  try (left)
  obtain⟨n4,hn4,e5⟩:=zaZ rows ks k n3 (.lst p (ks.map .int)) hw ⋯ ⋯ (.inl ⟨p,hp',rfl⟩)
  rw[e5]
  left
  have hcut:z4a ((V9 rows ks).1.map D.int) none (some q2)=((V9 rows ks).1.take q2.toNat).map D.int:=by
   have:=z2n (ws:=(V9 rows ks).1.map D.int) (l:=q2.toNat)
   rw[show((q2.toNat:Nat):Int)=q2 by lia] at this
   rw[this,R0]
  rw[hcut]
  intro hr
  subst hr
  exact⟨(V9 rows ks).1.take q2.toNat,c3,x3,n4,n4+1,by rw[A7];lia,b3,⋯,⋯,rfl⟩
 .erw[show decide (w>0)=false from decide_eq_false hw2]
  left
  rw[z1Q ⟨⋯,⋯⟩]
  left
  obtain⟨s',e6,ks,c3,x3,o10,o11,q,rfl,b3,hq,lk,f10,f11⟩:=z1B (P:=λi s=> ∃(ks:List Int) (c3 x3:Int) (o10 o11:Option D) (q:Nat),s=⟨[some (.lst l [.int c3, .int x3]),some (.lst k (rows.map rD)),some (.int M),some (.int w),some (.lst n (ms.map .int)),o5,o6,o7,some (.int q2),some (.lst (n+1) (ks.map .int)),o10,o11],[some (.lst l [.int c3, .int x3]),some (.lst k (rows.map rD)),some (.int M)],q⟩/\Bg c3 x3/\n+1<q/\ks.length=i/\Fre o10/\Fre o11) (lo:=0) (N:=q2.toNat) (g:= .nm 10) (b:=sbM) (by
   rintro i hi s ⟨ks,c3,x3,o10,o11,q,rfl,b3,hq,lk,f10,f11⟩
   refine⟨[some (.lst l [.int c3, .int x3]),some (.lst k (rows.map rD)),some (.int M),some (.int w),some (.lst n (ms.map .int)),o5,o6,o7,some (.int q2),some (.lst (n+1) (ks.map .int)),some (.int (0+(i:Int))),o11],rfl, ?_⟩
   obtain⟨v,c4,x4,u,q',b4,hq',e4⟩:=zjb rows l k n q c3 x3 (0+(i:Int)) M w ms ks o5 o6 o7 (some (.int q2)) o11 b3 hl hk hlk hq hm lm ⋯ g5 g6 g7 (z0n _) f11
   exact⟨_,e4,ks++[v],c4,x4,_,_,q',rfl,b4,⋯,by rw[l8,lk];rfl,z0n _,z0n _⟩) q2.toNat 0 ⟨[some (.lst l [.int c2, .int x2]),some (.lst k (rows.map rD)),some (.int M),some (.int w),some (.lst n (ms.map .int)),o5,o6,o7,some (.int q2),some (.lst (n+1) []),none,none],[some (.lst l [.int c2, .int x2]),some (.lst k (rows.map rD)),some (.int M)],n+1+1⟩ ⋯ ⟨[],c2,x2,none,none,n+1+1,rfl,b2,⋯,rfl,j5,j5⟩
  unfold sbM at e6
  rw[e6]
  left
  intro hr
  subst hr
  exact⟨ks,c3,x3,n+1,q,⋯,b3,⋯,⋯,rfl⟩
def z72{rows:List Y3}{R:List Int}{s:Int}(h:s∈(j0 rows R).1): ∃r∈rows,s∈r.2.1:=by
 unfold j0 at h
 cases e:z1c rows R with
 |none=>rw[e] at h;cases h
 |some r=>rw[e] at h;exact⟨r,(z0O e).1,h⟩
theorem z5B{rows:List Y3}{s:Int}: ∀(m:Nat) (R:List Int),s∈(J9 rows m R).1->∃r∈rows,s∈r.2.1
 |0,R,h=>by simp[J9] at h
 |m+1,R,h=>by
  unfold J9 at h
  split at h
  .cases h
  .rcases i9.mp h with h|h
   .exact z72 h
   .exact z5B m _ h
theorem z73{rows:List Y3}{s:Int}: ∀(m:Nat) (R:List Int),s∈(z2x rows m R).1->∃r∈rows,s∈r.2.1
 |0,R,h=>by simp[z2x] at h
 |m+1,R,h=>by
  unfold z2x at h
  split at h
  .cases h
  .rcases i9.mp h with h|h
   .exact z72 h
   .exact z73 m _ h
def zh7{rows:List Y3}{A B:List Int}{z:Int}(hz: ∀r∈rows,z∉r.2.1){p:Nat}(hp:p<=A.length){W:List Int}{e:Ent}(he:e∈z1g rows W):z9N (A++z::B) p e=z9N A p e:=by
 unfold z1g at he
 obtain⟨k,_,rfl⟩:=m5.mp he
 have hz':z∉(ent rows W k).2.1:=λh=>by
  obtain⟨r,hr,h⟩:=z5B _ _ h
  exact hz r hr h
 generalize (ent rows W k)=e at*
 unfold z9N
 rw[F9 hp]
 generalize A.drop p=X
 rcases R8 X.length e.2.1.length with h|h
 .rw[decide_eq_false,decide_eq_false]
  .intro h2
   have:=congrArg O0 h2
   rw[A7] at this;lia
  .intro h2
   apply hz'
   rw[<-h2]
   refine List.mem_take_iff_getElem.mpr ⟨X.length,by simp;lia,by simp⟩
 .rw[O1 h]
def zdV{rows:List Y3}{A B:List Int}{z:Int}(hz: ∀r∈rows,z∉r.2.1){g:Sg}(hp:g.1<=A.length):gl rows (A++z::B) g=gl rows A g:=by
 unfold gl zdK
 congr 2
 exact List.filter_congr λe he=>zh7 hz hp he
theorem zh8{rows:List Y3}(hw: ∀r∈rows,Wf r){A B:List Int}{z:Int}(hz: ∀r∈rows,z∉r.2.1): ∀n,runF' (gl rows (A++z::B)) n 0 F0=runF' (gl rows A) n 0 F0
 |0=>rfl
 |n+1=>by
  rw[z4H,z4H,zh8 hw hz n]
  obtain⟨_,h2⟩:=z5z hw (sn:=A) n
  generalize runF' (gl rows A) n 0 F0=F at*
  unfold proc
  cases e:F[n]? with
  |none=>rfl
  |some q=>
   show putF F q.2 (gl rows (A++z::B) q.1)=putF F q.2 (gl rows A q.1)
   rw[zdV hz (h2 q (List.mem_of_getElem? e)).1]
noncomputable def Ends(rows:List Y3)(sn:List Int)(g:Sg):Bool:=decide (V9 rows g.2=(sn.drop g.1,[]))
def zh9{rows:List Y3}{A B:List Int}{z:Int}(hz: ∀r∈rows,z∉r.2.1){g:Sg}(hp:g.1<=A.length):Ends rows (A++z::B) g=false:=by
 unfold Ends
 rw[decide_eq_false_iff_not]
 intro e
 have hm:z∈(V9 rows g.2).1:=by rw[e,F9 hp];simp
 obtain⟨r,hr,h⟩:=z73 _ _ hm
 exact hz r hr h
noncomputable def FdF(F:Fd)(vs:List D):D:= .fdc (ksF F) vs
def zha{R:Sg×Nat->D->Prop}{F:Fd}{vs:List D}(h:GV R F vs)(k:Nat)(d:D):rp (pl k d) (FdF F vs)=FdF F vs:=z0h (by erw[FdF,Mi.labs,z4G,h.labs];exact A2)
def zdW{R:Sg×Nat->D->Prop}{F:Fd}{vs:List D}{q:Sg×Nat}(h:GV R F vs)(hn:(F.map (·.1)).Nodup)(hq:q∈F): ∃v,R q v/\∀s:Stt,z2D (FdF F vs) (gD q.1) s= .ok v s:=by
 obtain⟨v,f,r,l⟩:=h.find hn hq
 refine⟨v,r,λs=> ?_⟩
 unfold z2D FdF
 erw[rdD,qw (z6l F),z1h,f]
 rfl
def zdX{rows:List Y3}{sn:List Int}{g:Sg}(h:(V9 rows g.2).2=[]):Ends rows sn g=decide ((V9 rows g.2).1=sn.drop g.1):=by
 unfold Ends
 exact decide_eq_decide.mpr ⟨λe=>by rw[e],λe=>by rw[<-e,<-h]⟩
noncomputable def feB:MS:=(Y2 (W3 (.tp [(.nm 5),(.nm 6)]) (Z8 K1 [(Z0 0),(Z0 4)]))
 (sIf (z7G (z9K (z0T (Z0 6))) (V3 (Z5 (Z0 5) (mSl (Z0 1) (some (Z0 3)) none) eqD))) (z0y (Z8 U3 [(Z0 2),(mCB [(Z0 3),(Z0 4)] U1)])) sNx))
noncomputable def kwB:MS:=(Y2 (v3 (u2 (Z0 2) [(Z0 5)] z5e)) (W3 (.tp [(.nm 3),(.nm 4),(.nm 5)]) (Z5 (Z0 0) (Z0 4) z2D)))
def zjc{F:Fd}{vs:List D}(hV:GV RP F vs)(hn:(F.map (·.1)).Nodup)(hq:((0,[]),0)∈F)(n:Nat):U3 [FdF F vs,gD (0,[])] n= .ok (.lst n []) [FdF F vs,gD (0,[])] (n+1):=by
 obtain⟨v,⟨x,y,rfl⟩,ev⟩:=zdW hV hn hq
 unfold U3
 have e0:z0a=(Y2 (W3 (.nm 2) (mCB [] lstM))
  (Y2 (W3 (.tp [(.nm 3),(.nm 4),(.nm 5)]) (Z5 (Z0 0) (Z0 1) z2D))
  (Y2 (z1H (λ_=>1000) (V3 (Z5 (Z0 3) (mC (.int 0)) gtD)) kwB)
  (Y2 (v3 (u2 (Z0 2) [] zel))
  (z0y (Z0 2)))))):=rfl
 rw[e0]
 left
 rw[ev]
 left
 rw[z9e]
 unfold G9
 left
 rw[show decide ((0:Int)<((0:Nat):Int))=false from rfl]
 left
 rw[show ∀s:Stt,zel (.lst n []) [] s= .ok .non (s.put n (.lst n [])) from λ_=>rfl]
 left
 erw[zha hV,zdQ]
def zjd(rows:List Y3)(hw: ∀r∈rows,Wf r)(sn:List Int)(hsn:sn.length<=25)(l ls:Nat)(F:Fd)(vs:List D)(q:Sg×Nat)(hq:q.1.2.length<=3)(m:Nat)(hl:l<m)(hE:Ends rows sn q.1=false)(o5 o6:Option D):
 ∃p5 p6 m',m<=m'/\feB ⟨[some (.lst l (rows.map rD)),some (.lst ls (sn.map .int)),some (FdF F vs),some (.int q.1.1),some (.tup (q.1.2.map .int)),o5,o6],[some (FdF F vs),some (.lst l (rows.map rD)),some (.lst ls (sn.map .int))],m⟩= .nx ⟨[some (.lst l (rows.map rD)),some (.lst ls (sn.map .int)),some (FdF F vs),some (.int q.1.1),some (.tup (q.1.2.map .int)),p5,p6],[some (FdF F vs),some (.lst l (rows.map rD)),some (.lst ls (sn.map .int))],m'⟩:=by
 have ep:=z9x rows q.1.2 l m hw ⋯ ⋯
 have hlen:=z6T hw q.1.2.length q.1.2 (i8 _)
 refine⟨some (.lst m ((V9 rows q.1.2).1.map .int)),some (.lst (m+1) ((V9 rows q.1.2).2.map .int)),if(V9 rows q.1.2).2=[] then m+3 else m+2,by split<;>lia, ?_⟩
 unfold feB
 left
 rw[ep]
 left
 cases hL:(V9 rows q.1.2).2 with
 |cons a L=>
  erw[i6,u07]
  left
  rw[qy (R7 a L)]
 |nil=>
  rw[zdX hL] at hE
  erw[m8,M7]
  left
  rw[z3R,z9f,z9p ⋯ (by rw[B8];lia),hE]
  left
  rfl
def zdY(rows:List Y3)(hw: ∀r∈rows,Wf r)(hr:rows.length<=40)(sn:List Int)(hsn:sn.length<=25)(l ls n:Nat)(hl:l<n)(hs:ls<n)(N:Nat)(hN:N<=5000)(hend:(runF' (gl rows sn) N 0 F0).length=N)(hgo: ∀i,i<N->i<(runF' (gl rows sn) i 0 F0).length)(hE: ∀q∈runF' (gl rows sn) N 0 F0,Ends rows sn q.1=false):
 ∃n',n<n'/\W5 [.lst l (rows.map rD), .lst ls (sn.map .int)] n= .ok .non [.lst l (rows.map rD), .lst ls (sn.map .int)] n':=by
 obtain⟨vs,n1,hn1,hV,e1⟩:=z6m rows hw hr sn hsn l ls n hl hs N hN hend hgo
 obtain⟨ok1,ok2⟩:=z5z hw (sn:=sn) N
 generalize runF' (gl rows sn) N 0 F0=F at*
 unfold W5
 have e0:V8=(Y2 (W3 (.nm 2) (Z8 v7 [(Z0 0),(Z0 1)]))
  (Y2 (z1p (z0U (Z0 2)) (.tp [(.nm 3),(.nm 4)]) feB)
  (z0y (mC .non)))):=rfl
 rw[e0]
 left
 rw[e1]
 left
 have hi:z0U (Z0 2) ⟨[some (.lst l (rows.map rD)),some (.lst ls (sn.map .int)),some (.dct n (ksF F) vs),none,none,none,none],[some (.lst l (rows.map rD)),some (.lst ls (sn.map .int))],n1⟩= .ok z3K ⟨[some (.lst l (rows.map rD)),some (.lst ls (sn.map .int)),some (FdF F vs),none,none,none,none],[some (FdF F vs),some (.lst l (rows.map rD)),some (.lst ls (sn.map .int))],n1⟩:=by
  unfold z0U
  left
  show(if isT (ksF F)=true/\qq vs=[] then _ else _)=_
  rw[qw ⟨z6l F,hV.labs⟩]
  erw[z1P,Y4,W0,l7,E7,W9 (show l≠n by lia),G7 (show ls≠n by lia),z5x]
  rfl
 rw[hi,z7v]
 have lk:(ksF F).length=F.length:=by simp[ksF]
 obtain⟨s',e,p3,p4,p5,p6,m,hm,rfl⟩:=z6j (K:=z3K) (g:= .tp [(.nm 3),(.nm 4)]) (b:=feB) (item:=λi=>(ksF F).getD i .non) (N:=F.length) (P:=λ_ s=> ∃(p3 p4 p5 p6:Option D) (m:Nat),n1<=m/\s=⟨[some (.lst l (rows.map rD)),some (.lst ls (sn.map .int)),some (FdF F vs),p3,p4,p5,p6],[some (FdF F vs),some (.lst l (rows.map rD)),some (.lst ls (sn.map .int))],m⟩)
  (by rintro i s ⟨_,_,_,_,_,_,rfl⟩;unfold FdF;rw[zj6,lk]) (by
   rintro i hiF s ⟨p3,p4,p5,p6,m,hm,rfl⟩
   have ei:(ksF F).getD i .non=gD F[i].1:=by simp[ksF,hiF]
   rw[ei]
   refine⟨_,rfl, ?_⟩
   have hmem:=C3 hiF
   obtain⟨q5,q6,m',hm',e⟩:=zjd rows hw sn hsn l ls F vs F[i] (z4E hw (ok2 _ hmem).2) m ⋯ (hE _ hmem) p5 p6
   exact⟨_,e,_,_,q5,q6,m',⋯,rfl⟩) F.length 0 ⟨[some (.lst l (rows.map rD)),some (.lst ls (sn.map .int)),some (FdF F vs),none,none,none,none],[some (FdF F vs),some (.lst l (rows.map rD)),some (.lst ls (sn.map .int))],n1⟩ ⋯ ⟨none,none,none,none,n1,i8 _,rfl⟩
 rw[show z3K.len [some (FdF F vs),some (.lst l (rows.map rD)),some (.lst ls (sn.map .int))]=F.length from lk,e]
 show ∃n',_
 rw[show z3K.k=1 from rfl,px1]
 left
 exact⟨m,⋯,rfl⟩
def zdZ(rows:List Y3)(hw: ∀r∈rows,Wf r)(hr:rows.length<=40)(l ls n:Nat)(hl:l<n)(hs:ls<n):
 ∃k n',n<k/\k<n'/\W5 [.lst l (rows.map rD), .lst ls []] n= .ok (.lst k []) [.lst l (rows.map rD), .lst ls []] n':=by
 obtain⟨N,hN,hend,hgo⟩:=z9m (gl:=gl rows []) (F:=F0) (B:=5000) λm=>z3p hw hr (sn:=[]) (by simp) m
 obtain⟨vs,n1,hn1,hV,e1⟩:=z6m rows hw hr [] (by simp) l ls n hl hs N hN hend hgo
 obtain⟨ok1,ok2⟩:=z5z hw (sn:=[]) N
 obtain⟨A,hA⟩:=z4C (gl:=gl rows []) N 0 F0
 have hF:runF' (gl rows []) N 0 F0=((0,[]),0)::A:=by rw[hA];rfl
 generalize runF' (gl rows []) N 0 F0=F at*
 erw[m8] at e1
 have hm:((0,[]),0)∈F:=by rw[hF];exact l5
 have hk:=λm=>zjc hV ok1 hm m
 have lk:(ksF F).length=A.length+1:=by rw[hF];simp[ksF]
 have hat:z3K.at' 0 [some (FdF F vs),some (.lst l (rows.map rD)),some (.lst ls [])]=some (some (gD (0,[]))):=by
  show some (ksF F)[0]? =_
  rw[hF];rfl
 have ep:=z9x rows [] l n1 hw (by simp) ⋯
 erw[z1d,m8] at ep
 unfold W5
 have e0:V8=(Y2 (W3 (.nm 2) (Z8 v7 [(Z0 0),(Z0 1)]))
  (Y2 (z1p (z0U (Z0 2)) (.tp [(.nm 3),(.nm 4)]) feB)
  (z0y (mC .non)))):=rfl
 rw[e0]
 left
 rw[e1]
 left
 have hi:z0U (Z0 2) ⟨[some (.lst l (rows.map rD)),some (.lst ls []),some (.dct n (ksF F) vs),none,none,none,none],[some (.lst l (rows.map rD)),some (.lst ls [])],n1⟩= .ok z3K ⟨[some (.lst l (rows.map rD)),some (.lst ls []),some (FdF F vs),none,none,none,none],[some (FdF F vs),some (.lst l (rows.map rD)),some (.lst ls [])],n1⟩:=by
  unfold z0U
  left
  show(if isT (ksF F)=true/\qq vs=[] then _ else _)=_
  rw[qw ⟨z6l F,hV.labs⟩]
  erw[z1P,Y4,W0,l7,E7,W9 (show l≠n by lia),z0V (show ls≠n by lia),U4,z5x]
  rfl
 rw[hi,z7v]
 have hb:feB ⟨[some (.lst l (rows.map rD)),some (.lst ls []),some (FdF F vs),some (.int 0),some (.tup []),none,none],[some (FdF F vs),some (.lst l (rows.map rD)),some (.lst ls [])],n1⟩= .rt (.lst (n1+3) []) ⟨[some (.lst l (rows.map rD)),some (.lst ls []),some (FdF F vs),some (.int 0),some (.tup []),some (.lst n1 []),some (.lst (n1+1) [])],[some (FdF F vs),some (.lst l (rows.map rD)),some (.lst ls [])],n1+4⟩:=by
  have e3: ∀s:Stt,eqD (.lst n1 []) (.lst (n1+2) (z4a [] (some 0) none)) s= .ok (.bool true) s:=λs=>by
   rw[show z4a ([]:List D) (some 0) none=([]:List Int).map D.int from z3R (l:=0),show D.lst n1 []= .lst n1 (([]:List Int).map .int) from rfl,z9p (by simp) (by simp)]
   rfl
  unfold feB
  left
  rw[ep]
  left
  erw[M7]
  left
  rw[e3]
  left
  rw[show D.tup [.int 0, .tup []]=gD (0,[]) from rfl,hk]
  left
 have hgo:forGo z3K (.tp [(.nm 3),(.nm 4)]) feB (A.length+1) 0 ⟨[some (.lst l (rows.map rD)),some (.lst ls []),some (FdF F vs),none,none,none,none],[some (FdF F vs),some (.lst l (rows.map rD)),some (.lst ls [])],n1⟩= .rt (.lst (n1+3) []) ⟨[some (.lst l (rows.map rD)),some (.lst ls []),some (FdF F vs),some (.int 0),some (.tup []),some (.lst n1 []),some (.lst (n1+1) [])],[some (.lst l (rows.map rD)),some (.lst ls [])],n1+4⟩:=by
  unfold forGo
  erw[hat]
  show(match feB ⟨[some (.lst l (rows.map rD)),some (.lst ls []),some (FdF F vs),some (.int 0),some (.tup []),none,none],[some (FdF F vs),some (.lst l (rows.map rD)),some (.lst ls [])],n1⟩ with
   | .nx s'=>_
   | .ct s'=>_
   | .bk s'=>_
   | .rt d s'=>_
   | .ex d s'=>_
   | .no=>_)=_
  rw[hb]
  rfl
 rw[show z3K.len [some (FdF F vs),some (.lst l (rows.map rD)),some (.lst ls [])]=A.length+1 from lk,hgo]
 left
 exact⟨n1+3,n1+4,⋯,⋯,rfl⟩
def ze0{n k:Nat}{rows:List Y3}(h:k<n):UpO n (some (.lst k (rows.map rD))):=by rintro _ ⟨⟩ j hj;erw[Mi.labs,z0x,l6,A2,or_false] at hj;lia
def ze1{n k:Nat}{ns:List Int}(h:k<n):UpO n (some (.lst k (ns.map .int))):=by rintro _ ⟨⟩ j hj;erw[Mi.labs,Y5,l6,A2,or_false] at hj;lia
def z9D{n:Nat}{i:Int}:UpO n (some (.int i)):=by rintro _ ⟨⟩ j hj;erw[Mi.labs,A2] at hj
def ze2{n:Nat}{ns:List Int}:UpO n (some (.tup (ns.map .int))):=by rintro _ ⟨⟩ j hj;erw[Mi.labs,Y5,A2] at hj
noncomputable def knI:MS:=z1p (v4 (Z0 9)) (.nm 11) (z4c (mC (.bool true)) (Z0 7) (Z0 11) z5k)
noncomputable def Uj(j:Nat)(os:Qq):Prop:= ∀d,rpO (pl j d) os=os
theorem z9E(k:Int): ∀ks:List Int,(z2s (ks.map D.int) (ks.map λ_=>D.bool true) (.inl k)).isSome=decide (k∈ks)
 |[]=>rfl
 |x::ks=>by
  erw[i6,z2s,X2,Option.some.injEq,Sum.inl.injEq]
  by_cases h:x=k
  .subst h;simp
  .rw[qy h,z9E k ks]
   have:k≠x:=λe=>h e.symm
   simp[this]
def ze3{j:Nat}{ks:List Int}{k:Int}{s:Stt}:z4i (.int k) (kkD j ks) s= .ok (.bool (!decide (k∈ks))) s:=by
 erw[z4i,kkD,rdP,X2,z9E]
 rfl
noncomputable def oth(ks:List Int):List Int:=((B5 40).map λ(i:Nat)=>(i:Int)).filter λi=> !decide (i∈ks)
def ze4{ks:List Int}{z:Int}(h:z∈oth ks):z∉ks:=by
 unfold oth at h
 have:=(O4.mp h).2
 simpa using this
def ze5{ks:List Int}(hn:ks.Nodup)(hk: ∀k∈ks,0<=k/\k<40)(h:ks.length≠40):0<(oth ks).length:=by
 rcases u01 (oth ks).length with e|e
 .exfalso
  have e0:=C8 e
  unfold oth at e0
  rw[List.filter_eq_nil_iff] at e0
  have n40:((B5 40).map λ(i:Nat)=>(i:Int)).Nodup:=by decide
  have:=z2G n40 (ys:=ks) λz hz=>by
   have:=e0 z hz
   simpa using this
  have h2:=zc5 hn hk
  simp at this
  lia
 .exact e
def zhb{c0 c1 c2 c3 c4 c5 c6 o8 o10 o12 o13 o14:Option D}{j n:Nat}{r:Y3}(hr: ∀s∈r.2.1,0<=s/\s<40){ks:List Int}(hn:ks.Nodup)(hk: ∀k∈ks,0<=k/\k<40)(hu:Uj j [c0,c1,c2,c3,c4,c5,c6,o8,o10,o12,o13,o14])(o11:Option D)(h11:UpO j o11)(tm:Qq)(ht:Uj j tm):
 ∃ks' p11,ks'.Nodup/\(∀k∈ks',0<=k/\k<40)/\(∀k,k∈ks'↔k∈ks\/k∈r.2.1)/\UpO j p11/\knI ⟨[c0,c1,c2,c3,c4,c5,c6,some (kkD j ks),o8,some (tI r.2.1),o10,o11,o12,o13,o14],tm,n⟩= .nx ⟨[c0,c1,c2,c3,c4,c5,c6,some (kkD j ks'),o8,some (tI r.2.1),o10,p11,o12,o13,o14],tm,n⟩:=by
 have hi:v4 (Z0 9) ⟨[c0,c1,c2,c3,c4,c5,c6,some (kkD j ks),o8,some (tI r.2.1),o10,o11,o12,o13,o14],tm,n⟩= .ok zbJ ⟨[c0,c1,c2,c3,c4,c5,c6,some (kkD j ks),o8,some (tI r.2.1),o10,o11,o12,o13,o14],some (tI r.2.1)::tm,n⟩:=zgT (by left)
 have u:=λd=>hu d
 erw[Y4,W0,List.cons.injEq,and_true] at u
 unfold knI
 rw[z68,hi,z7v]
 obtain⟨s',e,ks',p11,g1,g2,g3,g4,rfl⟩:=z6j (K:=zbJ) (g:= .nm 11) (b:=z4c (mC (.bool true)) (Z0 7) (Z0 11) z5k) (item:=λi=>(r.2.1.map D.int).getD i .non) (N:=r.2.1.length) (P:=λi s=> ∃ks' p11,ks'.Nodup/\(∀k∈ks',0<=k/\k<40)/\(∀k,k∈ks'↔k∈ks\/k∈r.2.1.take i)/\UpO j p11/\s=⟨[c0,c1,c2,c3,c4,c5,c6,some (kkD j ks'),o8,some (tI r.2.1),o10,p11,o12,o13,o14],some (tI r.2.1)::tm,n⟩)
  (by rintro i s ⟨_,_,_,_,_,_,rfl⟩;rw[zj5,l0]) (by
   rintro i hi s ⟨ks',p11,g1,g2,g3,g4,rfl⟩
   have ei:(r.2.1.map D.int).getD i .non= .int r.2.1[i]:=by simp[hi]
   rw[ei]
   refine⟨_,rfl,_, ?_,z9O ks' r.2.1[i],some (.int r.2.1[i]),zdM g1,λk hk'=> ?_,λk=> ?_,z9D,rfl⟩
   .left
    rw[zgQ (by have:=zc5 g1 g2;lia)]
    erw[z1P,Y4,W0,l7,zgR,G2,z28,ht _,(u _).1,(u _).2.1,(u _).2.2.1,(u _).2.2.2.1,(u _).2.2.2.2.1,(u _).2.2.2.2.2.1,(u _).2.2.2.2.2.2.1,(u _).2.2.2.2.2.2.2.1,(u _).2.2.2.2.2.2.2.2.1,(u _).2.2.2.2.2.2.2.2.2.1,(u _).2.2.2.2.2.2.2.2.2.2.1,(u _).2.2.2.2.2.2.2.2.2.2.2]
   .rcases z6X.mp hk' with h|h
    .exact g2 k h
    .rw[h];exact hr _ (C3 hi)
   .rw[z6X,g3,C9,List.getElem?_eq_getElem hi,D7,i9,m4,or_assoc]) r.2.1.length 0 ⟨[c0,c1,c2,c3,c4,c5,c6,some (kkD j ks),o8,some (tI r.2.1),o10,o11,o12,o13,o14],some (tI r.2.1)::tm,n⟩ ⋯ ⟨ks,o11,hn,hk,λk=>by simp,h11,rfl⟩
 dsimp only
 rw[show zbJ.len (some (tI r.2.1)::tm)=r.2.1.length by show(r.2.1.map D.int).length=_;simp,e]
 refine⟨ks',p11,g1,g2,λk=> ?_,g4,rfl⟩
 rw[g3,B4 (i8 _)]
def zje{c0 c1 c2 c4 c5 c6 o12 o13 o14:Option D}{j n l:Nat}{rows:List Y3}(hl:l≠j)(hr: ∀r∈rows,∀s∈r.2.1,0<=s/\s<40)(hu:Uj j [c0,c1,c2,c4,c5,c6,o12,o13,o14])(o8 o9 o10 o11:Option D)(h8:UpO j o8)(h9:UpO j o9)(h10:UpO j o10)(h11:UpO j o11)(tm:Qq)(ht:Uj j tm):
 ∃ks p8 p9 p10 p11,ks.Nodup/\(∀k∈ks,0<=k/\k<40)/\(∀r∈rows,∀s∈r.2.1,s∈ks)/\(UpO j p8/\UpO j p9/\UpO j p10/\UpO j p11)/\z1p (v4 (Z0 3)) (.tp [(.nm 8),(.nm 9),(.nm 10)]) knI ⟨[c0,c1,c2,some (.lst l (rows.map rD)),c4,c5,c6,some (kkD j []),o8,o9,o10,o11,o12,o13,o14],tm,n⟩= .nx ⟨[c0,c1,c2,some (.lst l (rows.map rD)),c4,c5,c6,some (kkD j ks),p8,p9,p10,p11,o12,o13,o14],tm,n⟩:=by
 rw[z68,z2m (l:=l) (ds:=rows.map rD) (σ:=[c0,c1,c2,some (.lst l (rows.map rD)),c4,c5,c6,some (kkD j []),o8,o9,o10,o11,o12,o13,o14]) (tm:=tm) (n:=n) (by left),z7v]
 obtain⟨s',e,ks,p8,p9,p10,p11,g1,g2,g3,g4,rfl⟩:=z1l (P:=λi s=> ∃ks p8 p9 p10 p11,ks.Nodup/\(∀k∈ks,0<=k/\k<40)/\(∀r∈rows.take i,∀s∈r.2.1,s∈ks)/\(UpO j p8/\UpO j p9/\UpO j p10/\UpO j p11)/\s=⟨[c0,c1,c2,some (.lst l (rows.map rD)),c4,c5,c6,some (kkD j ks),p8,p9,p10,p11,o12,o13,o14],some (.lst l (rows.map rD))::tm,n⟩) (l:=l) (ds:=rows.map rD) (g:= .tp [(.nm 8),(.nm 9),(.nm 10)]) (tm:=tm) (b:=knI)
  (by rintro i s ⟨_,_,_,_,_,_,_,_,_,rfl⟩;rfl) (by
   rintro i d hd s ⟨ks,p8,p9,p10,p11,g1,g2,g3,g4,rfl⟩
   rw[List.getElem?_map] at hd
   cases hx:rows[i]? with
   |none=>rw[hx] at hd;cases hd
   |some r=>
    rw[hx] at hd
    cases hd
    have u:=λd=>hu d
    erw[Y4,W0,List.cons.injEq,and_true] at u
    obtain⟨ks',q11,z1,z2,z3,z4,e⟩:=zhb (j:=j) (c0:=c0) (c1:=c1) (c2:=c2) (c3:=some (.lst l (rows.map rD))) (c4:=c4) (c5:=c5) (c6:=c6) (o8:=some (tI r.1)) (o10:=some (tI r.2.2)) (o12:=o12) (o13:=o13) (o14:=o14) (n:=n) (hr r (List.mem_of_getElem? hx)) g1 g2 (λd=>by
     erw[Y4,W0,l7,W9 hl,z28,(u d).1,(u d).2.1,(u d).2.2.1,(u d).2.2.2.1,(u d).2.2.2.2.1,(u d).2.2.2.2.2.1,(u d).2.2.2.2.2.2.1,(u d).2.2.2.2.2.2.2.1,(u d).2.2.2.2.2.2.2.2]) p11 g4.2.2.2 (some (.lst l (rows.map rD))::tm) (λd=>by rw[Y4,ht d,l7,W9 hl])
    refine⟨_,rfl,_,e,ks',some (tI r.1),some (tI r.2.1),some (tI r.2.2),q11,z1,z2,λr' hr' s hs=> ?_,⟨ze2,ze2,ze2,z4⟩,rfl⟩
    .rw[C9,hx,D7,i9,m4] at hr'
     rw[z3]
     rcases hr' with h|rfl
     .exact .inl (g3 r' h s hs)
     .exact .inr hs) rows.length 0 ⟨[c0,c1,c2,some (.lst l (rows.map rD)),c4,c5,c6,some (kkD j []),o8,o9,o10,o11,o12,o13,o14],some (.lst l (rows.map rD))::tm,n⟩ (by simp) ⟨[],o8,o9,o10,o11, .nil,(λ_ h=>nomatch h),(by simp),⟨h8,h9,h10,h11⟩,rfl⟩
 dsimp only
 rw[show kLst.len (some (.lst l (rows.map rD))::tm)=rows.length by show(rows.map rD).length=_;simp,e,px1]
 rw[l0,B4 (i8 _)] at g3
 exact⟨ks,p8,p9,p10,p11,g1,g2,g3,g4,rfl⟩
noncomputable def noS(r:Y3):Y3:=(r.1,[],r.2.2)
def zhc{r:Y3}(h:Wf r):Wf (noS r):=⟨h.1,h.2.1,B7 _,h.2.2.2.1,h.2.2.2.2⟩
noncomputable def gfN:D->D
 | .tup [a,_,c]=> .tup [a, .tup [],c]
 |d=>d
noncomputable def fr3:D->Qq
 | .tup [a,b,c]=>[some a,some b,some c]
 |_=>[none,none,none]
def zhd{rows:List Y3}(hz:rows.length<=60){l n:Nat}{σ tm:Qq}(h3:σ[3]? =some (some (.lst l (rows.map rD)))):
 ∃n',n<=n'/\J3 (v4 (Z0 3)) (.tp [(.nm 0),(.nm 1),(.nm 2)]) (rt true) (mCB [(Z0 0),(mCB [] U1),(Z0 2)] U1) 3 [] ⟨σ,tm,n⟩= .ok (.lst n' ((rows.map noS).map rD)) ⟨σ,tm,n'+1⟩:=by
 obtain⟨n',h1,h2⟩:=z3r (mi:=v4 (Z0 3)) (K:=kLst) (g:= .tp [(.nm 0),(.nm 1),(.nm 2)]) (me:=mCB [(Z0 0),(mCB [] U1),(Z0 2)] U1) (gf:=gfN) (fr:=fr3) (k:=3) (items:=rows.map rD) (its:=[some (.lst l (rows.map rD))]) (ix:=[]) (s:=⟨σ,tm,n⟩) (σ:=σ) (tm:=tm) (n:=n) (z2m (by left;rw[h3];left;rfl)) rfl (by rw[zl,l0];lia) (λi rest=>rfl) rfl (λd hd pre hp=>by
  obtain⟨r,_,rfl⟩:=m5.mp hd
  match pre,hp with
  |[a,b,c],_=>rfl) (λd hd=>by
  obtain⟨r,_,rfl⟩:=m5.mp hd
  rfl) (λd hd tm m=>by
  obtain⟨r,_,rfl⟩:=m5.mp hd
  refine⟨m,i8 _, ?_⟩
  show mCB [(Z0 0),(mCB [] U1),(Z0 2)] U1 ⟨[some (tI r.1),some (tI r.2.1),some (tI r.2.2)],tm,m⟩= .ok (rD (noS r)) ⟨[some (tI r.1),some (tI r.2.1),some (tI r.2.2)],tm,m⟩
  left
  rfl)
 refine⟨n',h1, ?_⟩
 rw[h2,C7,C7]
 rfl
def zhe{ks:List Int}{j n:Nat}{σ tm:Qq}(h7:σ[7]? =some (some (kkD j ks))):
 ∃n',n<=n'/\J3 (V4 [(mC (.int 40))]) (.nm 0) (V3 (Z5 (Z0 0) (Z0 1) z4i)) (Z0 0) 1 [7] ⟨σ,tm,n⟩= .ok (.lst n' ((oth ks).map .int)) ⟨σ,tm,n'+1⟩:=by
 have mem: ∀d∈z0s 0 40,∃i:Nat,d= .int (i:Int):=λd hd=>by
  obtain⟨i,_,rfl⟩:=m5.mp hd
  exact⟨i,by simp⟩
 obtain⟨n',h1,h2⟩:=z7x (ms:=[mC (.int 40)]) (mt:=V3 (Z5 (Z0 0) (Z0 1) z4i)) (me:=Z0 0) (p:=λd=> !decide (ofI d∈ks)) (g:=id) (N:=40) (ix:=[7]) (s:=⟨σ,tm,n⟩) (σ:=σ) (tm:=tm) (n:=n) (by left;rfl) (by decide) (λd hd tm m=>by
  obtain⟨i,rfl⟩:=mem d hd
  refine⟨m,i8 _, ?_⟩
  erw[i6,m8,h7,B2]
  left
  rw[ze3]
  rfl) (λd hd _ tm m=>⟨m,i8 _,by
  obtain⟨i,rfl⟩:=mem d hd
  erw[i6,m8,h7,B2]
  left
  rfl⟩)
 refine⟨n',h1, ?_⟩
 rw[h2,List.map_id]
 have e:(z0s 0 40).filter (λd=> !decide (ofI d∈ks))=(oth ks).map .int:=by
  have e1:z0s 0 40=((B5 40).map λ(i:Nat)=>(i:Int)).map D.int:=by
   erw[z0s,C7]
   exact D1 λi _=>by simp
  rw[e1,List.filter_map]
  rfl
 rw[e]
def zhf{n k:Nat}{i:Int}:Rs n (.int i)=true/\(er (.int i)).depth<=k:=⟨rfl,by simp[er,PyData.depth]⟩
def z4J{n:Nat}{ns:List Int}: ∀e∈ns.map D.int,Rs n e=true/\(er e).depth<=0:=λe he=>by obtain⟨i,_,rfl⟩:=m5.mp he;exact zhf
def zjf{r:Y3}(h:Wf r):Rs 0 (rD r)=true/\(er (rD r)).depth<=2:=z6Q (by simp) λe he=>by
 obtain⟨h1,h2,h3,h4,h5⟩:=h
 erw[l6,A2,or_false] at he
 rcases he with rfl|rfl|rfl
 .exact z6Q (by rw[l0];lia) z4J
 .exact z6Q (by rw[l0];lia) z4J
 .exact z6Q (by rw[l0];lia) z4J
def zhg{k a b:Nat}{rows:List Y3}{sn:List Int}(hw: ∀r∈rows,Wf r)(h:rows.length<=60)(hs:sn.length<=60):Rs 0 (.lst k [.lst a (rows.map rD), .lst b (sn.map .int)])=true/\(er (.lst k [.lst a (rows.map rD), .lst b (sn.map .int)])).depth<=4:=z6R (B7 _) (by simp) λe he=>by
 erw[l6,A2,or_false] at he
 rcases he with rfl|rfl
 .refine z6R (B7 _) (by rw[l0];lia) λe he=> ?_
  obtain⟨r,hr,rfl⟩:=m5.mp he
  exact zjf (hw r hr)
 .obtain⟨h1,h2⟩:=z6R (n:=0) (l:=b) (k:=0) (B7 _) (by rw[l0];lia) (z4J (n:=0) (ns:=sn))
  exact⟨h1,⋯⟩
def ze6{ds:List D}{d:D}(h:d∈z2t ds):d∈ds:=by
 unfold z2t at h
 obtain⟨i,hi,rfl⟩:=m5.mp h
 have:=So.perm_lt i hi
 simp[this]
def ze7{ds:List D}:(z2t ds).length=ds.length:=by
 unfold z2t
 rw[l0,So.perm_len]
theorem zca: ∀{ds:List D},(∀d∈ds,Gd d)->GdL ds
 |[],_=>z2a
 |d::ds,h=>GdL.cons.mpr ⟨h d l5,zca λe he=>h e (i5 _ he)⟩
theorem zcb: ∀{ds:List D} {k:Nat},(∀d∈ds,(er d).depth<=k)->PyData.depthAll (erL ds)<=k+1
 |[],_,_=>by simp[erL,PyData.depthAll]
 |d::ds,k,h=>by
  have h1:=h d l5
  have h2:=zcb (ds:=ds) (k:=k) λe he=>h e (i5 _ he)
  erw[erL,PyData.depthAll]
  lia
def z9F(q:Sg×Nat):(er (stD q)).depth<=10:=by
 have: ∀ns:List Int,PyData.depthAll (ns.map PyData.int)<=1:=λns=>by
  induction ns with
  |nil=>simp[PyData.depthAll]
  |cons n ns ih=>erw[i6,PyData.depthAll,PyData.depth];lia
 have h1:=this q.1.2
 rw[z5A]
 erw[PyData.depth,PyData.depthAll]
 lia
def z2b{F:Fd}{d:D}(h:d∈z2t (stL F)): ∃q∈F,d=stD q:=by
 obtain⟨q,hq,rfl⟩:=m5.mp (ze6 h)
 exact⟨q,hq,rfl⟩
def z4K(F:Fd)(l:Nat):Gd (.lst l (z2t (stL F)))/\(er (.lst l (z2t (stL F)))).depth<=60:=by
 refine⟨Gd.lst.mpr (zca λd hd=> ?_), ?_⟩
 .obtain⟨q,_,rfl⟩:=z2b hd
  exact z70 q
 .have:=zcb (ds:=z2t (stL F)) (k:=10) λd hd=>by
   obtain⟨q,_,rfl⟩:=z2b hd
   exact z9F q
  erw[er,PyData.depth]
  lia
def ze8(F:Fd):qq (z2t (stL F))=[]:=G6 λd hd=>by
 obtain⟨q,_,rfl⟩:=z2b hd
 erw[stD,Mi.labs,qq,Y5,l4]
def z0P{n m:Nat}{o:Option D}(h:UpO n o)(hm:n<=m):UpO m o:=λd e k hk=>t7 (h d e k hk) hm
def ze9{ns:List Int}{l k:Nat}{A B:List D}:rp (f2 l k A B) (.ro (ns.map .int))= .ro (ns.map .int):=by erw[rp,z71]
def z9G{n l k:Nat}{A B:List D}{o:Option D}(h:UpO n o)(hl:n<=l)(hk:n<=k):B6 (rp (f2 l k A B)) o=o:=by
 cases o with
 |none=>rfl
 |some t=>
  rw[l7,z8z t λj hj=>by
   have:=h t rfl j hj
   unfold f2
   rw[qy ⋯,qy ⋯]]
def zjg{n h h1 h2:Nat}{rows:List Y3}{sn:List Int}(a:h<n)(b:h1<n)(c:h2<n):UpO n (some (.lst h [.lst h1 (rows.map rD), .lst h2 (sn.map .int)])):=by
 rintro _ ⟨⟩ j hj
 erw[Mi.labs,qq,z0x,Y5,l4,B3,A4,l6,A2,or_false] at hj
 lia
def zhh(ds:List D):(z2t ds).Perm ds:=by
 unfold z2t
 have h:=(So.perm_pm (n:=ds.length) (cmp:=zcS (erL ds))).map λi=>ds.getD i .non
 have e:((B5 ds.length).map λi=>ds.getD i .non)=ds:=by
  refine List.ext_getElem (by simp) λi h1 h2=> ?_
  simp[h2]
 rwa [e] at h
theorem z74{α:Type}: ∀xs:List α,z0r (xs.map λ_=>D.bool false)=some (xs.map λ_=>false)
 |[]=>rfl
 |x::xs=>by erw[i6,z0r,z74 xs];rfl
def zea{α:Type}{l:Nat}{xs:List α}{s:Stt}:zan [.lst l (xs.map λ_=>D.bool false)] s= .ok (.bool false) s:=by
 rw[zgv (z74 xs)]
 congr 2
 simp
theorem z9H: ∀ds:List D,erL ds=ds.map er
 |[]=>rfl
 |d::ds=>by erw[erL,i6,z9H ds]
def zhi{F:Fd}{l:Nat}{q:Sg×Nat}(h:q∈F){s:Stt}:zbF (stD q) (.lst l (z2t (stL F))) s= .ok (.bool false) s:=by
 have g:=Gd.lst.mp (z4K F l).1
 have gq:=z70 q
 have dq:=z9F q
 rw[ziH (ds:=z2t (stL F)) rfl (by
  erw[inC,gq.1,gq.2,g.1,g.2,T1,L4,decide_eq_true_eq]
  have:=u08 (PyData.depthAll (erL (z2t (stL F)))) (er (stD q)).depth
  lia)]
 congr 2
 rw[T8,R6]
 have hm:stD q∈z2t (stL F):=(zhh _).mem_iff.mpr (m5.mpr ⟨q,h,rfl⟩)
 exact⟨er (stD q),by rw[z9H];exact m5.mpr ⟨_,hm,rfl⟩,PySem.SeqAt.eqv_refl _ gq.2⟩
noncomputable def tlM:MS:=(Y2 (W3 (.nm 12) (J3 (V4 [(mC (.int 40))]) (.nm 0) (V3 (Z5 (Z0 0) (Z0 1) z4i)) (Z0 0) 1 [7]))
 (Y2 (W3 (.nm 9) (Z5 (Z5 (mSl (Z0 4) none (some (Z0 5))) (mCB [(Z5 (Z0 12) (Z5 (Z0 6) (mCB [(Z0 12)] X8) z2f) ixD)] lstM) X9) (mSl (Z0 4) (some (Z0 5)) none) X9))
 (Y2 (W3 (.nm 13) (mCB [(mCB [(Z0 3)] z3w),(mCB [(Z0 9)] z3w)] lstM))
 (Y2 (sIf (mOr (V3 (Z5 (Z8 W5 [(Z5 (Z0 13) (mC (.int 0)) ixD),(Z5 (Z0 13) (mC (.int 1)) ixD)]) (mC .non) zeh)) (V3 (Z5 (Z8 W5 [(Z0 3),(mCB [] lstM)]) (mCB [] lstM) neD))) (z0y (mC (.bool false))) sNx)
 (Y2 (W3 (.nm 14) (Z8 Q1 [(Z5 (Z0 13) (mC (.int 0)) ixD),(Z5 (Z0 13) (mC (.int 1)) ixD)]))
 (Y2 (sIf (mOr (z9K (z0T (zfL "list" (Z0 14)))) (z0T (mCB [(J3 (v4 (Z0 14)) (.tp [(.nm 0),(.nm 1),(.nm 2)]) (rt true) (Z5 (Z0 0) (Z0 3) gtD) 3 [5])] zan))) (z0y (mC (.bool false))) sNx)
 (sIf (mOr (V3 (Z5 (Z0 14) (Z8 Q1 [(Z0 3),(mSl (Z0 4) none (some (Z0 5)))]) neD)) (mOr (V3 (Z5 (Z0 13) (mCB [(Z0 3),(Z0 9)] lstM) neD)) (V3 (Z5 (mCB [(mC (.int 0)),(mCB [] U1),(mC (.int 0))] U1) (Z0 14) zbF)))) (z0y (mC (.bool false))) sNx)))))))
def zhj{F:Fd}{a:Nat}(ha: ∀q∈F,q.1.1<=a)(hz:F.length<=5000){p n:Nat}{σ tm:Qq}(h14:σ[14]? =some (some (.lst p (z2t (stL F)))))(h5:σ[5]? =some (some (.int (a:Nat)))):
 ∃n',n<=n'/\J3 (v4 (Z0 14)) (.tp [(.nm 0),(.nm 1),(.nm 2)]) (rt true) (Z5 (Z0 0) (Z0 3) gtD) 3 [5] ⟨σ,tm,n⟩= .ok (.lst n' ((z2t (stL F)).map λ_=> .bool false)) ⟨σ,tm,n'+1⟩:=by
 have hl:(z2t (stL F)).length=F.length:=by rw[ze7];simp[stL]
 exact z3r (mi:=v4 (Z0 14)) (K:=kLst) (g:= .tp [(.nm 0),(.nm 1),(.nm 2)]) (me:=Z5 (Z0 0) (Z0 3) gtD) (gf:=λ_=> .bool false) (fr:=fr3) (k:=3) (items:=z2t (stL F)) (its:=[some (.lst p (z2t (stL F)))]) (ix:=[5]) (s:=⟨σ,tm,n⟩) (σ:=σ) (tm:=tm) (n:=n) (z2m (by left;rw[h14];left;rfl)) rfl (by rw[zl,hl];lia) (λi rest=>rfl) rfl (λd hd pre hp=>by
  obtain⟨q,hq,rfl⟩:=z2b hd
  match pre,hp with
  |[a,b,c],_=>rfl) (λd hd=>by
  obtain⟨q,hq,rfl⟩:=z2b hd
  rfl) (λd hd tm m=>by
  obtain⟨q,hq,rfl⟩:=z2b hd
  refine⟨m,i8 _, ?_⟩
  erw[i6,m8,h5,B2]
  show Z5 (Z0 0) (Z0 3) gtD ⟨[some (.int q.1.1),some (.tup (q.1.2.map .int)),some (.int q.2),some (.int (a:Nat))],tm,m⟩= .ok (.bool false) ⟨[some (.int q.1.1),some (.tup (q.1.2.map .int)),some (.int q.2),some (.int (a:Nat))],tm,m⟩
  left
  have:=ha q hq
  rw[show decide ((a:Int)<(q.1.1:Int))=false from by simp;lia])
def zjh(rows:List Y3)(hw: ∀r∈rows,Wf r)(hr:rows.length<=40)(sn:List Int)(hsn:sn.length<=24)(a:Nat)(ha:a<=sn.length)(st:Int)(hst:0<=st)(ks:List Int)(hn:ks.Nodup)(hk: ∀k∈ks,0<=k/\k<40)(h40:ks.length≠40)(hS: ∀r∈rows,∀s∈r.2.1,s∈ks)(c0 c1 c2 o8 o9 o10 o11 o12 o13 o14:Option D)(k q j n:Nat)(lk:k<n)(lq:q<n)(tm:Qq):
 ∃p9 p12 p13 p14 n',n<=n'/\UpO n' p9/\UpO n' p12/\UpO n' p13/\UpO n' p14/\tlM ⟨[c0,c1,c2,some (.lst k (rows.map rD)),some (.lst q (sn.map .int)),some (.int (a:Nat)),some (.int st),some (kkD j ks),o8,o9,o10,o11,o12,o13,o14],tm,n⟩= .nx ⟨[c0,c1,c2,some (.lst k (rows.map rD)),some (.lst q (sn.map .int)),some (.int (a:Nat)),some (.int st),some (kkD j ks),o8,p9,o10,o11,p12,p13,p14],tm,n'⟩:=by
 obtain⟨n1,hn1,e1⟩:=zhe (ks:=ks) (j:=j) (n:=n) (σ:=[c0,c1,c2,some (.lst k (rows.map rD)),some (.lst q (sn.map .int)),some (.int (a:Nat)),some (.int st),some (kkD j ks),o8,o9,o10,o11,o12,o13,o14]) (tm:=tm) rfl
 have hp:=ze5 hn hk h40
 obtain⟨d,hd,ed⟩:=zbX (ds:=(oth ks).map D.int) (r:=st %(oth ks).length) (E8 _ ⋯) (by rw[l0];exact D6 _ ⋯)
 obtain⟨z,hz,rfl⟩:=m5.mp hd
 have hzr: ∀r∈rows,z∉r.2.1:=λr hr h=>ze4 hz (hS r hr z h)
 obtain⟨N,hN,hend,hgo⟩:=z9m (gl:=gl rows (sn.take a)) (F:=F0) (B:=5000) λm=>z3p hw hr (by rw[A7];lia) m
 have hla:(sn.take a).length=a:=by rw[A7];lia
 have rz:=zh8 hw hzr (A:=sn.take a) (B:=sn.drop a)
 have lsn:(sn.take a++z::sn.drop a).length<=25:=by erw[l8,o0,A7,B8];lia
 obtain⟨ok1,ok2⟩:=z5z hw (sn:=sn.take a) N
 have hz5:(runF' (gl rows (sn.take a)) N 0 F0).length<=5000:=by lia
 have hm0:((0,[]),0)∈runF' (gl rows (sn.take a)) N 0 F0:=by
  obtain⟨A,hA⟩:=z4C (gl:=gl rows (sn.take a)) N 0 F0
  rw[hA];exact i7 _ (by simp[F0])
 obtain⟨n2,hn2,e2⟩:=zdY rows hw hr (sn.take a++z::sn.drop a) lsn (n1+6) (n1+7) (n1+9) ⋯ ⋯ N hN (by rw[rz];exact hend) (λi hi=>by rw[rz];exact hgo i hi) (λq hq=>by rw[rz] at hq;exact zh9 hzr (ok2 q hq).1)
 obtain⟨m3,n3,hm3,hn3,e3⟩:=zdZ rows hw hr k n2 (n2+1) ⋯ ⋯
 obtain⟨n4,hn4,e4⟩:=zc8 rows hw hr (sn.take a++z::sn.drop a) lsn (n1+6) (n1+7) (n3+1) ⋯ ⋯ N hN (by rw[rz];exact hend) (λi hi=>by rw[rz];exact hgo i hi)
 rw[rz] at e4
 unfold tlM
 left
 rw[e1]
 left
 rw[z2n,z2w (by rw[l0];lia)]
 left
 rw[l0,ed]
 try (left)
 rw[zbT (by rw[zl];erw[A7,l0,E6];lia)]
 left
 rw[z3R,zbT (by rw[zl];erw[l8,A7,B8,l0,E6];lia)]
 left
 rw[show(sn.map D.int).take a++[D.int z]++(sn.map D.int).drop a=(sn.take a++z::sn.drop a).map D.int by simp[R0,u0m]]
 try (left)
 rw[e2]
 left
 erw[z6d]
 left
 rw[e3]
 left
 rw[z6c (show Gd (.lst m3 []) from Gd.lst.mpr z2a) (show Gd (.lst n3 []) from Gd.lst.mpr z2a) rfl (by simp[er,erL,PyData.depth,PyData.depthAll])]
 left
 rw[e4]
 left
 obtain⟨n5,hn5,e5⟩:=zhj (F:=runF' (gl rows (sn.take a)) N 0 F0) (a:=a) (λq hq=>by have:=(ok2 q hq).1;lia) hz5 (p:=n4) (n:=n4+1) (σ:=[c0,c1,c2,some (.lst k (rows.map rD)),some (.lst q (sn.map .int)),some (.int (a:Nat)),some (.int st),some (kkD j ks),o8,some (.lst (n1+5) ((sn.take a++z::sn.drop a).map .int)),o10,o11,some (.lst n1 ((oth ks).map .int)),some (.lst (n1+8) [.lst (n1+6) (rows.map rD), .lst (n1+7) ((sn.take a++z::sn.drop a).map .int)]),some (.lst n4 (z2t (stL (runF' (gl rows (sn.take a)) N 0 F0))))]) (tm:=tm) rfl rfl
 rw[e5]
 left
 rw[zea]
 left
 obtain⟨n6,hn6,e6⟩:=zc8 rows hw hr (sn.take a) ⋯ k (n5+1) (n5+2) ⋯ ⋯ N hN hend hgo
 rw[z2n,z7A,e6]
 left
 rw[z6c (z4K _ n4).1 (z4K _ n6).1 rfl (z4K _ n6).2]
 left
 obtain⟨a1,a2⟩:=zhg (k:=n1+8) (a:=n1+6) (b:=n1+7) hw (show rows.length<=60 by lia) (show(sn.take a++z::sn.drop a).length<=60 by lia)
 obtain⟨b1,b2⟩:=zhg (k:=n6+1) (a:=k) (b:=n1+5) hw (show rows.length<=60 by lia) (show(sn.take a++z::sn.drop a).length<=60 by lia)
 rw[z6c (zaW _ a1) (zaW _ b1) rfl ⋯]
 left
 rw[show D.tup [.int 0, .tup [], .int 0]=stD ((0,[]),0) from rfl,zhi hm0]
 left
 refine⟨_,_,_,_,n6+2,⋯,ze1 ⋯,ze1 ⋯,zjg ⋯ ⋯ ⋯, ?_,rfl⟩
 rintro _ ⟨⟩ j hj
 erw[Mi.labs,ze8,l6,A2,or_false] at hj
 lia
noncomputable def ifM:MS:=(sIf (V3 (Z5 (mCB [(Z0 7)] zdm) (mC (.int 40)) eqD)) (Y2 (W3 (.nm 3) (J3 (v4 (Z0 3)) (.tp [(.nm 0),(.nm 1),(.nm 2)]) (rt true) (mCB [(Z0 0),(mCB [] U1),(Z0 2)] U1) 3 []))
 (W3 (.nm 7) z5Y)) sNx)
noncomputable def zbf:MS:=(Y2 (W3 (.nm 2) (Z8 z3j [(Z0 0),(Z0 1)]))
 (Y2 (W3 (.nm 3) (Z8 z0v [(Z0 2)]))
 (Y2 (W3 (.nm 4) (Z8 K6 [(Z0 2),(Z0 3),(Z5 (mCB [(mC (.int 23)),(mC (.int 6))] lstM) (mCB [(Z5 (mCB [(Z0 3)] X8) (mC (.int 12)) gtD)] z9L) ixD)]))
 (Y2 (W3 (.nm 5) (Z8 Z3 [(Z0 2),(Z5 (mCB [(Z0 4)] X8) (mC (.int 1)) X9)]))
 (Y2 (W3 (.nm 6) (Z8 Z3 [(Z0 2),(mC (.int 40))]))
 (Y2 (W3 (.nm 7) z5Y)
 (Y2 (z1p (v4 (Z0 3)) (.tp [(.nm 8),(.nm 9),(.nm 10)]) knI)
 (Y2 ifM tlM))))))))
def zji{n j:Nat}{ks:List Int}(h:j<n):UpO n (some (kkD j ks)):=by
 rintro _ ⟨⟩ i hi
 rw[zdL,m4] at hi
 lia
def zjj(rows:List Y3)(hw: ∀r∈rows,Wf r)(hr:rows.length<=40)(ks:List Int)(hn:ks.Nodup)(hk: ∀k∈ks,0<=k/\k<40)(hS: ∀r∈rows,∀s∈r.2.1,s∈ks)(c0 c1 c2 c4 c5 c6 o8 o9 o10 o11 o12 o13 o14:Option D)(k j n:Nat)(lk:k<n)(lj:j<n)(tm:Qq):
 ∃(rows':List Y3) (ks':List Int) (k' j' n':Nat),(∀r∈rows',Wf r)/\rows'.length<=40/\ks'.Nodup/\(∀k∈ks',0<=k/\k<40)/\ks'.length≠40/\(∀r∈rows',∀s∈r.2.1,s∈ks')/\k'<n'/\j'<n'/\n<=n'/\ifM ⟨[c0,c1,c2,some (.lst k (rows.map rD)),c4,c5,c6,some (kkD j ks),o8,o9,o10,o11,o12,o13,o14],tm,n⟩= .nx ⟨[c0,c1,c2,some (.lst k' (rows'.map rD)),c4,c5,c6,some (kkD j' ks'),o8,o9,o10,o11,o12,o13,o14],tm,n'⟩:=by
 have el: ∀s:Stt,zdm [kkD j ks] s= .ok (.int (ks.length:Nat)) s:=λs=>by
  erw[kkD,zdm,l0]
  rfl
 unfold ifM
 left
 rw[el]
 left
 by_cases h:ks.length=40
 .rw[show(((ks.length:Nat):Int)==40)=true from by simp;lia]
  left
  obtain⟨n1,hn1,e⟩:=zhd (rows:=rows) ⋯ (l:=k) (n:=n) (σ:=[c0,c1,c2,some (.lst k (rows.map rD)),c4,c5,c6,some (kkD j ks),o8,o9,o10,o11,o12,o13,o14]) (tm:=tm) rfl
  rw[e]
  left
  have eK: ∀σ tm,z5Y ⟨σ,tm,n1+1⟩= .ok (kkD (n1+1) []) ⟨σ,tm,n1+2⟩:=λ_ _=>rfl
  rw[eK]
  left
  refine⟨rows.map noS,[],n1,n1+1,n1+2,λr' hm=> ?_,by rw[l0];exact hr, .nil,(λ_ h=>nomatch h),by simp,λr' hm s hs=> ?_,⋯,⋯,⋯,rfl⟩
  .obtain⟨r,h1,rfl⟩:=m5.mp hm
   exact zhc (hw r h1)
  .obtain⟨r,h1,rfl⟩:=m5.mp hm
   cases hs
 .rw[show(((ks.length:Nat):Int)==40)=false from by simp;lia]
  left
  exact⟨rows,ks,k,j,n,hw,hr,hn,hk,h,hS,lk,lj,i8 _,rfl⟩
set_option maxHeartbeats 2000000 in
def zeb(ns:List Int)(i n:Nat)(hi:i<1000)(hl:ns.length<1000)(o2 o3 o4 o5 o6 o7 o8 o9 o10 o11 o12 o13 o14:Option D)(u3:UpO n o3)(u4:UpO n o4)(u5:UpO n o5)(u6:UpO n o6)(u7:UpO n o7)(u8:UpO n o8)(u9:UpO n o9)(u10:UpO n o10)(u11:UpO n o11)(u12:UpO n o12)(u13:UpO n o13)(u14:UpO n o14):
 ∃(p2 p3 p4 p5 p6 p7 p8 p9 p10 p11 p12 p13 p14:Option D) (n':Nat),n<=n'/\(UpO n' p3/\UpO n' p4/\UpO n' p5/\UpO n' p6/\UpO n' p7/\UpO n' p8/\UpO n' p9/\UpO n' p10/\UpO n' p11/\UpO n' p12/\UpO n' p13/\UpO n' p14)/\
  zbf ⟨[some (.ro (ns.map .int)),some (.int i),o2,o3,o4,o5,o6,o7,o8,o9,o10,o11,o12,o13,o14],[some (.ro (ns.map .int))],n⟩= .nx ⟨[some (.ro (ns.map .int)),some (.int i),p2,p3,p4,p5,p6,p7,p8,p9,p10,p11,p12,p13,p14],[some (.ro (ns.map .int))],n'⟩:=by
 have fro: ∀k d,rp (pl k d) (.ro (ns.map .int))= .ro (ns.map .int):=λk d=>by erw[rp,J1]
 obtain⟨c,x,b0,e0⟩:=zgE ns i n hi hl
 obtain⟨rows,c1,x1,k,n1,hw',hr,b1,hk,hk',e1⟩:=zb4 n (n+1) c x b0 ⋯
 have hw: ∀r∈rows,Wf r:=λr h=>(hw' r h).1
 unfold zbf
 left
 rw[e0]
 left
 rw[e1,Y9 rfl rfl rfl (λq=>by left;try erw[fro,u3.fix,u4.fix,u5.fix,u6.fix,u7.fix,u8.fix,u9.fix,u10.fix,u11.fix,u12.fix,u13.fix,u14.fix];rfl) (λq=>by left;try erw[fro];rfl)]
 try (left)
 obtain⟨w,⟨hw0,hw1⟩,ew⟩:= @zj2 (decide (12<((rows.map rD).length:Int)))
 rw[ew]
 obtain⟨M,hM,eM⟩:=zen (a:=23) (b:=6) hw0 hw1
 rw[eM]
 left
 obtain⟨sn,c2,x2,q,n2,hsn,b2,hq,hq',e2⟩:=z9C rows hw ⋯ n k (n1+1) c1 x1 M ⋯ ⋯ b1 ⋯ ⋯ ⋯
 have g4:=λA B=>z9G (A:=A) (B:=B) (l:=n) (k:=k) u4 (i8 n) ⋯
 have g5:=λA B=>z9G (A:=A) (B:=B) (l:=n) (k:=k) u5 (i8 n) ⋯
 have g6:=λA B=>z9G (A:=A) (B:=B) (l:=n) (k:=k) u6 (i8 n) ⋯
 have g7:=λA B=>z9G (A:=A) (B:=B) (l:=n) (k:=k) u7 (i8 n) ⋯
 have g8:=λA B=>z9G (A:=A) (B:=B) (l:=n) (k:=k) u8 (i8 n) ⋯
 have g9:=λA B=>z9G (A:=A) (B:=B) (l:=n) (k:=k) u9 (i8 n) ⋯
 have g10:=λA B=>z9G (A:=A) (B:=B) (l:=n) (k:=k) u10 (i8 n) ⋯
 have g11:=λA B=>z9G (A:=A) (B:=B) (l:=n) (k:=k) u11 (i8 n) ⋯
 have g12:=λA B=>z9G (A:=A) (B:=B) (l:=n) (k:=k) u12 (i8 n) ⋯
 have g13:=λA B=>z9G (A:=A) (B:=B) (l:=n) (k:=k) u13 (i8 n) ⋯
 have g14:=λA B=>z9G (A:=A) (B:=B) (l:=n) (k:=k) u14 (i8 n) ⋯
 rw[e2,z9B (show n≠k by lia) rfl rfl (z0x rows) rfl (by erw[Y4,W0,l7,ze9,G2,z9z,z9A (show n≠k by lia),g4,g5,g6,g7,g8,g9,g10,g11,g12,g13,g14]) (by erw[Y4,W0,l7,ze9])]
 left
 erw[ze9,G2,z9z,z9A (show n≠k by lia),g4,g5,g6,g7,g8,g9,g10,g11,g12,g13,g14]
 clear g4 g5 g6 g7 g8 g9 g10 g11 g12 g13 g14
 try (left)
 rw[z5D]
 obtain⟨a,c3,x3,a0,a1,b3,e3⟩:=Q9 n c2 x2 ((sn.length:Int)+1) n2 b2 ⋯ ⋯
 obtain⟨a,rfl⟩:=R5 a0
 rw[e3,Y9 rfl rfl rfl (λy=>by left;try erw[fro,W9 (show k≠n by lia),G7 (show q≠n by lia),u5.fix,u6.fix,u7.fix,u8.fix,u9.fix,u10.fix,u11.fix,u12.fix,u13.fix,u14.fix];rfl) (λy=>by left;try erw[fro];rfl)]
 try (left)
 obtain⟨st,c4,x4,s0,s1,b4,e4⟩:=Q9 n c3 x3 40 n2 b3 (by decide) (by decide)
 rw[e4,Y9 rfl rfl rfl (λy=>by left;try erw[fro,W9 (show k≠n by lia),G7 (show q≠n by lia),u6.fix,u7.fix,u8.fix,u9.fix,u10.fix,u11.fix,u12.fix,u13.fix,u14.fix];rfl) (λy=>by left;try erw[fro];rfl)]
 try (left)
 have eK: ∀σ tm,z5Y ⟨σ,tm,n2⟩= .ok (kkD n2 []) ⟨σ,tm,n2+1⟩:=λ_ _=>rfl
 rw[eK]
 left
 obtain⟨ks,p8,p9,p10,p11,z1,z2,z3,⟨v8,v9,v10,v11⟩,e5⟩:=zje (c0:=some (.ro (ns.map .int))) (c1:=some (.int i)) (c2:=some (.lst n [.int c4, .int x4])) (c4:=some (.lst q (sn.map .int))) (c5:=some (.int (a:Nat))) (c6:=some (.int st)) (o12:=o12) (o13:=o13) (o14:=o14) (j:=n2) (n:=n2+1) (l:=k) (rows:=rows) ⋯ (λr h=>(hw' r h).2) (λd=>by
  erw[Y4,W0,l7,fro,G2,G7 (show q≠n2 by lia),z0V (show n≠n2 by lia),U7,U4,u12.fixk (show n<=n2 by lia),u13.fixk (show n<=n2 by lia),u14.fixk (show n<=n2 by lia)]) o8 o9 o10 o11 (z0P u8 ⋯) (z0P u9 ⋯) (z0P u10 ⋯) (z0P u11 ⋯) [some (.ro (ns.map .int))] (λd=>by erw[Y4,W0,l7,fro])
 rw[z68] at e5
 rw[e5]
 try (left)
 obtain⟨rows',ks',k',j',n3,y1,y2,y3,y4,y5,y6,y7,y8,y9,e6⟩:=zjj rows hw hr ks z1 z2 z3 (some (.ro (ns.map .int))) (some (.int i)) (some (.lst n [.int c4, .int x4])) (some (.lst q (sn.map .int))) (some (.int (a:Nat))) (some (.int st)) p8 p9 p10 p11 o12 o13 o14 k n2 (n2+1) ⋯ ⋯ [some (.ro (ns.map .int))]
 rw[e6]
 try (left)
 obtain⟨q9,q12,q13,q14,n4,w1,w9,w12,w13,w14,e7⟩:=zjh rows' y1 y2 sn hsn a ⋯ st s0 ks' y3 y4 y5 y6 (some (.ro (ns.map .int))) (some (.int i)) (some (.lst n [.int c4, .int x4])) p8 p9 p10 p11 o12 o13 o14 k' q j' n3 y7 ⋯ [some (.ro (ns.map .int))]
 rw[e7]
 exact⟨_,_,_,_,_,_,_,_,_,_,_,_,_,n4,⋯,⟨ze0 ⋯,ze1 ⋯,z9D,z9D,zji ⋯,z0P v8 ⋯,w9,z0P v10 ⋯,z0P v11 ⋯,w12,w13,w14⟩,rfl⟩
set_option maxHeartbeats 2000000 in
def zhk(ns:List Int)(hl:ns.length<1000)(n:Nat): ∃n',f_law [.ro (ns.map .int)] n= .ok (.bool true) [.ro (ns.map .int)] n':=by
 unfold f_law
 have e0:zds=Y2 (z1p (V4 [(mCB [(mC (.int 1)),(mCB [(mC (.int 3)),(mCB [(Z0 0)] X8)] zd5)] zek)]) (.nm 1) zbf) (z0y (mC (.bool true))):=rfl
 rw[e0]
 left
 have w0:((ns.map D.int).length:Int)=ns.length:=by simp
 rw[w0]
 generalize hk:(if(if(ns.length:Int)<(3:Int) then(ns.length:Int) else(3:Int))>1 then(if(ns.length:Int)<(3:Int) then(ns.length:Int) else(3:Int)) else(1:Int))=k
 have hk0:0<=k/\k<=6:=by split at hk<;>(try split at hk)<;>lia
 rw[z1Q ⟨⋯,⋯⟩]
 left
 obtain⟨s',e2,o1,o2,o3,o4,o5,o6,o7,o8,o9,o10,o11,o12,o13,o14,m,rfl,_⟩:=z1B (P:=λi s=> ∃(o1 o2 o3 o4 o5 o6 o7 o8 o9 o10 o11 o12 o13 o14:Option D) (n:Nat),s=⟨[some (.ro (ns.map .int)),o1,o2,o3,o4,o5,o6,o7,o8,o9,o10,o11,o12,o13,o14],[some (.ro (ns.map .int))],n⟩/\UpO n o3/\UpO n o4/\UpO n o5/\UpO n o6/\UpO n o7/\UpO n o8/\UpO n o9/\UpO n o10/\UpO n o11/\UpO n o12/\UpO n o13/\UpO n o14) (lo:=0) (N:=k.toNat) (g:= .nm 1) (b:=zbf) (by
  rintro i hi s ⟨o1,o2,o3,o4,o5,o6,o7,o8,o9,o10,o11,o12,o13,o14,n,rfl,u3,u4,u5,u6,u7,u8,u9,u10,u11,u12,u13,u14⟩
  refine⟨[some (.ro (ns.map .int)),some (.int i),o2,o3,o4,o5,o6,o7,o8,o9,o10,o11,o12,o13,o14],by erw[S0];rfl, ?_⟩
  obtain⟨p2,p3,p4,p5,p6,p7,p8,p9,p10,p11,p12,p13,p14,n',hn,hv,e⟩:=zeb ns i n ⋯ hl o2 o3 o4 o5 o6 o7 o8 o9 o10 o11 o12 o13 o14 u3 u4 u5 u6 u7 u8 u9 u10 u11 u12 u13 u14
  exact⟨_,e,_,_,_,_,_,_,_,_,_,_,_,_,_,_,n',rfl,hv⟩) k.toNat 0 ⟨[some (.ro (ns.map .int)),none,none,none,none,none,none,none,none,none,none,none,none,none,none],[some (.ro (ns.map .int))],n⟩ ⋯ ⟨none,none,none,none,none,none,none,none,none,none,none,none,none,none,n,rfl,nofun,nofun,nofun,nofun,nofun,nofun,nofun,nofun,nofun,nofun,nofun,nofun⟩
 rw[e2]
 left
 exact⟨m,rfl⟩
end My
set_option maxHeartbeats 4000000
namespace Mi
open PySem L2 PySem.Spec PyProof.Rows
noncomputable def z9I(K:W.Frag)(np:Nat)(f:FM):Sp:=λvs H Q E=>vs.length=np/\∀G:Gx,G.K=K->KD K H->spM G np f vs H Q E
def zhl{P:bm}{w:bo}{K:W.Frag}{mg:Str->Option bb}{base:Heap}{CX:CXT}{k:Nat}{fa:Addr}{fd:bB}{x:Str}{f:FM}{G:Gx}(hG:G.K=K)(F:z0W P w K mg base CX k fa fd [x] (spM G 1 f)):z0W P w K mg base CX k fa fd [x] (z9I K 1 f):=
 ⟨λ_ _ _ _ h=>h.1,λA outer s H args us vs Q E hr e0 hb hv h=>F.run A outer s H args us vs Q E hr e0 hb hv (h.2 G hG λa o e=>(e0.bs a o (e0.mod.kin a o e)).2)⟩
theorem RDs.ints{G:Gx}{ρ:Nat->Addr}{H:Hp}: ∀ns:List Int,RDs G ρ H (ns.map D.int) (ns.map V.int)
 |[]=>by erw[m8,RDs]
 |n::ns=>by
  erw[i6,RDs]
  exact⟨_,_,rfl,by erw[RD],RDs.ints ns⟩
theorem z3X: ∀ns:List Int,qq (ns.map D.int)=[]
 |[]=>by erw[m8,qq]
 |n::ns=>by erw[i6,qq,labs,z3X ns,A4]
def zhm{K:W.Frag}{H:Hp}{a:Addr}{ns:List Int}{f:FM}{E:XK}(e: ∀n,∃n',f [.ro (ns.map D.int)] n= .ok (.bool true) [.ro (ns.map D.int)] n')(hO:zhp H)(hS:SqL K H a (ns.map V.int)):z9I K 1 f [.ref a] H (λv _=>v= .bl true) E:=by
 refine⟨rfl,λG hG kd=> ?_⟩
 subst hG
 refine⟨rfl,λ_=>a,0,[.ro (ns.map D.int)], ?_,λi j hi=>absurd hi (S3 _),λl hl=>absurd hl (S3 _),λl hl=> ?_,kd, ?_⟩
 .erw[RDs,RD]
  refine⟨_,_,rfl,⟨a,ns.map V.int,rfl, ?_,RDs.ints ns⟩,rfl⟩
  rcases hS with(h|h)|h
  .rcases hO a with z|⟨o,xs,z⟩<;>rw[h] at z<;>cases z
  .exact .inl h
  .exact .inr h
 .erw[qq,labs,z3X,l4] at hl
  cases hl
 .obtain⟨n',e⟩:=e 0
  rw[e]
  intro ρ' v H' _ rd _
  erw[RD] at rd
  exact rd
end Mi
namespace My
open PySem L2 Mi
structure DA(K:W.Frag)(x:Str)(st:Stmt)(f:Addr)(d:bB):Prop where
 a:W.nsIn K bn x=some (some (.ref f))
 F:Fun K x x st f d
def zjk{K:W.Frag}{x:Str}{st:Stmt}{f:Addr}{oc:bb}{od an:Option Addr}{sl:Array (Option bb)}{kV dc pm cd ct:bb}(a:W.nsIn K bn x=some (some (.ref f)))
 (l:K.lookup f=some ⟨oc,od, .func (W.fnOf x x (z1t st) (z0k st) (Z9 st) .none kV dc pm an cd ct),sl⟩) (c:W.codeIn K cd x=true) (k:W.keepIn K (.ref f)=true):
 DA K x st f (W.fnOf x x (z1t st) (z0k st) (Z9 st) .none kV dc pm an cd ct):=⟨a,zeZ l c k⟩
noncomputable def dx{K:W.Frag}{h:Heap}{mg:Str->Option bb}{x:Str}{st:Stmt}{f:Addr}{d:bB}{ps:List Str}(X:K.In h)(G:h.Ns bn mg)(a:DA K x st f d)
 (b: ∀(kV dc pm:bb) (an:Option Addr) (cd ct:bb) (us:List bb),us.length=ps.length->bindArgs (W.fnOf x x (z1t st) (z0k st) (Z9 st) .none kV dc pm an cd ct) ⟨us,[]⟩=pure (ps.zip us)):Dx K mg x st ps:=
 ⟨f,d,a.F,a.F.binds b,W.mg_of X G a.a⟩
def la0{P:List bb->Prop}(h:P [])(us:List bb)(hl:us.length=0):P us:=by
 obtain rfl:=List.length_eq_zero_iff.mp hl
 exact h
def la1{P:List bb->Prop}(h: ∀a0,P [a0])(us:List bb)(hl:us.length=1):P us:=by
 obtain⟨a,us,rfl⟩:=E1 hl
 exact la0 (P:=λus=>P (a::us)) (h a) us (Nat.succ.inj hl)
def la2{P:List bb->Prop}(h: ∀a0 a1,P [a0,a1])(us:List bb)(hl:us.length=2):P us:=by
 obtain⟨a,us,rfl⟩:=E1 hl
 exact la1 (P:=λus=>P (a::us)) (h a) us (Nat.succ.inj hl)
def la3{P:List bb->Prop}(h: ∀a0 a1 a2,P [a0,a1,a2])(us:List bb)(hl:us.length=3):P us:=by
 obtain⟨a,us,rfl⟩:=E1 hl
 exact la2 (P:=λus=>P (a::us)) (h a) us (Nat.succ.inj hl)
def zhn{l:W.OpenLaw}{w:bo}{K:W.Frag}{h:Heap}{mg:Str->Option bb}{fa f0 f1 f2 f3 f4 f5 f6 f7 f8 f9 f10 f11 f12 f13 f14 f15 f16 f17 f18:Addr}{d0 d1 d2 d3 d4 d5 d6 d7 d8 d9 d10 d11 d12 d13 d14 d15 d16 d17 d18:bB}(X:K.In h)(G:h.Ns bn mg)(hfa:mg "law" =some (.ref fa))
 (a0:DA K "read_keys" z0G f0 d0)
 (a1:DA K "read_step" z0H f1 d1)
 (a2:DA K "longest_row" z02 f2 d2)
 (a3:DA K "press" z3b f3 d3)
 (a4:DA K "may_wait" z15 f4 d4)
 (a5:DA K "end_keys" z16 f5 d5)
 (a6:DA K "key_standings" X3 f6 d6)
 (a7:DA K "fewest_keys" z03 f7 d7)
 (a8:DA K "ways_to" z1u f8 d8)
 (a9:DA K "presses_without_loss" J5 f9 d9)
 (a10:DA K "keys_on_way" z04 f10 d10)
 (a11:DA K "_law_bag" z62 f11 d11)
 (a12:DA K "_law_take" z4l f12 d12)
 (a13:DA K "_law_table" z3c f13 d13)
 (a14:DA K "_law_pressed" z1v f14 d14)
 (a15:DA K "_law_step" z4m f15 d15)
 (a16:DA K "_law_read" z4n f16 d16)
 (a17:DA K "_law_sounds" z22 f17 d17)
 (a18:DA K "law" zdp f18 d18)
 (z0:W.nsIn K bn "abs" =some none)
 (z1:W.nsIn K bn "any" =some none)
 {tk2:Nat} (z2:W.nsIn K bn "LAST_KEY" =some (some (.int 25 tk2)))
 (z3:W.nsIn K bn "int" =some none)
 (z4:W.nsIn K bn "isinstance" =some none)
 (z5:W.nsIn K bn "len" =some none)
 (z6:W.nsIn K bn "list" =some none)
 (z7:W.nsIn K bn "max" =some none)
 (z8:W.nsIn K bn "min" =some none)
 (z9:W.nsIn K bn "range" =some none)
 (z10:W.nsIn K bn "sorted" =some none)
 (z11:W.nsIn K bn "tuple" =some none)
 : ∃fd:bB,(∀(s:bf) (v:bb),dA s fd ⟨[v],[]⟩ [("_law_script",v)])/\∀base:Heap,K.In base->base.Ns bn mg->z0W l.prog w K mg base CX0 7 fa fd ["_law_script"] (z9I K 1 f_law):=by
 have e:=hfa.symm.trans (W.mg_of X G a18.a)
 cases e
 obtain⟨oc,od,kV,doc,pm,an,cdv,ct,osl,rfl,lk,hcd⟩:=a18.F.ex
 exact⟨_,λs v=> .of_eq rfl,λbase _ _=>zhl rfl (zgh ⟨dx X G a0 λ_ _ _ _ _ _=>la2 λ_ _=>rfl,dx X G a1 λ_ _ _ _ _ _=>la2 λ_ _=>rfl,dx X G a2 λ_ _ _ _ _ _=>la2 λ_ _=>rfl,dx X G a3 λ_ _ _ _ _ _=>la3 λ_ _ _=>rfl,dx X G a4 λ_ _ _ _ _ _=>la2 λ_ _=>rfl,dx X G a5 λ_ _ _ _ _ _=>la2 λ_ _=>rfl,dx X G a6 λ_ _ _ _ _ _=>la2 λ_ _=>rfl,dx X G a7 λ_ _ _ _ _ _=>la2 λ_ _=>rfl,dx X G a8 λ_ _ _ _ _ _=>la2 λ_ _=>rfl,dx X G a9 λ_ _ _ _ _ _=>la2 λ_ _=>rfl,dx X G a10 λ_ _ _ _ _ _=>la2 λ_ _=>rfl,dx X G a11 λ_ _ _ _ _ _=>la2 λ_ _=>rfl,dx X G a12 λ_ _ _ _ _ _=>la2 λ_ _=>rfl,dx X G a13 λ_ _ _ _ _ _=>la1 λ_=>rfl,dx X G a14 λ_ _ _ _ _ _=>la3 λ_ _ _=>rfl,dx X G a15 λ_ _ _ _ _ _=>la2 λ_ _=>rfl,dx X G a16 λ_ _ _ _ _ _=>la2 λ_ _=>rfl,dx X G a17 λ_ _ _ _ _ _=>la3 λ_ _ _=>rfl,dx X G a18 λ_ _ _ _ _ _=>la1 λ_=>rfl,W.mg_none_of X G z0,W.mg_none_of X G z1,⟨_,W.mg_of X G z2⟩,W.mg_none_of X G z3,W.mg_none_of X G z4,W.mg_none_of X G z5,W.mg_none_of X G z6,W.mg_none_of X G z7,W.mg_none_of X G z8,W.mg_none_of X G z9,W.mg_none_of X G z10,W.mg_none_of X G z11⟩)⟩
def zkw{l:W.OpenLaw}{q:bm}{loose:List Str}{XP:(Str->Option bb)->Heap->Prop}{YP:bo->Heap->Prop}{d:DefRec}{K:Params->W.Frag}(hn:l.most=some 63)(hdf:d.params.defaults=[])
 (hY: ∀(w:bo) (h:Heap),YP w h->(K w.params).In h)
 (F: ∀(w:bo) (mg:Str->Option bb) (fa:Addr) (h:Heap),(K w.params).In h->h.Ns bn mg->mg d.name=some (.ref fa)->
  ∃fd:bB,(∀(s:bf) (u:bb),dA s fd ⟨[u],[]⟩ [("_law_script",u)])/\∀base:Heap,(K w.params).In base->base.Ns bn mg->z0W l.prog w (K w.params) mg base CX0 7 fa fd ["_law_script"] (z9I (K w.params) 1 f_law)):
 W.WalkO q loose XP YP l.row.toRowW d [] (λf vs=>PySem.call f vs):=
 L2.zcG (n:=63) (k:=7) (x:= "_law_script") (CX:=λ_=>CX0) (sp:=λw=>z9I (K w.params) 1 f_law) hn (by decide) hdf ⟨rfl,by decide,by decide,rfl⟩ hY F (λ_ _ a ns hl hO hS=>zhm (λn=>zhk ns ⋯ n) hO hS) λ_ _ _ _ _ h=>h.elim
end My
inductive PySem.W.Fast:Prop|tw320381244634886066|tw4115698345664015069|tw11616031127644120731|tw7926918833152904153|tw13686876236388542435|tw4857259496310421002|tw49072725235662757|tw7497224918541924902|tw2217817563158609176|tw15234840686095958441|tw17075498763783179485|tw8240250760746719180|tw11967294302052265280|tw9361908658725538951|tw12590462455111829704|tw5937415994797180469|tw15194264430622161875|tw16300374346341926845|tw2647311690905344592|tw12783258272481586171|tw5434756755081852378|tw3767967225746987215|tw11361733525677975487|tw4852283387058720407|tw10189199869574231865|tw6395980896375698890|tw13126220241401825805|tw17237296501134421881|tw145160866439591200|tw11211887948028391264|tw8880927736308008212|tw1815600538014029407|tw7718608442333737185|tw295097086380650325|tw3914735742053749400|tw15787597547451805454|tw14665655087849389157|tw5527289810236794240|tw6408661929752099|tw1028469118775515580|tw62128539868884180|tw3439322102467758173|tw6080205360557885542|tw2700440137992821476|tw11370809761186880065|tw5563311327168211055|tw17326288958804670320|tw6137960905225504344|tw7477557470743727241|tw4670355803804491319|tw5084654312068347064|tw13986930318282781130|tw4995854573140707704|tw291508951345621216|tw10291238746493010838|tw16037575298218118006|tw15752479368481786328|tw17939309267768440041|tw8431880745284862122|tw8475833583944921455|tw1497372091644977857|tw1104328248120797066|tw7885156879420132519|tw4720404121107465173|tw6716474576579945873|tw15613988097652513165|tw11399160620492941423|tw4194709432014131611|tw10233235473820098854|tw11584905993392067846|tw3602918752341940012|tw1255461763579440328|tw6704410903954579131|tw14499689166870186817|tw15212627549675497865|tw15540529545046044838|tw12655060778572700886|tw8047749745579997746|tw7196549449136152497|tw14283881057642418300|tw4645891200442986463|tw842277632355526436|tw15112071184228578507
open PySem PySem.W PyProof.Rows
set_option maxRecDepth 100000 in
set_option maxHeartbeats 0 in
theorem PySem.Challenge.cw_signbench_k07_no_keys_holds : PySem.Challenge.rw_signbench_k07_no_keys.Holds := by
 w_on;o_law;k_head;(case hw=>w_witness2)
 k_fill
 refine My.zkw (l:=PySem.Challenge.rw_signbench_k07_no_keys) rfl rfl (λw h Y=>PySem.W.kIn_of Y) ?F
 case F=>
  intro w mg fa h KX G hmg
  apply My.zhn KX G hmg<;>first|(apply My.zjk<;>k_is)|k_is|kernel_rfl|rfl|decide
