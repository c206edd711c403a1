import PyProof.Rows.All
import Wide.All
import OpenK.AllK
import Wide.FinOn
import Lean
import PyProof.EqAt
import PyProof.EqKinds
import PyProof.TupleCall
import PyProof.CallFns
import PyProof.CallStr
import PyProof.DictTruth
import PyProof.Draws
import PyProof.EnumMake
import PyProof.FactsAll.range_2
import PyProof.ListRange
import PyProof.MeetsStr
import PyProof.P3Eq
import PyProof.Rows.CallKw2
import PyProof.Rows.CountFlat
import PyProof.Rows.FStr
import PyProof.Rows.Range3
import PyProof.Rows.StrJoin2
import PyProof.Rows.StrNews
import PyProof.Rows.ZipGen
import PyProof.SetRoads
import PyProof.StrBlockI
import PyProof.StrCalls
import PyProof.StrCalls5
import PyProof.StrOps2
import PyProof.StrWalks
import PyProof.SumAny
import PyProof.ZipIter
import PySem.Challenge.RW_signbench_k28_whole_no_two_fight
open PySem renaming wpAny_bind→ba,Value→bb,Shared→be,wpAny_pure→bf,starEach→bi,wpAny→bm,Expr→bn,model→bo,Program→bp,mainGlobals→bq,World→br,wpAny_newObj_type→bt,Around→bu,wpAny_holding→bw,cellsFrom→bx,wpAny_mono→bz,eval→bA,wpAny_truthy_bool→bB,foldedSetIterable→bC,wpAny_call_entry→bD,compareOp→bE,sysModules→bF,assignEach→bG,Paired→bH,FuncData→bI,Obj→bJ,wpAny_typeNameOfWhole_itemiter→bK,wpAny_typeNameOfWhole_keyiter→bL,backTo→bM,Pos→bN,rawInt→bO,wpAny_typeNameOf_itemiter→bQ,DictEntry→bR,letOwnedTupleGo→bS,bootBuiltins→bT,wpAny_dictEntries→bU,wpAny_standAt→bV,behindInMarks→bW,PyData→bX,wpAny_typeNameOf_keyiter→bY,NameKind→bZ,IsItemIter→ca,wpAny_isOneOf_itemiter→cb,wpAny_setField_rec→cc,wpAny_specialOf→cf,binaryOp→cg,wpAny_dictEpoch→cj,attributeBase→cm,codeAny→cn,wpAny_fieldsOf→cp,Keyword→cq,wpAny_passesOwn→cr,pyNext→cu,wpAny_field→cw,sliceBounds→cx,keywordEach→cy,assign→cz,wpAny_pyIter_rangeiter→cA,wpAny_pyIter_list→cB,wpAny_rule→cC,swapsWith→cD,swapsWithSole→cE,swappedStores→cF,getItem→cG,wpAny_attempt→cH,wpAny_Call_Name_kw→cJ,firstArgMember→cK,holding→cM,assignInOrder→cN,wpAny_isInstance→cO,wpAny_forIn_list→cP,noFill_tuple_add→cQ,backToKw→cR,wpAny_pyNext_list_item→cS,wpAny_pyNext_range_end→cT,IsPart→cU,seqIndex_neg→cW,wpAny_getItem_list_neg→cY,codeAny_compStart_list→df,wpAny_execs_nil→dg,CmpOp→dh,wpAny_pyNext_list_end→di,wpAny_notOrdered_dict→dj,wpAny_isOneOf_keyiter→dk,Sem→dl,IsRangeIter→dm,seqIndex_of→dn,subscripted→dq,ReadsAll→dt,wpAny_setField→du,wpAny_of_eq→dv,Env→dw,standAt→dz,lastMarks→dA,valueAt→dB,callerA→dD,rangeSize_one→dF,seq_tuple_add→dG,IsItemIterOut→dI,comprehension→dJ,IsTupleKey→dL,call_meets→dO,eqIsQuiet_byValue→dP,wpAny_assign_Name→dQ,BindsTo→dS,codeAny_mono→dU,concat_meets→dW,wpAny_sequenceKey→dX,wpAny_typeOf→dY,wpAny_pyIter_slot→fe,wpAny_pyIter_enum→fg,wpAny_Call_method→fh,compPost→fj,eqIsQuiet→fm,wpAny_execs_cons→fq,pyIter→ft,wpAny_Dict_empty→fu,wpAny_pyIter_zip→fw,unpackItems→fx,sizeLine_eq→fy,atKey→fE,setItem→fG,reduceHash→fI,builtinsNs→fJ,wpAny_Name→fK,Operator→fM,bindName→fQ,bindL→fT,bindC→fU,setField→fY,PassesOwn→fZ,noteFrame→ge,isTrue→gg,spliced→gh,Result→gi,Model→gk,Reads→gm,sizeLine→qg
open PyProof.Rows renaming seqObj→bP,assignInOrder_cons→cI,AllBare→cL,subscriptTail_builtinR→cX,mirror→cZ,bubble→de,entry_tuple_getitem→dE,subscriptTail→dH,boot_range→dM,args_tuple_getitem→dN,assignInOrder_nil→dR,failedOf→dZ,arrOf→fF,IntsAre→fH,Call_→fR,Subscript_→fV,SortKind→fW,pendingOf→gc,IsTup→gl
open PySem.W renaming kas_sort→fc,kasC_cons→fv,kasC_range→fX,kasC_pure→ga,kasC_bind→gb,kas_cmp→gj
set_option linter.defProp false
noncomputable section
set_option bootstrap.genMatcherCode false
set_option genSizeOf false
local macro_rules|`(tactic|erw[$[$e:term],*]$[$l:location]?)=>`(tactic|simp only[$[$e:term],*]$[$l:location]?)
open List renaming mem_append_right→b6,mem_cons_of_mem→b7,map_cons→b8,mem_cons→c8,mem_cons_self→c9,mem_append_left→e6,append_nil→e8,mem_append→e9,mem_map→i0,not_mem_nil→i3,mem_singleton→i4,length_map→i5,size_toArray→i8,map_nil→l0,nil_append→l5,getElem_mem→l6,length_cons→l8,replicate→m7,length_append→n8,Nodup→p8,cons_append→p9,lookup_cons→r8,contains_eq_mem→t7,append_assoc→A2,length_take→A3,map_map→A4,exists_cons_of_length_eq_add_one→A5,map_congr_left→A7,reverse_cons→A9,map_append→B1,all_eq_true→B2,range→B3,take_succ_eq_append_getElem→B4,getElem_map→B7,take_append_drop→B9,length_nil→C2,set_cons_zero→C3,set_cons_succ→C4,zipWith_cons_cons→C7,append_eq_nil_iff→C8,getElem_of_mem→C9,drop_eq_getElem_cons→D0,zipWith→D1,drop_drop→D2,take_of_length_le→D3,drop_zero→D9,mem_filter→E1,take_length→E6,any_eq_true→E7,getElem_append_right→E8,take_succ_cons→E9,drop_succ_cons→F0,length_reverse→F2,reverse_append→F3,filter_eq_self→F4,getElem_mapIdx→F5,any_cons→F7,foldl_cons→F8,any_map→L4,length_range→L5,reverse_nil→L8,eq_nil_iff_forall_not_mem→L9,mem_of_mem_take→M7,reverse_reverse→M9,nodup_cons→N0,nil_suffix→N3,filterMap_cons→N5,replicate_succ→N6,length_zipWith→N7,mem_range→O1,zip_cons_cons→O3,lookup_append→O4,mem_or_eq_of_mem_set→O5,length→O6,getElem_append_left→P0,eraseIdx_cons_succ→P1,zipIdx_cons→P2,map_reverse→P3,length_eq_zero_iff→P5,length_eq_one_iff→P6,drop_eq_nil_of_le→P7,of_mem_zip→P9,length_replicate→R1,length_singleton→R3,lookup→R5,getElem_zipWith→R6,mem_filterMap→S1,suffix_append→S2,any_eq_false→S8,map→T0,take_add_one→T1,pairwise_map→T2,length_drop→T3,isEmpty_iff→T6,mem_flatMap→T7,map_id→T9,filter_map→u02,mem_mapIdx→u03,nodup_nil→u05,sum_cons→u09,map_take→u0a,all_map→u0c,map_set→u0e,any_nil→u0g,range'→u0h
open Nat renaming le_refl→b9,lt_of_lt_of_le→l4,ne_of_lt→m5,lt_succ_self→m8,le_of_ble_eq_true→A6,lt_irrefl→A8,zero_le→B6,le_trans→C1,lt_succ_of_lt→C6,le_of_succ_le→D6,add_assoc→F6,ne_of_gt→F9,mod_eq_of_lt→L6,not_lt→L7,zero_add→N8,le_succ_of_le→O7,min_eq_left→R0,reduceAdd→R8,reduceSub→R9,le_of_lt→S4,le_of_eq→S5,lt_or_ge→S6,sub_self→S7,le_add_right→T4,le_succ→T8,not_lt_zero→u04,mul_le_mul→u07,lt_trans→u0b,sub_zero→u0d,succ_mul→u0f
open Option renaming map_some→i9,getD_some→l7,map→m9,getD_none→E4,isSome_some→O2,isSome_iff_exists→O9,bind_some→P4,map_none→u01,map_map→u06
open Bool renaming and_eq_true→l9,false_ne_true→n9,and_self→B0,true_and→C0,false_eq_true→C5,false_and→D4,false_or→D7,or_false→D8,or_eq_false_iff→E3,true_or→E5,not_false→I0,and_false→L1,or_eq_true→N4,not_eq_true'→O8,eq_iff_iff→P8,and_eq_false_iff→R4,not_true→R7,not_eq_false'→S3,or_true→S9,noConfusion→T5,and_true→u08
open Int renaming toNat_natCast→t9,eq_ofNat_of_zero_le→B5,toNat_of_nonneg→B8,emod_lt_of_pos→D5,emod_nonneg→E2,zero_add→N9,reduceBEq→S0,le_refl→u00
set_option Elab.async false
set_option linter.all false
set_option maxRecDepth 100000
set_option maxHeartbeats 4000000
theorem qy{c:Prop}{h:Decidable c}(k:c):ite c a b=a:=if_pos k
theorem qh{c:Prop}{h:Decidable c}(k: ¬c):ite c a b=b:=if_neg k
namespace L2
open PySem PySem.Spec PyProof.Rows
abbrev Key:=Sum Int Str
def z5I:Key->bb->Bool
 | .inl k,v=>Value.isInt k v
 | .inr x,v=>Value.isStrOf x v
def zkS(w:br):Key->Int
 | .inl k=>hashInt k
 | .inr x=>hashStr w x
def Q2: ∀{k:Key} {v:bb},z5I k v=true->(∃i t,k=Sum.inl i/\v=Value.int i t)\/(∃x t,k=Sum.inr x/\v=Value.str x t)
 | .inl i,v,h=>by
  obtain⟨t,e⟩:=Value.isInt_shape (k:=i) (v:=v) h
  exact .inl ⟨i,t,rfl,e⟩
 | .inr x,v,h=>by
  obtain⟨t,e⟩:=Value.isStrOf_shape (x:=x) (v:=v) h
  exact .inr ⟨x,t,rfl,e⟩
def z7z i(t:Tok):z5I (.inl i) (.int i t)=true:=by simp[z5I,Value.isInt]
def z7A x(t:Tok):z5I (.inr x) (.str x t)=true:=by simp[z5I,Value.isStrOf]
def zeQ a b:decide ((Sum.inl a:Key)=Sum.inl b)=(a==b):=by
 by_cases e:a=b
 .subst e;simp
 .have h: ¬(Sum.inl a:Key)=Sum.inl b:=λq=>e (Sum.inl.inj q)
  rw[decide_eq_false h]
  exact(beq_eq_false_iff_ne.mpr e).symm
def zeR a b:decide ((Sum.inr a:Key)=Sum.inr b)=decide (a=b):=by
 by_cases e:a=b
 .subst e;simp
 .have h: ¬(Sum.inr a:Key)=Sum.inr b:=λq=>e (Sum.inr.inj q)
  rw[decide_eq_false h,decide_eq_false e]
def zeS a b:decide ((Sum.inl a:Key)=Sum.inr b)=false:=decide_eq_false (λq=>nomatch q)
def zeT a b:decide ((Sum.inr a:Key)=Sum.inl b)=false:=decide_eq_false (λq=>nomatch q)
def Y8 prog w:PySem.KeyKind prog w Key where
 is:=z5I
 hash:=zkS w
 inj:=λv a b ha hb=>by
  rcases Q2 ha with⟨i,t,rfl,rfl⟩|⟨x,t,rfl,rfl⟩
  .rcases Q2 hb with⟨j,u,rfl,e⟩|⟨y,u,rfl,e⟩
   .injection e with e1 _;rw[e1]
   .exact nomatch e
  .rcases Q2 hb with⟨j,u,rfl,e⟩|⟨y,u,rfl,e⟩
   .exact nomatch e
   .injection e with e1 _;rw[e1]
 byValue:=λk v h=>by
  rcases Q2 h with⟨i,t,rfl,rfl⟩|⟨x,t,rfl,rfl⟩<;>rfl
 pyHash:=λhv h=>by
  rcases Q2 hv with⟨i,t,rfl,rfl⟩|⟨x,t,rfl,rfl⟩
  .exact wpAny_pyHash_int h
  .exact wpAny_pyHash_str h
 eqBool:=λhu hv h=>by
  rcases Q2 hu with⟨i,t,rfl,rfl⟩|⟨x,t,rfl,rfl⟩
  .rcases Q2 hv with⟨j,u,rfl,rfl⟩|⟨y,u,rfl,rfl⟩
   .rw[zeQ] at h;exact wpAny_eqBool_int h
   .rw[zeS] at h;exact SeqAt.EqAt.int_str i t y u _ _ _ _ h
  .rcases Q2 hv with⟨j,u,rfl,rfl⟩|⟨y,u,rfl,rfl⟩
   .rw[zeT] at h;exact SeqAt.EqAt.str_int x t j u _ _ _ _ h
   .rw[zeR] at h;exact wpAny_eqBool_str h
 «strs» :=λk x t v h=>by
  rcases Q2 h with⟨i,u,rfl,e⟩|⟨y,u,rfl,e⟩
  .exact nomatch e
  .injection e with e1 _
   subst e1
   cases v<;>rfl
def z6W prog w(k:Key) v:(Y8 prog w).is k v=z5I k v:=rfl
def z5J prog w i(t:Tok):(Y8 prog w).is (.inl i) (.int i t)=true:=z7z i t
def z5K prog w x(t:Tok):(Y8 prog w).is (.inr x) (.str x t)=true:=z7A x t
inductive V where
 |non|bl (b:Bool)|int (i:Int)|str (x:Str)|byt (b:Array UInt8)|flt (b:UInt64)|ref (a:Addr)|ty (n:String)
 deriving DecidableEq
def RelV:V->bb->Prop
 | .non,u=>u=Value.none
 | .bl b,u=>u=Value.bool b
 | .int i,u=> ∃t,u=Value.int i t
 | .str x,u=> ∃t,u=Value.str x t
 | .byt b,u=> ∃t,u=Value.bytes b t
 | .flt b,u=> ∃t,u=Value.float b t
 | .ref a,u=>u=Value.ref a
 | .ty n,u=>u=Value.type n
abbrev g7:List V->List bb->Prop:=bH RelV
def g7.length{xs:List V}{us:List bb}(r:g7 xs us):xs.length=us.length:=Paired.length r
theorem g7.get: ∀{xs:List V} {us:List bb} {i:Nat} {x:V},g7 xs us->xs[i]? =some x->∃u,us[i]? =some u/\RelV x u
 |_,_,_,_, .nil,e=>by simp at e
 |_,_,0,_, .cons r _,e=>by simp at e;subst e;exact⟨_,rfl,r⟩
 |_,_,i+1,x, .cons _ t,e=>by
  obtain⟨u,h1,h2⟩:=g7.get (i:=i) (x:=x) t (by simpa using e)
  exact⟨u,by simpa using h1,h2⟩
theorem g7.set(r:RelV x u): ∀{xs:List V} {us:List bb} (i:Nat),g7 xs us->g7 (xs.set i x) (us.set i u)
 |_,_,_, .nil=> .nil
 |_,_,0, .cons _ t=> .cons r t
 |_,_,i+1, .cons q t=> .cons q (g7.set r i t)
theorem g7.append: ∀{xs ys:List V} {us ws:List bb},g7 xs us->g7 ys ws->g7 (xs++ys) (us++ws)
 |_,_,_,_, .nil,s=>s
 |_,_,_,_, .cons r t,s=> .cons r (g7.append t s)
theorem g7.take: ∀{xs:List V} {us:List bb} (n:Nat),g7 xs us->g7 (xs.take n) (us.take n)
 |_,_,0,_=> .nil
 |_,_,_+1, .nil=> .nil
 |_,_,n+1, .cons r t=> .cons r (g7.take n t)
theorem g7.drop: ∀{xs:List V} {us:List bb} (n:Nat),g7 xs us->g7 (xs.drop n) (us.drop n)
 |_,_,0,r=>r
 |_,_,_+1, .nil=> .nil
 |_,_,n+1, .cons _ t=>g7.drop n t
def RelO:Option V->Option bb->Prop
 |some v,some u=>RelV v u
 |none,none=>True
 |_,_=>False
def KV{κ:Type}:List (κ×V)->List (κ×bb)->Prop:=bH λ(p:κ×V) (q:κ×bb)=>p.1=q.1/\RelV p.2 q.2
def kV:Key->V
 | .inl i=> .int i
 | .inr x=> .str x
theorem Paired.mapP{α β:Type}{F G:α->β->Prop}: ∀{l₁:List α} {l₂:List β},bH F l₁ l₂->(∀a b,F a b->G a b)->bH G l₁ l₂
 |_,_, .nil,_=> .nil
 |_,_, .cons r t,f=> .cons (f _ _ r) (Paired.mapP t f)
abbrev NK:=List (Key⊕List Key)
section
variable(P:bp)(w:br)
def ItN(h:Heap):Key⊕List Key->bb->Prop
 | .inl k,v=>(Y8 P w).is k v=true
 | .inr ks,v=> ∃c,v= .ref c/\dL (Y8 P w) h ks c
def IsN(h:Heap)(k:NK)(a:Addr):Prop:= ∃o items n,h.get? a=some o/\o.cls= .type "tuple" /\o.data= .seq items n/\bH (ItN P w h) k items.toList
def hsN:Key⊕List Key->Int
 | .inl k=>(Y8 P w).hash k
 | .inr ks=>tupleKeyHash (Y8 P w) ks
def drN:Key⊕List Key->Nat
 | .inl _=>1
 | .inr ks=>ks.length+1
end
section
variable{P:bp}{w:br}{h:Heap}
def zct(hx:ItN P w h x v)(hy:ItN P w h y v):x=y:=by
 cases x with
 |inl k=>
  cases y with
  |inl k'=>rw[(Y8 P w).inj v k k' hx hy]
  |inr ks=>obtain⟨c,rfl,_⟩:=hy;have:=(Y8 P w).byValue _ _ hx;simp[carriedByValue] at this
 |inr ks=>
  obtain⟨c,rfl,hc⟩:=hx
  cases y with
  |inl k'=>have:=(Y8 P w).byValue _ _ hy;simp[carriedByValue] at this
  |inr ks'=>obtain⟨c',e,hc'⟩:=hy;cases e;rw[hc.inj hc']
theorem z3T: ∀{x y:NK} {vs:List bb},bH (ItN P w h) x vs->bH (ItN P w h) y vs->x=y
 |_,_,_, .nil, .nil=>rfl
 |_,_,_, .cons a b, .cons c d=>by rw[zct a c,z3T b d]
variable{A:bu}{E:bb->be->Prop}{s:be}
def z4y{o:bJ}{items:Array bb}{n m:Nat}{Q:Bool->be->Prop}(ho:s.heap.get? a=some o)(hc:o.cls= .type "tuple")(hd:o.data= .seq items n)(hi: ∀v∈items.toList,∀(R:Bool->be->Prop) E,R true s->bm M A (fm m v) R E s)(q:Q true s):bm M A (fm (m+1) (.ref a)) Q E s:=by
 have hT:s.TypeIs (.ref a) "tuple" :=⟨o,ho,hc⟩
 rw[fm]
 refine ba (cf hT PySem.F.slot_tuple_eq.lookup ?_)
 dsimp only
 refine ba (cO hT isSubtype_tuple_tuple ?_)
 rw[qh (by decide)]
 refine ba (wpAny_seqItems ho hd ?_)
 refine ba ?_
 dsimp only[l7]
 rw[<-Array.forIn_toList]
 refine cP _ (λr b s'=>b.1=none/\s'=s/\∀v∈r,v∈items.toList) _ ?_ ?_ _ _ ⟨rfl,rfl,λv hv=>hv⟩
 .rintro v r b s' ⟨_,rfl,hm⟩
  refine ba (hi v (hm v c9) _ _ ?_)
  rw[qh (by decide)]
  exact bf ⟨rfl,rfl,λu hu=>hm u (b7 _ hu)⟩
 .rintro ⟨b1,b2⟩ s' ⟨hb,rfl,_⟩
  dsimp only at hb
  subst hb
  exact bf q
theorem z4z: ∀{ks:List Key} {vs:List bb},ItemsAre (Y8 P w) ks vs->ItemsAre (Y8 P' w') ks vs
 |_,_, .nil=> .nil
 |_,_, .cons a b=> .cons a (z4z b)
def z7B(hk:dL (Y8 P w) h ks c):dL (Y8 P' w') h ks c:=by
 obtain⟨o,items,n,h1,h2,h3,h4⟩:=hk
 exact⟨o,items,n,h1,h2,h3,z4z h4⟩
def zeU(hu:A.units<cLine)(hx:ItN P w s.heap x u)(hy:ItN P w s.heap y v):SeqAt.EqAt A s u v (decide (x=y)):=λprog w' E Q q=>by
 cases x with
 |inl k=>
  cases y with
  |inl k'=>exact(Y8 prog w').eqBool (a:=k) (b:=k') hx hy (by rw[show decide (k=k')=decide ((Sum.inl k:Key⊕List Key)=Sum.inl k') by by_cases e:k=k'<;>simp[e]];exact q)
  |inr ks=>
   obtain⟨c,rfl,o,items,n,h1,h2,h3,_⟩:=hy
   rw[decide_eq_false (λe=>nomatch e)] at q
   rcases Q2 hx with⟨i,t,rfl,rfl⟩|⟨z,t,rfl,rfl⟩
   .exact SeqAt.EqAt.int_tuple i t ⟨o,h1,h2,n,h3⟩ hu prog w' E Q q
   .exact SeqAt.EqAt.str_tuple z t ⟨o,h1,h2,n,h3⟩ hu prog w' E Q q
 |inr ks=>
  obtain⟨c,rfl,hc⟩:=hx
  cases y with
  |inl k'=>
   obtain⟨o,items,n,h1,h2,h3,_⟩:=hc
   rw[decide_eq_false (λe=>nomatch e)] at q
   rcases Q2 hy with⟨i,t,rfl,rfl⟩|⟨z,t,rfl,rfl⟩
   .exact SeqAt.EqAt.tuple_int i t ⟨o,h1,h2,n,h3⟩ hu prog w' E Q q
   .exact SeqAt.EqAt.tuple_str z t ⟨o,h1,h2,n,h3⟩ hu prog w' E Q q
  |inr ks'=>
   obtain⟨c',rfl,hc'⟩:=hy
   refine wpAny_eqBool_tuple (knd:=Y8 prog w') hu (z7B hc) (z7B hc') ?_
   rw[show decide (ks=ks')=decide ((Sum.inr ks:Key⊕List Key)=Sum.inr ks') by by_cases e:ks=ks'<;>simp[e]];exact q
def zcu{α:Type}[DecidableEq α](x y:List α):((B3 (min x.length y.length)).all (λj=>decide (x[j]? =y[j]?))&&x.length==y.length)=decide (x=y):=by
 rw[P8]
 erw[l9,B2,O1,decide_eq_true_eq,beq_iff_eq]
 constructor
 .rintro ⟨h1,h2⟩
  apply List.ext_getElem?
  intro j
  by_cases hj:j<x.length
  .exact h1 j (by lia)
  .rw[List.getElem?_eq_none (by lia),List.getElem?_eq_none (by lia)]
 .rintro rfl;exact⟨λ_ _=>rfl,rfl⟩
theorem Paired.get2{α β:Type}{F:α->β->Prop}: ∀{l:List α} {m:List β},bH F l m->∀j (h1:j<l.length) (h2:j<m.length),F l[j] m[j]
 |_,_, .cons a b,0,_,_=>a
 |_,_, .cons a b,j+1,h1,h2=>Paired.get2 b j (by simpa using h1) (by simpa using h2)
def zeV{Q:Bool->be->Prop}(hu:A.units+1<cLine)(hx:IsN P w s.heap x a)(hy:IsN P w s.heap y b)(q:Q (decide (x=y)) s):bm (bo P w) A (eqBool (.ref a) (.ref b)) Q E s:=by
 by_cases e:a=b
 .subst e
  obtain⟨o,items,n,h1,h2,h3,h4⟩:=hx
  obtain⟨o',items',n',k1,k2,k3,k4⟩:=hy
  obtain rfl:o=o':=Option.some.inj (h1.symm.trans k1)
  rw[h3] at k3
  injection k3 with k3 _
  subst k3
  obtain rfl:=z3T h4 k4
  exact SeqAt.EqAt.same _ P w E Q (by simpa using q)
 .obtain⟨o,items,n,h1,h2,h3,h4⟩:=hx
  obtain⟨o',items',n',k1,k2,k3,k4⟩:=hy
  have l1:x.length=items.size:=by have:=Paired.length h4;simpa using this
  have l2:y.length=items'.size:=by have:=Paired.length k4;simpa using this
  refine SeqAt.EqAt.of_refs e (SeqAt.RcAt.tuples (e:=λj=>decide (x[j]? =y[j]?)) ⟨o,h1,h2,n,h3⟩ ⟨o',k1,k2,n',k3⟩ (by lia) λj j1 j2=> ?_) P w E Q ?_
  .have:=zeU (A:=A.in1) (show A.units+1<cLine from hu) (Paired.get2 h4 j (by lia) (by simpa using j1)) (Paired.get2 k4 j (by lia) (by simpa using j2))
   rw[List.getElem?_eq_getElem (by lia),List.getElem?_eq_getElem (by lia)]
   simpa using this
  .rw[<-l1,<-l2,zcu];exact q
def za2{Q:Int->be->Prop}(hu:A.units<cLine)(hk:ItN P w s.heap k v)(q:Q (hsN P w k) {s with toks:=s.toks+drN k}):bm (bo P w) A (pyHash v) Q E s:=by
 cases k with
 |inl k=>exact(Y8 P w).pyHash hk q
 |inr ks=>obtain⟨c,rfl,hc⟩:=hk;exact wpAny_pyHash_tuple hu hc q
def za3{k:NK}{Q:Int->be->Prop}(hu:A.units+1<cLine)(hk:IsN P w s.heap k a)(q:Q (fI (Builtin.Tuple.tupleHashOf (k.map (hsN P w)))) {s with toks:=s.toks+((k.map drN).sum+1)}):bm (bo P w) A (pyHash (.ref a)) Q E s:=by
 obtain⟨o,items,n,ho,hc,hd,hi⟩:=hk
 have hT:s.TypeIs (.ref a) "tuple" :=⟨o,ho,hc⟩
 delta pyHash
 delta pyHashByItsType
 refine ba (wpAny_cRoomFor_or (.inr (by lia)) ?_)
 refine ba (cf hT PySem.F.slot_tuple_hash.lookup ?_)
 rw[qh (show ¬(some (Value.builtin "tuple.__hash__")==some Value.none)=true by rw[beq_builtin_none];decide)]
 refine ba (cf hT PySem.F.slot_tuple_hash.lookup ?_)
 refine ba (wpAny_callSpecialIfBoundUnlessNone?_slot hT PySem.F.slot_tuple_hash (bD PySem.F.slot_tuple_hash hT PySem.F.entry_tuple_hash ?_ (PySem.F.args_tuple_hash_1 _)))
 change bm _ A.in1 (Builtin.Tuple.tupleItemsOf (Value.ref a)>>=_) _ _ s
 refine ba (wpAny_tupleItemsOf ho hd (ba ?_))
 rw[<-Array.forIn_toList]
 refine cP _ (λr (b:Array Int) s'=> ∃d l,k=d++l/\bH (ItN P w s.heap) l r/\b.toList=d.map (hsN P w)/\s'={s with toks:=s.toks+(d.map drN).sum}) _ ?_ ?_ _ _ ⟨[],k,rfl,hi,rfl,rfl⟩
 .rintro x r b s' ⟨d,l,rfl,hl,hb,rfl⟩
  cases hl with
  | @cons z _ l' _ h1 hl'=>
   refine ba (za2 (A:=A.in1) (s:={s with toks:=s.toks+(d.map drN).sum}) (show A.units+1<cLine from hu) h1 ?_)
   have fin: ∃d' l2,d++z::l'=d'++l2/\bH (ItN P w s.heap) l2 r/\(b.push (hsN P w z)).toList=d'.map (hsN P w)/\({s with toks:=s.toks+(d.map drN).sum+drN z}:be)={s with toks:=s.toks+(d'.map drN).sum}:=⟨d++[z],l',by simp,hl',by simp[hb],by simp[F6]⟩
   exact bf fin
 .rintro b s' ⟨d,l,rfl,hl,hb,rfl⟩
  cases hl
  rw[e8] at q
  change bm _ A.in1 (retInt (Builtin.Tuple.tupleHashOf b.toList)) _ _ _
  rw[hb]
  refine wpAny_ret_mkInt ?_
  delta fI at q
  show bm _ _ (if(decide (-(2:Int)^63<=Builtin.Tuple.tupleHashOf (d.map (hsN P w)))&&decide (Builtin.Tuple.tupleHashOf (d.map (hsN P w))<2^63))=true then _ else _) Q E _
  split
  .rename_i hr
   rw[qy hr] at q
   exact bf (by simpa[F6] using q)
  .rename_i hr
   rw[qh hr] at q
   exact ba (cC (bf (by simpa[F6] using q)))
def z7C{Q:Bool->be->Prop}(hk:IsN P w s.heap k a)(q:Q true s):bm (bo P w) A (fm 8 (.ref a)) Q E s:=by
 obtain⟨o,items,n,h1,h2,h3,h4⟩:=hk
 refine z4y h1 h2 h3 (λv hv R E' r=> ?_) q
 have all: ∀{k:NK} {vs:List bb},bH (ItN P w s.heap) k vs->∀v∈vs,∃z,ItN P w s.heap z v:=by
  intro k vs p
  induction p with
  |nil=>intro v hv;cases hv
  |cons a b ih=>
   intro v hv
   rcases c8.mp hv with rfl|hv
   .exact⟨_,a⟩
   .exact ih v hv
 obtain⟨z,hz⟩:=all h4 v hv
 cases z with
 |inl k=>rw[dP _ ((Y8 P w).byValue _ _ hz)];exact bf r
 |inr ks=>
  obtain⟨c,rfl,o,items,n,h1,h2,h3,h4⟩:=hz
  exact z4y h1 h2 h3 (λv hv R E' r=>by rw[dP _ (h4.byValue v hv)];exact bf r) r
def z7D{o:bJ}{ep:Nat}(ho:h.get? d=some o)(hd:o.data= .dict es ep)(hs:Heap.SameBut d h h'): ∀{k:NK} {vs:List bb},bH (ItN P w h) k vs->bH (ItN P w h') k vs:=λp=>Paired.mapP p λz v q=>by
 cases z with
 |inl k=>exact q
 |inr ks=>obtain⟨c,rfl,hc⟩:=q;exact⟨c,rfl,hc.keeps ho hd hs⟩
end
def z1f P w:HeapKind P w NK where
 is:=IsN P w
 hash:=λk=>fI (Builtin.Tuple.tupleHashOf (k.map (hsN P w)))
 draws:=λk=>(k.map drN).sum+1
 room:=λA=>A.units+1<cLine
 inj:=λ⟨o,items,n,h1,_,h3,h4⟩ ⟨o',items',n',k1,_,k3,k4⟩=>by
  obtain rfl:o=o':=Option.some.inj (h1.symm.trans k1)
  rw[h3] at k3
  injection k3 with k3 _
  subst k3
  exact z3T h4 k4
 keeps:=λ{h h' k a d o es ep} ⟨o',items,n,h1,h2,h3,h4⟩ ho hd hs=>by
  have hne:a≠d:=by
   rintro rfl
   obtain rfl:o'=o:=Option.some.inj (h1.symm.trans ho)
   rw[hd] at h3;cases h3
  exact⟨o',items,n,(hs.2 a hne).trans h1,h2,h3,z7D ho hd hs h4⟩
 pyHash:=λhu hk q=>za3 hu hk q
 eqBool:=λhu hx hy q=>zeV hu hx hy q
 quiet:=λhk q=>z7C hk q
def z4A{A:bu}(hu:A.units+2<cLine):(z1f P w).room A.in1:=hu
inductive HO where
 |lst (xs:List V)
 |tup (xs:List V)
 |dK (kvs:List (Key×V))|dT (kvs:List (NK×V))
 |set (S:Int->Bool) (n:Nat)
 |ins (C dx:Addr) (fs:List (Str×V))
 |own (x:Addr)
 |xd (fs:List (Str×V))
 |met (f x:Addr)
 |rng (lo hi:Int)
 |frz (o:bJ) (u:HO)
 |tbl (ps:Array bb)
 |ext (φ:Heap->Prop)
abbrev Hp:=Addr->Option HO
noncomputable def upd(H:Hp)(a:Addr)(o:HO):Hp:=λb=>if b=a then some o else H b
def y6:upd H a o a=some o:=by delta upd;rw[qy rfl]
def y3(h:b≠a):upd H a o b=H b:=by delta upd;rw[qh h]
def z0o{H:Hp}{a b:Addr}{o u:HO}(h:H a=some o)(h':H b=some u)(d:o≠u):a≠b:=by
 intro e;subst e;rw[h] at h';exact d (Option.some.inj h')
def j0{H:Hp}{a b:Addr}{o:HO}(h:H a=some o)(h':H b=none):a≠b:=by
 intro e;subst e;rw[h] at h';cases h'
def TKi(H:Hp):Key⊕List Key->V->Prop
 | .inl k,x=>x=kV k
 | .inr ks,x=> ∃c,x= .ref c/\H c=some (.tup (ks.map kV))
def TK(H:Hp)(k:NK)(b:Addr):Prop:= ∃xs,H b=some (.tup xs)/\bH (TKi H) k xs
def TK.stay(ht: ∀b xs,H b=some (.tup xs)->H' b=some (.tup xs))(h:TK H k b):TK H' k b:=by
 obtain⟨xs,h1,h2⟩:=h
 refine⟨xs,ht _ _ h1,Paired.mapP h2 λz x q=> ?_⟩
 cases z with
 |inl k=>exact q
 |inr ks=>obtain⟨c,e,q⟩:=q;exact⟨c,e,ht _ _ q⟩
section
variable(P:bp)(w:br)
def K0(H:Hp)(h:Heap)(a:Addr):HO->Prop
 | .lst xs=>xs.length<=qg/\∃(its:List bb) (n:Nat),g7 xs its/\h.get? a=some {cls:= .type "list",data:= .seq its.toArray n}
 | .tup xs=>xs.length<=qg/\∃its:List bb,g7 xs its/\gl h a its.toArray
 | .dK kvs=>kvs.length<=qg/\(a==bF)=false/\∃vs,KV kvs vs/\h.DictOf (Y8 P w) a vs
 | .dT kvs=>kvs.length<=qg/\(a==bF)=false/\∃xs:List (NK×Addr×bb),
  bH (λ(p:NK×V) (q:NK×Addr×bb)=>p.1=q.1/\TK H p.1 q.2.1/\RelV p.2 q.2.2) kvs xs/\
  ∃o es ep,h.get? a=some o/\o.ExactDict/\o.data= .dict es ep/\es.toList=xs.map (entryOfKey (z1f P w))/\(xs.map (·.1)).Nodup
 | .set S n=>h.SetOf (intKind P w) a S n
 | .ins C dx fs=>H dx=some (.own a)/\fs.length<=1000/\dx≠a/\h.get? a=some (W.instObj C dx)/\
  ∃mA,h.Ns1 dx mA/\(∀f,RelO (fs.lookup f) (mA f))/\PySem.Within mA (fs.map (·.1))
 | .own _=> ∃o,h.get? a=some o
 | .xd fs=> ∃mA,h.Ns1 a mA/\∀f,RelO (fs.lookup f) (mA f)
 | .rng lo hi=> ∃t u v,h.get? a=some {cls:= .type "range",data:= .fields #[.int lo t, .int hi u, .int 1 v]}
 | .frz o u=>h.get? a=some o/\K0 H h a u
 | .tbl ps=>h.get? a=some {cls:= .none,data:= .fields ps}
 | .met f x=>h.get? a=some (W.methodObj (.ref f) (.ref x))
 | .ext φ=>φ h/\(∃o,h.get? a=some o)/\∀h1 h2:Heap,φ h1->(∀o,h1.get? a=some o->h2.get? a=some o)->φ h2
def HOk(H:Hp)(h:Heap):Prop:= ∀a o,H a=some o->K0 P w H h a o
end
section
variable{P:bp}{w:br}{H H':Hp}{h h':Heap}{a:Addr}{o:HO}
def K0.lt(x:K0 P w H h a o):a<h.objs.size:=by
 cases o with
 |lst xs=>obtain⟨_,_,_,_,e⟩:=x;exact Heap.lt_size e
 |tup xs=>obtain⟨_,_,_,p⟩:=x;exact p.lt
 |dK kvs=>obtain⟨_,_,_,_,o,_,_,e,_⟩:=x;exact Heap.lt_size e
 |dT kvs=>obtain⟨_,_,_,_,o,_,_,e,_⟩:=x;exact Heap.lt_size e
 |set S n=>obtain⟨o,_,_,_,e,_⟩:=x;exact Heap.lt_size e
 |ins C dx fs=>obtain⟨_,_,_,e,_⟩:=x;exact Heap.lt_size e
 |own y=>obtain⟨_,e⟩:=x;exact Heap.lt_size e
 |xd fs=>obtain⟨_,⟨_,_,_,e,_⟩,_⟩:=x;exact Heap.lt_size e
 |rng lo hi=>obtain⟨_,_,_,e⟩:=x;exact Heap.lt_size e
 |frz ob u=>obtain⟨e,_⟩:=x;exact Heap.lt_size e
 |tbl ps=>exact Heap.lt_size (show h.get? a=some _ from x)
 |met f y=>exact Heap.lt_size (show h.get? a=some _ from x)
 |ext φ=>obtain⟨_,⟨_,e⟩,_⟩:=x;exact Heap.lt_size e
def K0.stay(x:K0 P w H h a o)(k: ∀b u,(b=a\/H b=some (.own a))->h.get? b=some u->h'.get? b=some u)
 (ho: ∀b,H b=some (.own a)->H' b=some (.own a)) (ht: ∀b xs,H b=some (.tup xs)->H' b=some (.tup xs)):K0 P w H' h' a o:=by
 induction o with
 |lst xs=>obtain⟨z,its,n,r,e⟩:=x;exact⟨z,its,n,r,k _ _ (.inl rfl) e⟩
 |tup xs=>obtain⟨z,its,r,ob,e,c⟩:=x;exact⟨z,its,r,ob,k _ _ (.inl rfl) e,c⟩
 |dK kvs=>obtain⟨z,y,vs,r,ob,es,ep,e,c⟩:=x;exact⟨z,y,vs,r,ob,es,ep,k _ _ (.inl rfl) e,c⟩
 |dT kvs=>
  obtain⟨z,y,xs,r,ob,es,ep,e,c⟩:=x
  exact⟨z,y,xs,Paired.mapP r λp q z=>⟨z.1,z.2.1.stay ht,z.2.2⟩,ob,es,ep,k _ _ (.inl rfl) e,c⟩
 |set S n=>obtain⟨ob,es,ep,t,e,c⟩:=x;exact⟨ob,es,ep,t,k _ _ (.inl rfl) e,c⟩
 |ins C dx fs=>
  obtain⟨d,z,ne,e,mA,⟨od,es,ep,e2,c⟩,r⟩:=x
  exact⟨ho _ d,z,ne,k _ _ (.inl rfl) e,mA,⟨od,es,ep,k _ _ (.inr d) e2,c⟩,r⟩
 |own y=>obtain⟨ob,e⟩:=x;exact⟨ob,k _ _ (.inl rfl) e⟩
 |xd fs=>obtain⟨mA,⟨od,es,ep,e,c⟩,r⟩:=x;exact⟨mA,⟨od,es,ep,k _ _ (.inl rfl) e,c⟩,r⟩
 |rng lo hi=>obtain⟨t,u,v,e⟩:=x;exact⟨t,u,v,k _ _ (.inl rfl) e⟩
 |frz ob u ih=>obtain⟨e,q⟩:=x;exact⟨k _ _ (.inl rfl) e,ih q⟩
 |tbl ps=>
  have e:h.get? a=some {cls:= .none,data:= .fields ps}:=x
  show h'.get? a=some {cls:= .none,data:= .fields ps}
  exact k a _ (.inl rfl) e
 |met f y=>
  have e:h.get? a=some (W.methodObj (.ref f) (.ref y)):=x
  show h'.get? a=some (W.methodObj (.ref f) (.ref y))
  exact k a _ (.inl rfl) e
 |ext φ=>obtain⟨p,⟨o,e⟩,st⟩:=x;exact⟨st _ _ p λo q=>k _ _ (.inl rfl) q,⟨o,k _ _ (.inl rfl) e⟩,st⟩
def HOk.lt(x:HOk P w H h)(e:H a=some o):a<h.objs.size:=(x a o e).lt
def HOk.fresh(x:HOk P w H h)(e:h.objs.size<=a):H a=none:=by
 cases q:H a with
 |none=>rfl
 |some u=>exact absurd (l4 (x.lt q) e) (A8 _)
def HOk.kept(x:HOk P w H h)(k: ∀b u,h.get? b=some u->h'.get? b=some u):HOk P w H h':=λa o e=>
 (x a o e).stay (λb u _ q=>k b u q) (λ_ q=>q) λ_ _ q=>q
def HOk.laid(x:HOk P w H h)(k: ∀b u,h.get? b=some u->h'.get? b=some u)(hp:h.objs.size<=a)(new:K0 P w (upd H a o) h' a o):HOk P w (upd H a o) h':=λb u e=>by
 have hn:=x.fresh hp
 by_cases hb:b=a
 .subst hb;rw[y6] at e;cases e;exact new
 .rw[y3 hb] at e
  exact(x b u e).stay (λc v _ q=>k c v q) (λc q=>by rw[y3 (j0 q hn)];exact q) λc xs q=>by rw[y3 (j0 q hn)];exact q
end
def Rd(H:Hp)(a:Addr)(u:HO):Prop:=H a=some u\/∃o,H a=some (.frz o u)
def Rd.ok(r:Rd H a u)(x:HOk P w H h):K0 P w H h a u:=by
 rcases r with r|⟨o,r⟩
 .exact x a u r
 .obtain⟨_,q⟩:=x a _ r
  exact q
def Mut:Option HO->Prop
 |some (.lst _)=>True
 |some (.dK _)=>True
 |some (.dT _)=>True
 |some (.set _ _)=>True
 |some (.ins _ _ _)=>True
 |some (.ext _)=>True
 |_=>False
section
variable{P:bp}{w:br}{H:Hp}{h h':Heap}{x e:Addr}{o':HO}
def HOk.write(ok:HOk P w H h)(mu:Mut (H x))(he:e=x\/H e=some (.own x))(k: ∀b u,b≠e->h.get? b=some u->h'.get? b=some u)(heo: ∃u,h'.get? e=some u)
 (new:K0 P w (upd H x o') h' x o'):HOk P w (upd H x o') h':=λb u q=>by
 have nown: ∀c y,H c=some (.own y)->c≠x:=λc y r z=>by subst z;rw[r] at mu;exact mu
 have ntup: ∀c xs,H c=some (.tup xs)->c≠x:=λc xs r z=>by subst z;rw[r] at mu;exact mu
 by_cases hb:b=x
 .subst hb;rw[y6] at q;cases q;exact new
 .rw[y3 hb] at q
  by_cases hbe:b=e
  .have q':H b=some (.own x):=by
    rcases he with z|z
    .exact absurd (hbe.trans z) hb
    .rw[hbe];exact z
   rw[q] at q';cases q'
   obtain⟨v,hv⟩:=heo
   exact⟨v,by rw[hbe];exact hv⟩
  .refine(ok b u q).stay (λc v hc r=>k c v ?_ r) (λc r=>by rw[y3 (nown c b r)];exact r) λc xs r=>by rw[y3 (ntup c xs r)];exact r
   rcases hc with rfl|hc
   .exact hbe
   .rintro rfl
    rcases he with z|z
    .exact nown c b hc z
    .rw[hc] at z;cases z;exact hb rfl
end
structure Un(fs ex:List Addr)(H H':Hp)(h h':Heap):Prop where
 keep: ∀b o,h.get? b=some o->H b=none->b∉fs->b∉ex->h'.get? b=some o
 slot: ∀b o,h.get? b=some o->H b=none->b∈fs->b∉ex->∃sl,h'.get? b=some {o with slots:=sl}
 free: ∀b o,h.get? b=some o->H b=none->b∉ex->H' b=none
 there: ∀b o,h.get? b=some o->b∉ex->∃o',h'.get? b=some o'
 tups: ∀b xs,H b=some (.tup xs)->H' b=some (.tup xs)
 frzs: ∀b o u,H b=some (.frz o u)->H' b=some (.frz o u)
 tbls: ∀b ps,H b=some (.tbl ps)->∃more,H' b=some (.tbl (ps++more))
section
variable{fs fs' ex ex':List Addr}{H H1 H2:Hp}{h h1 h2 h':Heap}{a x e:Addr}{o:HO}
def Un.any(u:Un fs ex H H1 h h1)(q:h.get? b=some ob)(n:H b=none)(hx:b∉ex): ∃sl,h1.get? b=some {ob with slots:=sl}:=by
 by_cases hb:b∈fs
 .exact u.slot b ob q n hb hx
 .exact⟨ob.slots,u.keep b ob q n hb hx⟩
def Un.kept(k: ∀b u,h.get? b=some u->h'.get? b=some u):Un fs ex H H h h':=
 ⟨λb ob q _ _ _=>k b ob q,λb ob q _ _ _=>⟨ob.slots,k b ob q⟩,λ_ _ _ n _=>n,λb ob q _=>⟨ob,k b ob q⟩,λ_ _ q=>q,λ_ _ _ q=>q,λ_ ps q=>⟨#[],by rw[q];simp⟩⟩
def Un.refl:Un fs ex H H h h:=Un.kept λ_ _ q=>q
def Un.laid(k: ∀b u,h.get? b=some u->h'.get? b=some u)(hp:h.objs.size<=a)(hn:H a=none):Un fs ex H (upd H a o) h h' where
 keep:=λb u q _ _ _=>k b u q
 slot:=λb u q _ _ _=>⟨u.slots,k b u q⟩
 free:=λb u q n _=>by rw[y3 (m5 (l4 (Heap.lt_size q) hp))];exact n
 there:=λb u q _=>⟨u,k b u q⟩
 tups:=λb xs q=>by rw[y3 (j0 q hn)];exact q
 frzs:=λb u xs q=>by rw[y3 (j0 q hn)];exact q
 tbls:=λb ps q=>⟨#[],by rw[y3 (j0 q hn),q];simp⟩
def Un.write(mu:Mut (H x))(he:e=x\/H e=some (.own x))(k: ∀b u,b≠e->h.get? b=some u->h'.get? b=some u)(heo: ∃u,h'.get? e=some u):Un fs ex H (upd H x o) h h':=by
 have hx: ∀b,H b=none->b≠x:=λb n z=>by subst z;rw[n] at mu;exact mu
 have hb: ∀b,H b=none->b≠e:=λb n z=>by
  subst z
  rcases he with r|r
  .exact hx b n r
  .rw[n] at r;cases r
 have hm: ∀b u,H b=some u->¬Mut (some u)->b≠x:=λb u q nm z=>by subst z;rw[q] at mu;exact nm mu
 refine⟨λb u q n _ _=>k b u (hb b n) q,λb u q n _ _=>⟨u.slots,k b u (hb b n) q⟩,λb u q n _=>by rw[y3 (hx b n)];exact n,λb u q _=> ?_,
  λb xs q=>by rw[y3 (hm b _ q λz=>z)];exact q,λb u xs q=>by rw[y3 (hm b _ q λz=>z)];exact q,λb ps q=>⟨#[],by rw[y3 (hm b _ q λz=>z),q];simp⟩⟩
 by_cases hbe:b=e
 .subst hbe;exact heo
 .exact⟨u,k b u hbe q⟩
end
noncomputable def trk(h:Heap)(H:Hp):List Addr:=(B3 h.objs.size).filter λa=>(H a).isSome
def za4(h:Heap)(H:Hp):Heap:=W.hideAll h (trk h H)
def z7E(h:Heap) H:(za4 h H).objs.size=h.objs.size:=W.hideAll_size _ _
def za5{h:Heap}(e:h.get? b=some o)(n:H b=none):(za4 h H).get? b=some o:=
 W.hideAll_get _ e λhm=>by
  have q:(H b).isSome=true:=(E1.mp hm).2
  rw[n] at q;simp at q
def zcv{h:Heap}(e:(za4 h H).get? b=some o):h.get? b=some o/\H b=none:=by
 have e':h.get? b=some o:=W.of_hideAll (trk h H) e
 refine⟨e', ?_⟩
 cases q:H b with
 |none=>rfl
 |some x=>
  have hm:b∈trk h H:=E1.mpr ⟨O1.mpr (Heap.lt_size e'),by simp[q]⟩
  have z:(za4 h H).get? b=none:=W.hideAll_none (trk h H) hm
  rw[z] at e;cases e
structure Mod(K:W.Frag)(mg:Str->Option bb)(base:Heap):Prop where
 kin:K.In base
 glob:base.Ns bq mg
 blt: ∃mb,base.Ns fJ mb/\∀x:Str,x≠ "__name__" ->mb x=bT x
 nolimit:base.NoLimit
structure Cx where
 prog:bp
 w:br
 K:W.Frag
 mg:Str->Option bb
 base:Heap
 A:bu
 N:List Str
 s₀:be
 H₀:Hp
 env:dw
 outer:List dw
 stack:List dw
 ex:List Addr
 fn:Str->Bool
 calm:Bool
 pn:List (Addr×bJ)
 xe:bb->be->Prop
noncomputable def frs(l:List dw):List Addr:=l.filterMap (·.frame)
abbrev Cx.fs(X:Cx):List Addr:=frs X.outer
def Vis(sc:Scope)(x:Str):Prop:=sc.names.lookup x=some .local\/sc.names.lookup x=some .cell\/sc.names.lookup x=some .free
def Loc(sc:Scope)(x:Str):Prop:=sc.names.lookup x=some .local\/sc.names.lookup x=some .cell
def zkT(env:dw)(h:Heap)(m:Str->Option bb)(x:Str)(u:bb):Prop:=
 (env.kindOf x=some .local/\m x=some u)\/((env.kindOf x=some .cell\/env.kindOf x=some .free)/\∃c,env.cells.lookup x=some c/\h.IsCell c (some u))
structure Cx.Ok(X:Cx):Prop where
 mod:Mod X.K X.mg X.base
 kind:X.env.scope.kind= .function
 glob:X.env.globals=bq
 blt:X.env.builtins=fJ
 above:X.s₀.heap.objs.size<=X.env.locals
 inj: ∀x y c,X.env.cells.lookup x=some c->X.env.cells.lookup y=some c->x=y
 has: ∀x,(X.env.kindOf x=some .cell\/X.env.kindOf x=some .free)->∃c,X.env.cells.lookup x=some c
 cab: ∀x c,X.fn x=true->X.env.cells.lookup x=some c->X.s₀.heap.objs.size<=c
 hd:X.calm=true->X.A.handled=none
 frames:X.A.frames=some X.stack
 stk:X.stack=X.outer\/(X.stack=X.env::X.outer/\X.env.frame=some X.env.locals)
 exf: ∀b∈X.ex,b≠X.env.locals/\∀x c,X.env.cells.lookup x=some c->c≠b
 bs: ∀b o,X.base.get? b=some o->X.s₀.heap.get? b=some o/\X.H₀ b=none
 bsz:X.base.objs.size<=X.s₀.heap.objs.size
 noex: ∀b o,X.base.get? b=some o->b∉X.ex
 exfs: ∀b∈X.ex,b∉X.fs
 funs:X.s₀.heap.FunFrames X.base X.outer
 frf: ∀b∈X.fs,X.H₀ b=none
structure Inv(X:Cx)(qz:List (Addr×bJ))(σ:List (Option V))(H:Hp)(s:be):Prop where
 ok:X.Ok
 os:s.os=X.s₀.os
 bare:cL s.gens
 base:Un X.fs X.ex X.H₀ H X.s₀.heap s.heap
 loc: ∃m,s.heap.Ns X.env.locals m/\∀(i:Nat) (x:Str) (v:V),X.N[i]? =some x->σ[i]? =some (some v)->Vis X.env.scope x->∃u,RelV v u/\zkT X.env s.heap m x u
 cell: ∀x c,X.env.cells.lookup x=some c->∃v,s.heap.IsCell c v
 free:H X.env.locals=none
 freeC: ∀x c,X.env.cells.lookup x=some c->H c=none
 pin: ∀p∈X.pn++qz,s.heap.get? p.1=some p.2/\H p.1=none/\p.1≠X.env.locals/\p.1∉X.fs/\∀v,p.2.data≠ .cell v
 hok:HOk X.prog X.w H s.heap
 len:σ.length=X.N.length
section
variable{X:Cx}{qz:List (Addr×bJ)}{σ:List (Option V)}{H H':Hp}{s:be}{h':Heap}
def Cx.Ok.nofr(ok:X.Ok)(e:X.base.get? b=some o):b∉X.fs:=λhb=>by
 have:=(ok.funs.mem hb).1
 rw[e] at this;cases this
def Inv.bs(I:Inv X qz σ H s): ∀b o,X.base.get? b=some o->s.heap.get? b=some o/\H b=none:=λb o e=>
 ⟨I.base.keep b o (I.ok.bs b o e).1 (I.ok.bs b o e).2 (I.ok.nofr e) (I.ok.noex b o e),I.base.free b o (I.ok.bs b o e).1 (I.ok.bs b o e).2 (I.ok.noex b o e)⟩
def Inv.bk(I:Inv X qz σ H s): ∀b o,X.base.get? b=some o->s.heap.get? b=some o:=λb o e=>(I.bs b o e).1
def Inv.mod(I:Inv X qz σ H s):Mod X.K X.mg X.base:=I.ok.mod
def Inv.kIn(I:Inv X qz σ H s):X.K.In s.heap:=I.ok.mod.kin.keeps I.bk
def Inv.lt(I:Inv X qz σ H s):X.env.locals<s.heap.objs.size:=let⟨_,hn,_⟩:=I.loc;hn.lt
def Inv.sz(I:Inv X qz σ H s):X.s₀.heap.objs.size<=s.heap.objs.size:=C1 I.ok.above (S4 I.lt)
def Inv.nofs(I:Inv X qz σ H s)(h:s.heap.objs.size<=a):a∉X.fs:=λhb=>by
 obtain⟨_,o,ho,_⟩:=I.ok.funs.mem hb
 exact absurd (l4 (Heap.lt_size ho) (C1 I.sz h)) (A8 _)
def Inv.cne(I:Inv X qz σ H s): ∀x c,X.env.cells.lookup x=some c->c≠X.env.locals:=λx c e z=>by
 obtain⟨v,o,ho,hd⟩:=I.cell x c e
 obtain⟨m,⟨o',es,ep,ho',hd',_⟩,_⟩:=I.loc
 rw[z,ho'] at ho;cases ho;rw[hd'] at hd;cases hd
def Inv.funs(I:Inv X qz σ H s):s.heap.FunFrames X.base X.outer:=by
 have all: ∀(l:List dw),(∀b∈frs l,b∈X.fs)->X.s₀.heap.FunFrames X.base l->s.heap.FunFrames X.base l:=by
  intro l
  induction l with
  |nil=>intro _ _;trivial
  |cons env r ih=>
   intro hs hl
   obtain⟨hk,⟨L,o,hf,hn,ho,hd⟩,hr⟩:=hl
   have hL:L∈X.fs:=hs L (by unfold frs;rw[N5,hf];exact c9)
   obtain⟨sl,e⟩:=I.base.slot L o ho (I.ok.frf L hL) hL λz=>I.ok.exfs L z hL
   exact⟨hk,⟨L,_,hf,hn,e,hd⟩,ih (λb hb=>hs b (by unfold frs;rw[N5,hf];exact b7 _ hb)) hr⟩
 exact all X.outer (λ_ hb=>hb) I.ok.funs
def Inv.stack(I:Inv X qz σ H s):s.heap.FunFrames X.base X.stack:=by
 rcases I.ok.stk with e|⟨e,hf⟩
 .rw[e];exact I.funs
 .rw[e]
  obtain⟨m,hn,_⟩:=I.loc
  refine .cons (by rw[I.ok.kind];decide) hf hn ?_ I.funs
  exact Heap.get?_none_of_le (C1 I.ok.bsz I.ok.above)
def Inv.stkSub(I:Inv X qz σ H s): ∀b∈frs X.stack,b∈X.env.locals::X.fs:=λb hb=>by
 rcases I.ok.stk with e|⟨e,hf⟩
 .rw[e] at hb;exact b7 _ hb
 .rw[e] at hb
  unfold frs at hb
  rw[N5,hf] at hb
  exact hb
def Inv.stkFree(I:Inv X qz σ H s): ∀b∈frs X.stack,H b=none:=λb hb=>by
 rcases c8.mp (I.stkSub b hb) with e|hb
 .rw[e];exact I.free
 .obtain⟨_,o,ho,_⟩:=I.ok.funs.mem hb
  exact I.base.free b o ho (I.ok.frf b hb) λz=>I.ok.exfs b z hb
def Inv.step{g':Array GenState}{t':Nat}{d':Drawn}{ch:List Addr}(I:Inv X qz σ H s)
 (hch: ∀b∈ch,(b∈X.ex\/X.s₀.heap.objs.size<=b)/\b≠X.env.locals/\(∀x c,X.env.cells.lookup x=some c->c≠b)/\∀p∈X.pn++qz,p.1≠b)
 (keep: ∀b o,b≠X.env.locals->b∉X.fs->b∉ch->s.heap.get? b=some o->H b=none->h'.get? b=some o)
 (slot: ∀b o,b≠X.env.locals->b∈X.fs->b∉ch->s.heap.get? b=some o->H b=none->∃sl,h'.get? b=some {o with slots:=sl}) (free: ∀b o,b∉ch->s.heap.get? b=some o->H b=none->H' b=none)
 (there: ∀b o,b∉ch->s.heap.get? b=some o->∃o',h'.get? b=some o')
 (tups: ∀b xs,H b=some (.tup xs)->H' b=some (.tup xs)) (frzs: ∀b o u,H b=some (.frz o u)->H' b=some (.frz o u)) (tbls: ∀b ps,H b=some (.tbl ps)->∃more,H' b=some (.tbl (ps++more)))
 (ns: ∀m,s.heap.Ns X.env.locals m->h'.Ns X.env.locals m) (hok:HOk X.prog X.w H' h') (hg:cL g'):
 Inv X qz σ H' {s with heap:=h',gens:=g',drawn:=d',toks:=t'}:=by
 have neL: ∀b o,X.s₀.heap.get? b=some o->b≠X.env.locals:=λb o e=>m5 (l4 (Heap.lt_size e) I.ok.above)
 have neC: ∀b o,X.s₀.heap.get? b=some o->b∉X.ex->b∉ch:=λb o e hx hb=>by
  rcases(hch b hb).1 with z|z
  .exact hx z
  .exact absurd (l4 (Heap.lt_size e) z) (A8 _)
 have cellK: ∀x c,X.env.cells.lookup x=some c->∀v,s.heap.IsCell c v->h'.IsCell c v:=λx c e v ⟨o,ho,hd⟩=>by
  have nch:c∉ch:=λz=>(hch c z).2.2.1 x c e rfl
  by_cases hc:c∈X.fs
  .obtain⟨sl,q⟩:=slot c o (I.cne x c e) hc nch ho (I.freeC x c e)
   exact⟨_,q,hd⟩
  .exact⟨o,keep c o (I.cne x c e) hc nch ho (I.freeC x c e),hd⟩
 refine⟨I.ok,I.os,hg,⟨λb o e n hb hx=> ?_,λb o e n hb hx=> ?_,λb o e n hx=> ?_,λb o e hx=> ?_,λb xs e=>tups b xs (I.base.tups b xs e),λb o xs e=>frzs b o xs (I.base.frzs b o xs e),λb ps e=> ?_⟩, ?_,λx c e=> ?_, ?_,λx c e=> ?_,λp hp=> ?_,hok,I.len⟩
 .exact keep b o (neL b o e) hb (neC b o e hx) (I.base.keep b o e n hb hx) (I.base.free b o e n hx)
 .obtain⟨sl,e1⟩:=I.base.slot b o e n hb hx
  obtain⟨sl',e2⟩:=slot b _ (neL b o e) hb (neC b o e hx) e1 (I.base.free b o e n hx)
  exact⟨sl',e2⟩
 .obtain⟨o',e1⟩:=I.base.there b o e hx
  exact free b o' (neC b o e hx) e1 (I.base.free b o e n hx)
 .obtain⟨o',e1⟩:=I.base.there b o e hx
  exact there b o' (neC b o e hx) e1
 .obtain⟨m1,e1⟩:=I.base.tbls b ps e
  obtain⟨m2,e2⟩:=tbls b _ e1
  exact⟨m1++m2,by rw[e2,Array.append_assoc]⟩
 .obtain⟨m,hn,hl⟩:=I.loc
  refine⟨m,ns m hn,λi x v e1 e2 e3=> ?_⟩
  obtain⟨u,r,l⟩:=hl i x v e1 e2 e3
  refine⟨u,r, ?_⟩
  rcases l with l|⟨k,c,e,z⟩
  .exact .inl l
  .exact .inr ⟨k,c,e,cellK x c e _ z⟩
 .obtain⟨v,z⟩:=I.cell x c e
  exact⟨v,cellK x c e v z⟩
 .obtain⟨m,⟨o,_,_,ho,_⟩,_⟩:=I.loc
  exact free _ o (λz=>(hch _ z).2.1 rfl) ho I.free
 .obtain⟨v,o,ho,hd⟩:=I.cell x c e
  exact free c o (λz=>(hch c z).2.2.1 x c e rfl) ho (I.freeC x c e)
 .obtain⟨e,n,ne,nf,d⟩:=I.pin p hp
  have nch:p.1∉ch:=λz=>(hch p.1 z).2.2.2 p hp rfl
  exact⟨keep p.1 p.2 ne nf nch e n,free p.1 p.2 nch e n,ne,nf,d⟩
def Inv.un{t':Nat}(I:Inv X qz σ H s)(u:Un X.fs [] H H' s.heap h')(hok:HOk X.prog X.w H' h'):Inv X qz σ H' {s with heap:=h',toks:=t'}:=by
 obtain⟨m,⟨o,es,ep,ho,r⟩,_⟩:=id I.loc
 obtain⟨sl,hL⟩:=u.any ho I.free (by simp)
 exact I.step (g':=s.gens) (d':=s.drawn) (ch:=[]) (λ_ z=>nomatch z) (λb o _ hb _ e n=>u.keep b o e n hb (by simp)) (λb o _ hb _ e n=>u.slot b o e n hb (by simp)) (λb o _ e n=>u.free b o e n (by simp)) (λb o _ e=>u.there b o e (by simp)) u.tups u.frzs u.tbls (λm' hm=>by
  obtain⟨o',es',ep',ho',r'⟩:=hm
  rw[ho] at ho';cases ho'
  exact⟨_,es',ep',hL,r'⟩) hok I.bare
def Inv.call{t':Nat}{d':Drawn}(I:Inv X qz σ H s)(u:Un (frs X.stack) ch H H' s.heap h')(hok:HOk X.prog X.w H' h')(hg:cL g')
 (hch: ∀b∈ch,(b∈X.ex\/X.s₀.heap.objs.size<=b)/\b≠X.env.locals/\(∀x c,X.env.cells.lookup x=some c->c≠b)/\∀p∈X.pn++qz,p.1≠b):
 Inv X qz σ H' {s with heap:=h',gens:=g',drawn:=d',toks:=t'}:=by
 obtain⟨m,⟨o,es,ep,ho,r⟩,_⟩:=id I.loc
 obtain⟨sl,hL⟩:=u.any ho I.free λz=>(hch _ z).2.1 rfl
 exact I.step (ch:=ch) hch (λb o hL hb hc e n=>u.keep b o e n (λz=>(c8.mp (I.stkSub b z)).elim hL hb) hc) (λb o _ _ hc e n=>u.any e n hc) (λb o hc e n=>u.free b o e n hc) (λb o hc e=>u.there b o e hc) u.tups u.frzs u.tbls (λm' hm=>by
  obtain⟨o',es',ep',ho',r'⟩:=hm
  rw[ho] at ho';cases ho'
  exact⟨_,es',ep',hL,r'⟩) hok hg
def Inv.turned{t':Nat}(I:Inv X qz σ H s)(k: ∀b o,b≠it->s.heap.get? b=some o->h'.get? b=some o)(hn:H it=none)(hL:it≠X.env.locals)
 (h1:it∈X.ex\/X.s₀.heap.objs.size<=it) (h2: ∀x c,X.env.cells.lookup x=some c->c≠it) (h3: ∀p∈X.pn++qz,p.1≠it):Inv X qz σ H {s with heap:=h',toks:=t'}:=by
 have nit: ∀b u,H b=some u->b≠it:=λb u e z=>by rw[z,hn] at e;cases e
 refine I.step (g':=s.gens) (d':=s.drawn) (ch:=[it]) (λb hb=> ?_) (λb o _ _ hc e _=>k b o (λz=>hc (by simp[z])) e) (λb o _ _ hc e _=>⟨o.slots,k b o (λz=>hc (by simp[z])) e⟩) (λ_ _ _ _ n=>n)
  (λb o hc e=>⟨o,k b o (λz=>hc (by simp[z])) e⟩) (λ_ _ e=>e) (λ_ _ _ e=>e) (λb ps e=>⟨#[],by rw[e];simp⟩) (λm hm=> ?_) (λb u e=> ?_) I.bare
 .have e:b=it:=by simpa using hb
  subst e
  exact⟨h1,hL,h2,h3⟩
 .obtain⟨o,es,ep,ho,r⟩:=hm
  exact⟨o,es,ep,k _ o (Ne.symm hL) ho,r⟩
 .refine(I.hok b u e).stay (λc v hc q=>k c v ?_ q) (λ_ q=>q) λ_ _ q=>q
  rcases hc with z|z
  .rw[z];exact nit b u e
  .exact nit c _ z
def Inv.tok(I:Inv X qz σ H s) t:Inv X qz σ H {s with toks:=t}:=I.un (h':=s.heap) (t':=t) Un.refl I.hok
def Inv.kept{t':Nat}(I:Inv X qz σ H s)(k: ∀b u,s.heap.get? b=some u->h'.get? b=some u):Inv X qz σ H {s with heap:=h',toks:=t'}:=I.un (Un.kept k) (I.hok.kept k)
def Inv.laid{t':Nat}(I:Inv X qz σ H s)(k: ∀b u,s.heap.get? b=some u->h'.get? b=some u)(hp:s.heap.objs.size<=a)(new:K0 X.prog X.w (upd H a o) h' a o):
 Inv X qz σ (upd H a o) {s with heap:=h',toks:=t'}:=I.un (Un.laid k hp (I.hok.fresh hp)) (I.hok.laid k hp new)
def Inv.write{o:HO}{t':Nat}(I:Inv X qz σ H s)(mu:Mut (H x))(he:e=x\/H e=some (.own x))(k: ∀b u,b≠e->s.heap.get? b=some u->h'.get? b=some u)(heo: ∃u,h'.get? e=some u)
 (new:K0 X.prog X.w (upd H x o) h' x o):Inv X qz σ (upd H x o) {s with heap:=h',toks:=t'}:=I.un (Un.write mu he k heo) (I.hok.write mu he k heo new)
def Inv.pins_of(I:Inv X qz σ H s)(h: ∀p∈pins',s.heap.get? p.1=some p.2/\H p.1=none/\p.1≠X.env.locals/\p.1∉X.fs/\∀v,p.2.data≠ .cell v):Inv X pins' σ H s:=
 ⟨I.ok,I.os,I.bare,I.base,I.loc,I.cell,I.free,I.freeC,λp hp=>(e9.mp hp).elim (λz=>I.pin p (e6 _ z)) (h p),I.hok,I.len⟩
def z6n{N:List Str}(hN:N.Nodup){i j:Nat}(a:N[i]? =some x)(b:N[j]? =some x):i=j:=by
 obtain⟨h1,e1⟩:=List.getElem?_eq_some_iff.mp a
 obtain⟨h2,e2⟩:=List.getElem?_eq_some_iff.mp b
 exact(List.getElem_inj hN).mp (e1.trans e2.symm)
def z7F{M:gk}{A:bu}{E:bb->be->Prop}{i:Nat}{Q:Unit->be->Prop}(I:Inv X qz σ H s)(hN:X.N.Nodup)(hi:X.N[i]? =some x)(hx:Loc X.env.scope x)(r:RelV v u)
 (h: ∀s',Inv X qz (σ.set i (some v)) H s'->(∃a,Heap.SameBut a s.heap s'.heap/\(a=X.env.locals\/X.env.cells.lookup x=some a))->Q () s') (hf:X.fn x=true\/X.env.scope.names.lookup x=some .local:=by first|exact .inl rfl|exact .inr rfl|assumption):bm M A (storeName X.env x u) Q E s:=by
 obtain⟨m,hn,hl⟩:=id I.loc
 have hcls:(X.env.scope.kind== .class||(X.env.scope.kind== .module&&X.env.locals !=X.env.globals))=false:=by rw[I.ok.kind];rfl
 have hiσ:i<σ.length:=by rw[I.len];exact(List.getElem?_eq_some_iff.mp hi).1
 have cne:=I.cne
 have tracked: ∀{a:Addr} {h':Heap},(∃o,s.heap.get? a=some o/\H a=none)->Heap.SameBut a s.heap h'->HOk X.prog X.w H h':=λ{a h'} ha hs b ob e=>by
  obtain⟨_,_,hfree⟩:=ha
  refine(I.hok b ob e).stay (λc w' hc q=>(hs.2 c ?_).trans q) (λ_ q=>q) λ_ _ q=>q
  rintro rfl
  rcases hc with rfl|hc
  .rw[hfree] at e;cases e
  .rw[hfree] at hc;cases hc
 rcases hx with hk|hk
 .refine wpAny_storeName_local hk hn (λh' hn' hs=> ?_) hcls
  obtain⟨oL,_,_,hoL,_⟩:=id hn
  refine h _ ⟨I.ok,I.os,I.bare,⟨λb o e n hb hx=> ?_,λb o e n hb hx=> ?_,I.base.free,λb o e hx=> ?_,I.base.tups,I.base.frzs,I.base.tbls⟩,⟨_,hn',λj y v' e1 e2 e3=> ?_⟩,λy c e=> ?_,I.free,I.freeC,λp hp=> ?_,tracked ⟨oL,hoL,I.free⟩ hs,by simpa using I.len⟩ ⟨_,hs, .inl rfl⟩
  .exact(hs.2 b (m5 (l4 (Heap.lt_size e) I.ok.above))).trans (I.base.keep b o e n hb hx)
  .obtain⟨sl,e1⟩:=I.base.slot b o e n hb hx
   exact⟨sl,(hs.2 b (m5 (l4 (Heap.lt_size e) I.ok.above))).trans e1⟩
  .obtain⟨o',e1⟩:=I.base.there b o e hx
   exact⟨o',(hs.2 b (m5 (l4 (Heap.lt_size e) I.ok.above))).trans e1⟩
  .by_cases hj:j=i
   .subst hj
    rw[hi] at e1;cases e1
    rw[List.getElem?_set_self hiσ] at e2
    cases e2
    exact⟨u,r, .inl ⟨hk,by simp⟩⟩
   .rw[List.getElem?_set_ne (Ne.symm hj)] at e2
    obtain⟨u',r',q⟩:=hl j y v' e1 e2 e3
    refine⟨u',r', ?_⟩
    rcases q with⟨k,e⟩|⟨k,c,e,z⟩
    .refine .inl ⟨k, ?_⟩
     have:y≠x:=λe=>hj (z6n hN e1 (e▸hi))
     simp[this,e]
    .exact .inr ⟨k,c,e,z.sameBut hs (cne y c e)⟩
  .obtain⟨w',z⟩:=I.cell y c e
   exact⟨w',z.sameBut hs (cne y c e)⟩
  .obtain⟨e,n,ne,nf,d⟩:=I.pin p hp
   exact⟨(hs.2 p.1 ne).trans e,n,ne,nf,d⟩
 .have hfn:X.fn x=true:=by
   rcases hf with z|z
   .exact z
   .rw[z] at hk;cases hk
  obtain⟨c,hc⟩:=I.ok.has x (.inl hk)
  obtain⟨w',z⟩:=I.cell x c hc
  refine wpAny_storeName_cell I.ok.kind hk hc z (λh' hc' hs=> ?_)
  obtain⟨oc,hoc,hocd⟩:=id z
  refine h {s with heap:=h'} ⟨I.ok,I.os,I.bare,⟨λb o e n hb hx=> ?_,λb o e n hb hx=> ?_,I.base.free,λb o e hx=> ?_,I.base.tups,I.base.frzs,I.base.tbls⟩,⟨m,hn.sameBut hs (Ne.symm (cne x c hc)),λj y v' e1 e2 e3=> ?_⟩,λy c' e=> ?_,I.free,I.freeC,λp hp=> ?_,tracked ⟨oc,hoc,I.freeC x c hc⟩ hs,by simpa using I.len⟩ ⟨c,hs, .inr hc⟩
  .exact(hs.2 b (m5 (l4 (Heap.lt_size e) (I.ok.cab x c hfn hc)))).trans (I.base.keep b o e n hb hx)
  .obtain⟨sl,e1⟩:=I.base.slot b o e n hb hx
   exact⟨sl,(hs.2 b (m5 (l4 (Heap.lt_size e) (I.ok.cab x c hfn hc)))).trans e1⟩
  .obtain⟨o',e1⟩:=I.base.there b o e hx
   exact⟨o',(hs.2 b (m5 (l4 (Heap.lt_size e) (I.ok.cab x c hfn hc)))).trans e1⟩
  .by_cases hj:j=i
   .subst hj
    rw[hi] at e1;cases e1
    rw[List.getElem?_set_self hiσ] at e2
    cases e2
    exact⟨u,r, .inr ⟨.inl hk,c,hc,hc'⟩⟩
   .rw[List.getElem?_set_ne (Ne.symm hj)] at e2
    obtain⟨u',r',q⟩:=hl j y v' e1 e2 e3
    refine⟨u',r', ?_⟩
    rcases q with q|⟨k,c',e,z'⟩
    .exact .inl q
    .refine .inr ⟨k,c',e,z'.sameBut hs ?_⟩
     rintro rfl
     exact hj (z6n hN e1 (I.ok.inj _ _ _ e hc▸hi))
  .by_cases hcc:c'=c
   .subst hcc;exact⟨_,hc'⟩
   .obtain⟨w2,z2⟩:=I.cell y c' e
    exact⟨w2,z2.sameBut hs hcc⟩
  .obtain⟨e,n,ne,nf,d⟩:=I.pin p hp
   refine⟨(hs.2 p.1 ?_).trans e,n,ne,nf,d⟩
   intro q
   rw[q,hoc] at e
   have q':oc=p.2:=Option.some.inj e
   exact d w' (by rw[<-q'];exact hocd)
def z1B{M:gk}{A:bu}{E:bb->be->Prop}{i:Nat}{Q:Unit->be->Prop}(I:Inv X qz σ H s)(hN:X.N.Nodup)(hi:X.N[i]? =some x)(hx:Loc X.env.scope x)(r:RelV v u)
 (h: ∀s',Inv X qz (σ.set i (some v)) H s'->Q () s') (hf:X.fn x=true\/X.env.scope.names.lookup x=some .local:=by first|exact .inl rfl|exact .inr rfl|assumption):bm M A (storeName X.env x u) Q E s:=
 z7F I hN hi hx r (λs' I' _=>h s' I') hf
def Inv.call'{s':be}(I:Inv X qz σ H s)(ho:s'.os=s.os)(u:Un (frs X.stack) ch H H' s.heap s'.heap)(hok:HOk X.prog X.w H' s'.heap)(hg:cL s'.gens)
 (hch: ∀b∈ch,(b∈X.ex\/X.s₀.heap.objs.size<=b)/\b≠X.env.locals/\(∀x c,X.env.cells.lookup x=some c->c≠b)/\∀p∈X.pn++qz,p.1≠b):Inv X qz σ H' s':=by
 obtain⟨h',g',d',t',o'⟩:=s'
 have e:o'=s.os:=ho
 subst e
 exact I.call (g':=g') (t':=t') (d':=d') u hok hg hch
end
abbrev XK:=bb->Option Addr->Hp->Prop
abbrev St:=List (Option V)
abbrev VK:=V->Hp->Prop
abbrev TE:=St->Hp->VK->Prop
abbrev TT:=St->Hp->(Bool->Hp->Prop)->Prop
abbrev TA:=St->Hp->(List V->Hp->Prop)->Prop
structure z5L where
 nx:St->Hp->Prop
 rt:VK
 bk:St->Hp->Prop:=λ_ _=>False
 ct:St->Hp->Prop:=λ_ _=>False
abbrev TS:=z5L->St->Hp->Prop
def EP(X:Cx)(qz:List (Addr×bJ))(σ:St)(Q:VK)(u:bb)(s':be):Prop:= ∃v H',Inv X qz σ H' s'/\RelV v u/\Q v H'
def TP(X:Cx)(qz:List (Addr×bJ))(σ:St)(Q:Bool->Hp->Prop)(b:Bool)(s':be):Prop:= ∃H',Inv X qz σ H' s'/\Q b H'
def AP(X:Cx)(qz:List (Addr×bJ))(σ:St)(Q:List V->Hp->Prop)(us:List bb)(s':be):Prop:= ∃vs H',Inv X qz σ H' s'/\g7 vs us/\Q vs H'
def SP(X:Cx)(qz:List (Addr×bJ))(D:z5L)(f:Flow)(s':be):Prop:=
 match f with
 | .next=> ∃σ' H',Inv X qz σ' H' s'/\D.nx σ' H'
 | .brk=> ∃σ' H',Inv X qz σ' H' s'/\D.bk σ' H'
 | .cont=> ∃σ' H',Inv X qz σ' H' s'/\D.ct σ' H'
 | .ret u=> ∃v σ' H',Inv X qz σ' H' s'/\RelV v u/\D.rt v H'
def PE(X:Cx)(e:bn)(t:TE):Prop:=
 ∀(qz:List (Addr×bJ)) (s:be) (σ:St) (H:Hp) (Q:VK),Inv X qz σ H s->t σ H Q->bm (bo X.prog X.w) X.A (bA e X.env) (EP X qz σ Q) X.xe s
def PT(X:Cx)(e:bn)(t:TT):Prop:=
 ∀(qz:List (Addr×bJ)) (s:be) (σ:St) (H:Hp) (Q:Bool->Hp->Prop),Inv X qz σ H s->t σ H Q->bm (bo X.prog X.w) X.A (gg e X.env (bA e X.env)) (TP X qz σ Q) X.xe s
def PW(X:Cx)(e:bn)(t:TT):Prop:=
 ∀(whole:dl bb) (qz:List (Addr×bJ)) (s:be) (σ:St) (H:Hp) (Q:Bool->Hp->Prop),Inv X qz σ H s->t σ H Q->bm (bo X.prog X.w) X.A (gg e X.env whole) (TP X qz σ Q) X.xe s
def PW.pt(h:PW X e t):PT X e t:=h _
def PA(X:Cx)(es:List bn)(t:TA):Prop:=
 ∀(pos:bN) (qz:List (Addr×bJ)) (s:be) (σ:St) (H:Hp) (Q:List V->Hp->Prop),Inv X qz σ H s->t σ H Q->bm (bo X.prog X.w) X.A (gh (bM pos (bi es X.env))) (AP X qz σ Q) X.xe s
def PS(X:Cx)(st:Stmt)(t:TS):Prop:=
 ∀(qz:List (Addr×bJ)) (s:be) (σ:St) (H:Hp) (D:z5L),Inv X qz σ H s->t D σ H->bm (bo X.prog X.w) X.A (exec st X.env) (SP X qz D) X.xe s
def PSs(X:Cx)(st:List Stmt)(t:TS):Prop:=
 ∀(qz:List (Addr×bJ)) (s:be) (σ:St) (H:Hp) (D:z5L),Inv X qz σ H s->t D σ H->bm (bo X.prog X.w) X.A (execs st X.env) (SP X qz D) X.xe s
def thn{α:Type}{t:dl α}{Q Q':α->be->Prop}{M:gk}{A:bu}{E:bb->be->Prop}{s:be}(h:bm M A t Q E s)(hQ: ∀a s,Q a s->Q' a s):bm M A t Q' E s:=bz h hQ λ_ _ x=>x
section
variable{X:Cx}
def zcw(i:Nat):TE:=λ σ H Q=> ∃v,σ[i]? =some (some v)/\Q v H
def tC(v:V):TE:=λ_ H Q=>Q v H
def zeW{i:Nat}{pos:bN}(hN:X.N[i]? =some x)(hv:Vis X.env.scope x)(hd:(x==("__debug__" :Str))=false:=by decide)(hcd:(x==("__classdict__" :Str))=false:=by decide):PE X (.Name x pos) (zcw i):=by
 intro qz s σ H Q I h
 obtain⟨v,e,h⟩:=h
 obtain⟨m,hn,hl⟩:=I.loc
 obtain⟨u,r,l⟩:=hl i x v hN e hv
 have fin:EP X qz σ Q u s:=⟨v,H,I,r,h⟩
 rcases l with⟨hk,hm⟩|⟨hk,c,hc,hcell⟩
 .exact fK (wpAny_loadName_local I.ok.kind hk hn hm fin) hd
 .rcases hk with hk|hk
  .exact fK (wpAny_loadName_cell I.ok.kind hk hc hcell fin) hd
  .exact fK (wpAny_loadName_free I.ok.kind hk hc hcell fin hcd) hd
def y2{i j pos}:PE X (.Constant (.int i) j pos) (tC (.int i)):=λ_ _ _ H _ I h=>wpAny_Constant_int ⟨.int i,H,I.tok _,⟨_,rfl⟩,h⟩
def z3U{b j pos}:PE X (.Constant (.bool b) j pos) (tC (.bl b)):=λ_ _ _ H _ I h=>Constant_bool ⟨.bl b,H,I,rfl,h⟩
def z7G{j pos}:PE X (.Constant .none j pos) (tC .non):=λ_ _ _ H _ I h=>Constant_none ⟨.non,H,I,rfl,h⟩
def k8{x j pos}:PE X (.Constant (.str x) j pos) (tC (.str x)):=λ_ _ _ H _ I h=>Calls.Constant_str ⟨.str x,H,I.tok _,⟨_,rfl⟩,h⟩
def Gl(X:Cx)(x:Str):Prop:=X.env.kindOf x=some .globalImplicit
def z7H{E:bb->be->Prop}{pos:bN}{Q:bb->be->Prop}(I:Inv X qz σ H s)(hg:Gl X x)(hm:X.mg x=some u)(h:Q u s)
 (hd:(x==("__debug__" :Str))=false:=by decide):bm (bo X.prog X.w) X.A (bA (.Name x pos) X.env) Q E s:=
 Calls.Name_function_global I.ok.kind hg (Calls.loadGlobal_global (by rw[I.ok.glob];exact I.mod.glob.keeps I.bk) hm h) hd
def z1l{E:bb->be->Prop}{pos:bN}{Q:bb->be->Prop}(I:Inv X qz σ H s)(hg:Gl X x)(hm:X.mg x=none)(hv:bT x=some u)(h:Q u s)
 (hn:x≠ "__name__" :=by decide) (hd:(x==("__debug__" :Str))=false:=by decide):bm (bo X.prog X.w) X.A (bA (.Name x pos) X.env) Q E s:=by
 obtain⟨mb,h1,h2⟩:=I.mod.blt
 exact Calls.Name_function_global I.ok.kind hg (Calls.loadGlobal_builtin (by rw[I.ok.glob];exact I.mod.glob.keeps I.bk) hm (by rw[I.ok.blt];exact h1.keeps I.bk) ((h2 x hn).trans hv) h) hd
def z7I{pos:bN}(hg:Gl X x)(hm:X.mg x=some u)(r:RelV v u)(hd:(x==("__debug__" :Str))=false:=by decide):PE X (.Name x pos) (tC v):=
 λ_ _ _ H _ I h=>z7H I hg hm ⟨v,H,I,r,h⟩ hd
variable{a b:bn}{ta tb:TE}{pos:bN}
def tB(t:TE):TT:=λ σ H Q=>t σ H λx H1=> ∃c,x= .bl c/\Q c H1
def zeX{e:bn}(h:PE X e t)(he: ∀whole,gg e X.env whole=(do let v<-whole;dz e.pos;cM [v] (truthy v)):=by intro _;rfl):PT X e (tB t):=by
 intro qz s σ H Q I hw
 refine isTrue_plain (thn (h qz s σ H _ I hw) λv s1 ⟨x,H1,I1,r1,q1⟩=> ?_) (he _)
 obtain⟨d,rfl,q⟩:=q1
 cases r1
 exact bB ⟨H1,I1,q⟩
variable{tA tB':TT}{rest:List bn}
def zkU(t u:TT):TT:=λ σ H Q=>t σ H λc H1=>if c=true then u σ H1 Q else Q false H1
def tOr(t u:TT):TT:=λ σ H Q=>t σ H λc H1=>if c=true then Q true H1 else u σ H1 Q
def zkV(t:TT):TT:=λ σ H Q=>t σ H λc H1=>Q (!c) H1
def zcx(ha:PT X a tA):PW X (.BoolOp .And [a] pos) tA:=by
 intro wh qz s σ H Q I h
 refine isTrue_and (thn (ha qz s σ H Q I h) λc s1 e=> ?_)
 cases c with
 |true=>exact isTrue_and_nil e
 |false=>exact e
def zeY(ha:PT X a tA):PW X (.BoolOp .Or [a] pos) tA:=by
 intro wh qz s σ H Q I h
 refine isTrue_or (thn (ha qz s σ H Q I h) λc s1 e=> ?_)
 cases c with
 |false=>exact isTrue_or_nil e
 |true=>exact e
def zeZ(ha:PT X a tA)(hb:PW X (.BoolOp .And (b::rest) pos) tB'):PW X (.BoolOp .And (a::b::rest) pos) (zkU tA tB'):=by
 intro wh qz s σ H Q I h
 refine isTrue_and (thn (ha qz s σ H _ I h) ?_)
 rintro c s1 ⟨H1,I1,q1⟩
 cases c with
 |true=>exact hb wh qz s1 σ H1 Q I1 q1
 |false=>exact⟨H1,I1,q1⟩
def ziF(ha:PT X a tA)(hb:PW X (.BoolOp .Or (b::rest) pos) tB'):PW X (.BoolOp .Or (a::b::rest) pos) (tOr tA tB'):=by
 intro wh qz s σ H Q I h
 refine isTrue_or (thn (ha qz s σ H _ I h) ?_)
 rintro c s1 ⟨H1,I1,q1⟩
 cases c with
 |true=>exact⟨H1,I1,q1⟩
 |false=>exact hb wh qz s1 σ H1 Q I1 q1
def zf0(ha:PT X a tA):PT X (.UnaryOp .Not a pos) (zkV tA):=by
 intro qz s σ H Q I h
 exact isTrue_not (ha qz s σ H (λc H1=>Q (!c) H1) I h)
def ziG(ta tb:TE):TE:=λ σ H Q=>ta σ H λx H1=> ∃c,x= .bl c/\if c=true then tb σ H1 Q else Q (.bl false) H1
def zkW(ta tb:TE):TE:=λ σ H Q=>ta σ H λx H1=> ∃c,x= .bl c/\if c=true then Q (.bl true) H1 else tb σ H1 Q
def ziH(ta:TE):TE:=λ σ H Q=>ta σ H λx H1=> ∃c,x= .bl c/\Q (.bl (!c)) H1
def zf1{op}(h:PE X a t):PE X (.BoolOp op [a] pos) t:=λqz s σ H Q I hw=>BoolOp_one (h qz s σ H Q I hw)
def zf2(ha:PE X a ta)(hb:PE X (.BoolOp .And (b::rest) pos) tb):PE X (.BoolOp .And (a::b::rest) pos) (ziG ta tb):=by
 intro qz s σ H Q I h
 refine BoolOp_and (thn (ha qz s σ H _ I h) ?_)
 rintro v s1 ⟨x,H1,I1,r1,q1⟩
 obtain⟨c,rfl,q1⟩:=q1
 cases r1
 refine bB ?_
 cases c with
 |true=>exact hb qz s1 σ H1 Q I1 q1
 |false=>exact⟨.bl false,H1,I1,rfl,q1⟩
def ziI(ha:PE X a ta)(hb:PE X (.BoolOp .Or (b::rest) pos) tb):PE X (.BoolOp .Or (a::b::rest) pos) (zkW ta tb):=by
 intro qz s σ H Q I h
 refine BoolOp_or (thn (ha qz s σ H _ I h) ?_)
 rintro v s1 ⟨x,H1,I1,r1,q1⟩
 obtain⟨c,rfl,q1⟩:=q1
 cases r1
 refine bB ?_
 cases c with
 |false=>exact hb qz s1 σ H1 Q I1 q1
 |true=>exact⟨.bl true,H1,I1,rfl,q1⟩
def zf3(ha:PE X a ta):PE X (.UnaryOp .Not a pos) (ziH ta):=by
 intro qz s σ H Q I h
 refine UnaryOp_ (thn (ha qz s σ H _ I h) ?_)
 rintro v s1 ⟨x,H1,I1,r1,q1⟩
 obtain⟨c,rfl,q1⟩:=q1
 cases r1
 exact not_of (bB ⟨.bl (!c),H1,I1,rfl,q1⟩)
end
def SqL(K:W.Frag)(H:Hp)(a:Addr)(xs:List V):Prop:=
 Rd H a (.lst xs)\/
  ∃(o:bJ) (its:Array bb) (n:Nat),K.lookup a=some o/\o.cls= .type "list" /\o.dict=none/\o.data= .seq its n/\its.size<=qg/\g7 xs its.toList
def SqT(K:W.Frag)(H:Hp)(a:Addr)(xs:List V):Prop:=
 Rd H a (.tup xs)\/
  ∃(o:bJ) (its:Array bb) (n:Nat),K.lookup a=some o/\o.cls= .type "tuple" /\o.data= .seq its n/\its.size<=qg/\g7 xs its.toList
def zkX:bb->Option V
 | .none=>some .non
 | .bool b=>some (.bl b)
 | .int i _=>some (.int i)
 | .str x _=>some (.str x)
 | .bytes b _=>some (.byt b)
 | .float b _=>some (.flt b)
 | .ref a=>some (.ref a)
 | .type n=>some (.ty n)
 |_=>none
def RelV.abs(r:RelV x u):zkX u=some x:=by
 cases x with
 |non=>cases r;rfl
 |bl _=>cases r;rfl
 |int _=>obtain⟨t,rfl⟩:=r;rfl
 |str _=>obtain⟨t,rfl⟩:=r;rfl
 |byt _=>obtain⟨t,rfl⟩:=r;rfl
 |flt _=>obtain⟨t,rfl⟩:=r;rfl
 |ref _=>cases r;rfl
 |ty _=>cases r;rfl
def RelV.inj(r:RelV x u)(q:RelV y u):x=y:=Option.some.inj (r.abs.symm.trans q.abs)
theorem g7.inj: ∀{xs ys:List V} {us:List bb},g7 xs us->g7 ys us->xs=ys
 |_,_,_, .nil, .nil=>rfl
 |_,_,_, .cons r t, .cons r' t'=>by rw[r.inj r',g7.inj t t']
section
variable{X:Cx}{qz:List (Addr×bJ)}{σ:St}{H:Hp}{s:be}{a:Addr}{xs ys:List V}
def SqL.of{K:W.Frag}(h:H a=some (.lst xs)):SqL K H a xs:= .inl (.inl h)
def SqT.of{K:W.Frag}(h:H a=some (.tup xs)):SqT K H a xs:= .inl (.inl h)
def Inv.list(I:Inv X qz σ H s)(h:SqL X.K H a xs): ∃its:List bb,g7 xs its/\PlainL s.heap a its.toArray/\xs.length<=qg:=by
 rcases h with h|⟨o,its,n,hk,hc,hd,hs,hz,r⟩
 .obtain⟨z,its,n,r,e⟩:=h.ok I.hok
  exact⟨its,r,⟨_,n,e,rfl,rfl,rfl⟩,z⟩
 .refine⟨its.toList,r,⟨o,n,I.kIn a o hk,hc,hd,by simpa using hs⟩, ?_⟩
  have e:=r.length
  erw[Array.length_toList] at e
  lia
def Inv.tuple(I:Inv X qz σ H s)(h:SqT X.K H a xs): ∃its:List bb,g7 xs its/\gl s.heap a its.toArray/\xs.length<=qg:=by
 rcases h with h|⟨o,its,n,hk,hc,hs,hz,r⟩
 .obtain⟨z,its,r,p⟩:=h.ok I.hok
  exact⟨its,r,p,z⟩
 .refine⟨its.toList,r,⟨o,I.kIn a o hk,hc,n,by simpa using hs⟩, ?_⟩
  have e:=r.length
  erw[Array.length_toList] at e
  lia
def Inv.list_inj(I:Inv X qz σ H s)(h:SqL X.K H a xs)(h':SqL X.K H a ys):xs=ys:=by
 obtain⟨its,r,⟨o,n,e,_,_,d⟩,_⟩:=I.list h
 obtain⟨its',r',⟨o',n',e',_,_,d'⟩,_⟩:=I.list h'
 rw[e] at e';cases e'
 rw[d] at d'
 injection d' with d1 _
 have:its=its':=by simpa using congrArg Array.toList d1
 subst this
 exact r.inj r'
def Inv.tuple_inj(I:Inv X qz σ H s)(h:SqT X.K H a xs)(h':SqT X.K H a ys):xs=ys:=by
 obtain⟨its,r,⟨o,e,_,n,d⟩,_⟩:=I.tuple h
 obtain⟨its',r',⟨o',e',_,n',d'⟩,_⟩:=I.tuple h'
 rw[e] at e';cases e'
 rw[d] at d'
 injection d' with d1 _
 have:its=its':=by simpa using congrArg Array.toList d1
 subst this
 exact r.inj r'
end
abbrev Cx.wish(X:Cx)(E:bb->be->Prop):Cx:={X with xe:=E}
abbrev Cx.nox(X:Cx):Cx:=X.wish λ_ _=>False
def Cx.Ok.wish{X:Cx}(ok:X.Ok)(E:bb->be->Prop):(X.wish E).Ok:=
 ⟨ok.mod,ok.kind,ok.glob,ok.blt,ok.above,ok.inj,ok.has,ok.cab,ok.hd,ok.frames,ok.stk,ok.exf,ok.bs,ok.bsz,ok.noex,ok.exfs,ok.funs,ok.frf⟩
def Cx.Ok.unwish{X:Cx}{E:bb->be->Prop}(ok:(X.wish E).Ok):X.Ok:=
 ⟨ok.mod,ok.kind,ok.glob,ok.blt,ok.above,ok.inj,ok.has,ok.cab,ok.hd,ok.frames,ok.stk,ok.exf,ok.bs,ok.bsz,ok.noex,ok.exfs,ok.funs,ok.frf⟩
section
variable{X:Cx}{qz:List (Addr×bJ)}{σ:St}{H:Hp}{s:be}{E:bb->be->Prop}
def Inv.wish(I:Inv X qz σ H s)(E:bb->be->Prop):Inv (X.wish E) qz σ H s:=⟨I.ok.wish E,I.os,I.bare,I.base,I.loc,I.cell,I.free,I.freeC,I.pin,I.hok,I.len⟩
def Inv.unwish(I:Inv (X.wish E) qz σ H s):Inv X qz σ H s:=⟨I.ok.unwish,I.os,I.bare,I.base,I.loc,I.cell,I.free,I.freeC,I.pin,I.hok,I.len⟩
def SP.unwish(h:SP (X.wish E) qz D f s'):SP X qz D f s':=by
 cases f with
 |next=>obtain⟨σ',H',I,q⟩:=h;exact⟨σ',H',I.unwish,q⟩
 |brk=>obtain⟨σ',H',I,q⟩:=h;exact⟨σ',H',I.unwish,q⟩
 |cont=>obtain⟨σ',H',I,q⟩:=h;exact⟨σ',H',I.unwish,q⟩
 |ret u=>obtain⟨v,σ',H',I,r,q⟩:=h;exact⟨v,σ',H',I.unwish,r,q⟩
def PSs.nox{st:List Stmt}{t:TS}(h:PSs X.nox st t):PSs X st t:=λqz s σ H D I hw=>
 bz (h qz s σ H D (I.wish _) hw) (λ_ _ q=>q.unwish) λ_ _ z=>False.elim z
variable{st:Stmt}{rest:List Stmt}{t u:TS}{e:bn}{te:TE}{pos:bN}
def ziJ:TS:=λD σ H=>D.nx σ H
def zkY(t u:TS):TS:=λD σ H=>t {D with nx:=u D} σ H
def zcy:PSs X [] ziJ:=λ_ _ σ H _ I h=>dg ⟨σ,H,I,h⟩
def za6(h1:PS X st t)(h2:PSs X rest u):PSs X (st::rest) (zkY t u):=by
 intro qz s σ H D I h
 refine fq (thn (h1 qz s σ H {D with nx:=u D} I h) λf s1 q=> ?_)
 cases f with
 |next=>
  obtain⟨σ',H',I',q⟩:=q
  exact h2 qz s1 σ' H' D I' q
 |ret v=>exact q
 |brk=>exact q
 |cont=>exact q
def zcz(h1:PS X st t):PSs X [st] t:=by
 intro qz s σ H D I h
 refine fq (thn (h1 qz s σ H D I h) λf s1 q=> ?_)
 cases f with
 |next=>exact dg q
 |ret v=>exact q
 |brk=>exact q
 |cont=>exact q
def Inv.quiet(I:Inv X qz σ H s):interactive X.env=false:=by simp[interactive,I.ok.kind]
def ziK(te:TE):TS:=λD σ H=>te σ H λ_ H1=>D.nx σ H1
def zcA(he:PE X e te)(hs:cD e none pos.line X.env=pure false:=by rfl):PS X (.Expr e pos) (ziK te):=by
 intro qz s σ H D I h
 exact wpAny_Expr_any (thn (he qz s σ H _ I h) λv s1 ⟨x,H1,I1,r1,q1⟩=>⟨σ,H1,I1,q1⟩) I.quiet hs
def zkZ(te:TE):TS:=λD σ H=>te σ H D.rt
def zf4(he:PE X e te):PS X (.Return (some e) pos) (zkZ te):=by
 intro qz s σ H D I h
 exact wpAny_Return_some (thn (he qz s σ H _ I h) λv s1 ⟨x,H1,I1,r1,q1⟩=>⟨x,σ,H1,I1,r1,q1⟩)
def zl0(c:TT)(t u:TS):TS:=λD σ H=>c σ H λb H1=>if b=true then t D σ H1 else u D σ H1
def ziL(hc:PT X c tc)(ha:PSs X a t)(hb:PSs X b u):PS X (.If c a b pos) (zl0 tc t u):=by
 intro qz s σ H D I h
 refine wpAny_If (thn (hc qz s σ H _ I h) ?_)
 rintro d s1 ⟨H1,I1,q1⟩
 cases d with
 |true=>exact ha qz s1 σ H1 D I1 q1
 |false=>exact hb qz s1 σ H1 D I1 q1
end
abbrev TG:=V->St->Hp->(St->Hp->Prop)->Prop
abbrev TGs:=List V->St->Hp->(St->Hp->Prop)->Prop
def PG(X:Cx)(qw:bn)(t:TG):Prop:=
 ∀(qz:List (Addr×bJ)) (s:be) (σ:St) (H:Hp) (v:V) (u:bb) (Q:St->Hp->Prop),Inv X qz σ H s->RelV v u->t v σ H Q->
  bm (bo X.prog X.w) X.A (cz qw X.env u) (λ_ s'=> ∃σ' H',Inv X qz σ' H' s'/\Q σ' H') X.xe s
def PGs(X:Cx)(ts:List bn)(t:TGs):Prop:=
 ∀(qz:List (Addr×bJ)) (s:be) (σ:St) (H:Hp) (vs:List V) (us:List bb) (Q:St->Hp->Prop),Inv X qz σ H s->g7 vs us->t vs σ H Q->
  bm (bo X.prog X.w) X.A (cN ((bG ts X.env).map (·.2)) us) (λ_ s'=> ∃σ' H',Inv X qz σ' H' s'/\Q σ' H') X.xe s
abbrev zf5:=V->V->V->Hp->(Hp->Prop)->Prop
def ziM(X:Cx)(t:zf5):Prop:=
 ∀(qz:List (Addr×bJ)) (s:be) (σ:St) (H:Hp) (o i v:V) (ov iv u:bb) (Q:Hp->Prop),Inv X qz σ H s->RelV o ov->RelV i iv->RelV v u->t o i v H Q->
  bm (bo X.prog X.w) X.A (fG ov iv u) (λ_ s'=> ∃H',Inv X qz σ H' s'/\Q H') X.xe s
abbrev TIp:=V->V->Hp->VK->Prop
def PIp(X:Cx)(op:fM)(t:TIp):Prop:=
 ∀(qz:List (Addr×bJ)) (s:be) (σ:St) (H:Hp) (x y:V) (v u:bb) (Q:VK),Inv X qz σ H s->RelV x v->RelV y u->t x y H Q->
  bm (bo X.prog X.w) X.A (inplaceOp op v u) (EP X qz σ Q) X.xe s
section
variable{X:Cx}{pos:bN}
def z5M(i:Nat):TG:=λv σ H Q=>Q (σ.set i (some v)) H
def Z8{i:Nat}(hN:X.N.Nodup)(hi:X.N[i]? =some x)(hx:Loc X.env.scope x)(hf:X.fn x=true\/X.env.scope.names.lookup x=some .local:=by first|exact .inl rfl|exact .inr rfl|assumption):PG X (.Name x pos) (z5M i):=by
 intro qz s σ H v u Q I r h
 exact dQ (z1B I hN hi hx r (λs' I'=>⟨_,H,I',h⟩) hf)
def zl1:TGs:=λvs σ H Q=>vs=[]/\Q σ H
def ziN(t:TG)(u:TGs):TGs:=λvs σ H Q=> ∃v r,vs=v::r/\t v σ H λ σ' H'=>u r σ' H' Q
def zcB:PGs X [] zl1:=by
 intro qz s σ H vs us Q I r h
 obtain⟨e,h⟩:=h
 subst e
 cases r
 exact dR ⟨σ,H,I,h⟩
def za7(h1:PG X e t)(h2:PGs X es u)
 (hs:(bG (e::es) X.env).map (·.2)=cz e X.env::(bG es X.env).map (·.2):=by rfl):PGs X (e::es) (ziN t u):=by
 intro qz s σ H vs us Q I r h
 obtain⟨v,vr,e1,h⟩:=h
 subst e1
 cases r with
 |cons r rr=>
  rw[hs]
  refine cI (thn (h1 qz s σ H _ _ _ I r h) ?_)
  rintro _ s1 ⟨σ1,H1,I1,q1⟩
  exact h2 qz s1 σ1 H1 _ _ Q I1 rr q1
def zl2(K:W.Frag)(n:Nat)(t:TGs):TG:=λv σ H Q=> ∃a xs,v= .ref a/\SqT K H a xs/\xs.length=n/\t xs σ H Q
def zf6{k:Nat}{n:Nat}(hc:X.calm=true)(h:PGs X es t)
 (hn:(bG es X.env).length=n:=by rfl) (hst:(bG es X.env).findIdx? (·.1)=none:=by rfl):PG X (.Tuple es k pos) (zl2 X.K n t):=by
 intro qz s σ H v u Q I r hw
 obtain⟨a,xs,e1,hq,hl,hw⟩:=hw
 subst e1
 cases r
 obtain⟨its,rv,ht,hz⟩:=I.tuple hq
 refine assign_Tuple_tuple (I.ok.hd hc) ht (by simp[hn,<-hl,rv.length]) hst λh' hx=> ?_
 have I1:Inv X qz σ H {s with heap:=h'}:=I.kept (t':=s.toks) λb o e=>hx b o (m5 (Heap.lt_size e)) e
 exact h qz _ σ H xs _ Q I1 (by simpa using rv) hw
def zkz(to ti:TE)(t:zf5):TG:=λv σ H Q=>to σ H λo H1=>ti σ H1 λi H2=>t o i v H2 λH3=>Q σ H3
def z7J(ho:PE X o to)(hi:PE X i ti)(hs:ziM X t)
 (ha: ∀v,cz (.Subscript o i pos) X.env v=(do
  let ov<-cM [v] (bA o X.env)
  let iv<-cM [v,ov] (bA i X.env)
  dz pos
  cM [v,ov,iv] (fG ov iv v)
  release [v,ov,iv] []):=by intro _;rfl):PG X (.Subscript o i pos) (zkz to ti t):=by
 intro qz s σ H v u Q I r h
 rw[ha]
 refine ba (bw (thn (ho qz s σ H _ I h) ?_))
 rintro ov s1 ⟨x,H1,I1,r1,q1⟩
 refine ba (bw (thn (hi qz s1 σ H1 _ I1 q1) ?_))
 rintro iv s2 ⟨y,H2,I2,r2,q2⟩
 refine ba (bV (ba (bw (thn (hs qz s2 σ H2 x y v ov iv u _ I2 r1 r2 r q2) ?_))))
 rintro _ s3 ⟨H3,I3,q3⟩
 exact wpAny_release ⟨σ,H3,I3,q3⟩
def ziO(te:TE)(g:TG):TS:=λD σ H=>te σ H λx H1=>g x σ H1 D.nx
def zbl(he:PE X e te)(hg:PG X tg g)(hs:cE [tg] e pos.line X.env=pure false:=by rfl)(hw:cF [tg] e X.env=pure none:=by rfl)
 (h1:(bG [tg] X.env).map (·.2)=[cz tg X.env]:=by rfl):PS X (.Assign [tg] e pos) (ziO te g):=by
 intro qz s σ H D I h
 refine wpAny_Assign_stores (thn (he qz s σ H _ I h) λv s1 ⟨x,H1,I1,r1,q1⟩=> ?_) hs hw
 rw[h1]
 exact thn (hg qz s1 σ H1 x v _ I1 r1 q1) λ_ s2 q=>q
def z1C{i:Nat}(hN:X.N.Nodup)(hi:X.N[i]? =some x)(hx:Loc X.env.scope x)(he:PE X e te)(hs:cD e (some (.Name x pos')) pos.line X.env=pure false:=by rfl)(hf:X.fn x=true\/X.env.scope.names.lookup x=some .local:=by first|exact .inl rfl|exact .inr rfl|assumption):
 PS X (.Assign [.Name x pos'] e pos) (ziO te (z5M i)):=by
 intro qz s σ H D I h
 refine wpAny_Assign_Name (thn (he qz s σ H _ I h) λv s1 ⟨y,H1,I1,r1,q1⟩=> ?_) hs
 exact z1B I1 hN hi hx r1 (λs2 I2=>⟨_,H1,I2,q1⟩) hf
def zl3(i j:Nat)(ta:TA):TS:=λD σ H=>ta σ H λvs H1=> ∃v w,vs=[v,w]/\D.nx ((σ.set i (some v)).set j (some w)) H1
def zf7{i j:Nat}{a b:bn}{ta:TA}{px py pt:bN}{kt k2 pt2}(hc:X.calm=true)(hN:X.N.Nodup)(hi:X.N[i]? =some x)(hj:X.N[j]? =some y)(hij:i≠j)
 (hx:X.env.scope.names.lookup x=some .local) (hy:X.env.scope.names.lookup y=some .local) (ha:PA X [a,b] ta)
 (hw:cF [.Tuple [.Name x px, .Name y py] kt pt] (.Tuple [a,b] k2 pt2) X.env=pure (some [x,y]))
 (hs:cE [.Tuple [.Name x px, .Name y py] kt pt] (.Tuple [a,b] k2 pt2) pos.line X.env=pure false:=by rfl):
 PS X (.Assign [.Tuple [.Name x px, .Name y py] kt pt] (.Tuple [a,b] k2 pt2) pos) (zl3 i j ta):=by
 intro qz s σ H D I h
 rw[exec_Assign_arm]
 refine ba (bV ?_)
 rw[hs]
 refine ba (bf ?_)
 rw[qh (by decide)]
 refine ba (Tuple_ (thn (ha _ qz s σ H _ I h) ?_))
 rintro us s1 ⟨vs,H1,I1,r1,q1⟩
 obtain⟨v,w,e1,q1⟩:=q1
 subst e1
 obtain⟨u1,u2,rfl,rv,rw'⟩: ∃u1 u2,us=[u1,u2]/\RelV v u1/\RelV w u2:=by
  cases r1 with
  |cons p q=>
   cases q with
   |cons p' q'=>
    cases q'
    exact⟨_,_,rfl,p,p'⟩
 refine bt ?_ (by show 2<=qg;decide)
 have I2:Inv X qz σ H1 {s1 with heap:=s1.heap.push {cls:= .type "tuple",data:= .seq [u1,u2].toArray}}:=I1.kept (t':=s1.toks) λb o e=>Heap.get?_push_of_some _ e
 rw[hw]
 refine ba (bf ?_)
 show bm (bo X.prog X.w) X.A (do rule "assign.swapped-stores";let items<-fx (.ref s1.heap.objs.size) 2 none;cN [λv=>fQ X.env y v,λv=>fQ X.env x v] items.reverse;pure Flow.next) _ _ _
 refine ba (cC (ba (unpackItems_tuple (items:= #[u1,u2]) (I.ok.hd hc) (IsTup.new s1.heap _) λh' hx'=> ?_)))
 have I3:=I2.kept (h':=h') (t':=s1.toks) λb o e=>hx' b o (m5 (Heap.lt_size e)) e
 show bm _ _ (cN [λv=>fQ X.env y v,λv=>fQ X.env x v] [u2,u1]>>=λ_=>pure Flow.next) _ _ _
 refine ba (cI (wpAny_bindName (z1B I3 hN hj (.inl hy) rw' (λs2 I4=> ?_) (.inr hy))))
 refine cI (wpAny_bindName (z1B I4 hN hi (.inl hx) rv (λs3 I5=>dR (bf ?_)) (.inr hx)))
 rw[List.set_comm _ _ (Ne.symm hij)] at I5
 exact⟨_,H1,I5,q1⟩
def ziP(to ti te:TE)(tget:V->V->Hp->VK->Prop)(tip:TIp)(tset:zf5):TS:=λD σ H=>to σ H λo H1=>ti σ H1 λi H2=>tget o i H2 λx H3=>te σ H3 λy H4=>tip x y H4 λz H5=>tset o i z H5 λH6=>D.nx σ H6
def zkA(X:Cx)(t:V->V->Hp->VK->Prop):Prop:=
 ∀(qz:List (Addr×bJ)) (s:be) (σ:St) (H:Hp) (o i:V) (ov iv:bb) (Q:VK),Inv X qz σ H s->RelV o ov->RelV i iv->t o i H Q->
  bm (bo X.prog X.w) X.A (cG ov iv) (EP X qz σ Q) X.xe s
def zcC{tget:V->V->Hp->VK->Prop}{tpos:bN}(ho:PE X o to)(hi:PE X i ti)(hg:zkA X tget)(he:PE X e te)(hp:PIp X op tip)(hs:ziM X tset)
 (ha: ∀ov iv new,augStore i ov iv new=(do cM [new,ov,iv] (fG ov iv new);release [new,ov,iv] [];pure .next):=by intros;rfl):PS X (.AugAssign (.Subscript o i tpos) op e pos) (ziP to ti te tget tip tset):=by
 intro qz s σ H D I h
 refine wpAny_AugAssign_SubscriptAny (thn (ho qz s σ H _ I h) λov s1 ⟨x1,H1,I1,r1,q1⟩=> ?_) ha
 refine thn (hi qz s1 σ H1 _ I1 q1) ?_
 rintro iv s2 ⟨x2,H2,I2,r2,q2⟩
 refine thn (hg qz s2 σ H2 x1 x2 ov iv _ I2 r1 r2 q2) ?_
 rintro old s3 ⟨x3,H3,I3,r3,q3⟩
 refine thn (he qz s3 σ H3 _ I3 q3) ?_
 rintro v s4 ⟨x4,H4,I4,r4,q4⟩
 refine thn (hp qz s4 σ H4 x3 x4 old v _ I4 r3 r4 q4) ?_
 rintro new s5 ⟨x5,H5,I5,r5,q5⟩
 exact thn (hs qz s5 σ H5 x1 x2 x5 ov iv new _ I5 r1 r2 r5 q5) λ_ s6 ⟨H6,I6,q6⟩=>⟨σ,H6,I6,q6⟩
def ipI(f:Int->Int->Int):TIp:=λx y H Q=> ∃i j,x= .int i/\y= .int j/\Q (.int (f i j)) H
def zf8:PIp X .Add (ipI λi j=>i+j):=by
 intro qz s σ H x y v u Q I r1 r2 h
 obtain⟨i,j,e1,e2,q⟩:=h
 subst e1;subst e2
 obtain⟨t,rfl⟩:=r1
 obtain⟨t',rfl⟩:=r2
 exact iadd_int ⟨.int _,H,I.tok _,⟨_,rfl⟩,q⟩
end
structure It where
 go:Nat->Hp->Prop
 yld:Nat->Hp->V->Hp->Prop
 stop:Nat->Hp->Prop
def z5N(X:Cx)(qz:List (Addr×bJ))(H:Hp)(b:Addr):Prop:=
 H b=none/\b≠X.env.locals/\b∉X.fs/\(b∈X.ex\/X.s₀.heap.objs.size<=b)/\(∀x c,X.env.cells.lookup x=some c->c≠b)/\∀p∈X.pn++qz,p.1≠b
def Inv.fpOk{s:be}(I:Inv X qz σ H s)(hb:s.heap.objs.size<=b)(hn:H' b=none):z5N X qz H' b:=by
 refine⟨hn,F9 (l4 I.lt hb),I.nofs hb, .inr (C1 I.sz hb),λx c e z=> ?_,λp hp z=> ?_⟩
 .obtain⟨v,q⟩:=I.cell x c e
  exact absurd (l4 q.lt (by rw[z];exact hb)) (A8 _)
 .exact absurd (l4 (Heap.lt_size (I.pin p hp).1) (by rw[z];exact hb)) (A8 _)
structure z9X(P:bp)(w:br)(K:W.Frag)(tg:bn)(J:It)(fp:List Addr)(it:Addr)(tn:Nat->Heap->Prop):Prop where
 mem:it∈fp
 obj: ∀i h,tn i h->∀b∈fp,∃o,h.get? b=some o/\∀v,o.data≠ .cell v
 keep: ∀i h h',tn i h->(∀b∈fp,∀o,h.get? b=some o->h'.get? b=some o)->tn i h'
 item: ∀(X:Cx),X.prog=P->X.w=w->X.K=K->X.calm=true->∀(i:Nat) (qz:List (Addr×bJ)) (s:be) (σ:St) (H:Hp) (E:bb->be->Prop),Inv X qz σ H s->(∀b∈fp,z5N X qz H b)->tn i s.heap->J.go i H->
  bm (bo P w) X.A (cu (.ref it)) (λr s1=> ∃u,r=some u/\
   bm (bo P w) X.A (bS tg (.ref it) u) (λ_ s2=> ∃x H',Inv X qz σ H' s2/\RelV x u/\J.yld i H x H'/\tn (i+1) s2.heap/\∀b∈fp,H' b=none) E s1) E s
 done: ∀(X:Cx),X.prog=P->X.w=w->X.K=K->X.calm=true->∀(i:Nat) (qz:List (Addr×bJ)) (s:be) (σ:St) (H:Hp) (E:bb->be->Prop),Inv X qz σ H s->(∀b∈fp,z5N X qz H b)->tn i s.heap->J.stop i H->
  bm (bo P w) X.A (cu (.ref it)) (λr s1=>r=none/\Inv X qz σ H s1) E s
 self: ∀(A:bu) (i:Nat) (s:be) (Q:bb->be->Prop) (E:bb->be->Prop),tn i s.heap->Q (.ref it) s->bm (bo P w) A (ft (.ref it)) Q E s
abbrev TI:=St->Hp->(It->Hp->Prop)->Prop
def PIE(X:Cx)(qz:List (Addr×bJ))(σ:St)(tg:bn)(R:It->Hp->Prop)(itv:bb)(s2:be):Prop:=
 ∃(it:Addr) (fp:List Addr) (tn:Nat->Heap->Prop) (J:It) (H':Hp),itv= .ref it/\Inv X qz σ H' s2/\z9X X.prog X.w X.K tg J fp it tn/\tn 0 s2.heap/\(∀b∈fp,z5N X qz H' b)/\R J H'
def PI(X:Cx)(tg iter:bn)(wi:TI):Prop:=
 ∀(qz:List (Addr×bJ)) (s:be) (σ:St) (H:Hp) (R:It->Hp->Prop),Inv X qz σ H s->wi σ H R->
  bm (bo X.prog X.w) X.A (bA iter X.env) (λv s1=>bm (bo X.prog X.w) X.A (ft v) (PIE X qz σ tg R) X.xe s1) X.xe s
def go_of{M:gk}{A:bu}{E:bb->be->Prop}{s:be}{tg:bn}{u:bb}{o:bJ}{Q:Unit->be->Prop}(ho:s.heap.get? it=some o)(hc:o.cls= .type n)(hd:o.data= .fields vs)
 (hn:["enumerate", "zip", "dict_itemiterator", "dict_reverseitemiterator", "odict_iterator", "itertools.zip_longest", "itertools.pairwise"].contains n=false) (hQ:Q () s):bm M A (bS tg (.ref it) u) Q E s:=by
 unfold bS
 cases tg<;>first
  |exact bf hQ
  |(cases u<;>first
   |exact bf hQ
   |(refine ba (wpAny_load ho ?_)
     rw[hc,hd]
     show bm M A (if(["enumerate", "zip", "dict_itemiterator", "dict_reverseitemiterator", "odict_iterator", "itertools.zip_longest", "itertools.pairwise"].contains n&&vs[0]? ==some (bO _))=true then _ else _) Q E s
     rw[qh (by intro h;rw[hn,D4] at h;cases h)]
     exact bf hQ))
noncomputable def Itl(K:W.Frag)(a:Addr):It:=
 ⟨λi H=> ∃xs x,SqL K H a xs/\xs[i]? =some x,λi H x H'=>H'=H/\∀xs,SqL K H a xs->xs[i]? =some x,λi H=> ∃xs,SqL K H a xs/\xs.length<=i⟩
noncomputable def Itt(K:W.Frag)(a:Addr):It:=
 ⟨λi H=> ∃xs x,SqT K H a xs/\xs[i]? =some x,λi H x H'=>H'=H/\∀xs,SqT K H a xs->xs[i]? =some x,λi H=> ∃xs,SqT K H a xs/\xs.length<=i⟩
noncomputable def Itr(lo:Int)(n:Nat):It:=⟨λi _=>i<n,λi H x H'=>H'=H/\x= .int (lo+i),λi _=>n<=i⟩
def z7K{P:bp}{w:br}{K:W.Frag}{tg:bn}(a it:Addr):z9X P w K tg (Itl K a) [it] it (λi h=>h.IsListIter it a i) where
 mem:=by simp
 obj:=λi h st b hb=>by
  have e:b=it:=by simpa using hb
  subst e
  obtain⟨o,e,c,d⟩:=st
  exact⟨o,e,λv z=>by rw[d] at z;cases z⟩
 keep:=λi h h' st k=>st.at λo e=>k it (by simp) o e
 item:=by
  intro X hP hw hK hc i qz s σ H E I hf st hg
  subst hP hw hK
  obtain⟨xs,x,hq,hx⟩:=hg
  obtain⟨its,rv,p,hz⟩:=I.list hq
  obtain⟨u,hu,ru⟩:=rv.get hx
  obtain⟨f0,f1,f2,f3,f4,f5⟩:=hf it (by simp)
  refine cS st p.isList (x:=u) (by simpa using hu) λh' st' sb=> ?_
  have I1:Inv X qz σ H {s with heap:=h'}:=I.turned (t':=s.toks) (λb o hb e=>(sb.2 b hb).trans e) f0 f1 f3 f4 f5
  obtain⟨o,e,c,d⟩:=id st'
  exact⟨u,rfl,go_of (s:={s with heap:=h'}) e c d (by decide) ⟨x,H,I1,ru,⟨rfl,λys hy=>by rw[I.list_inj hy hq];exact hx⟩,st',λb hb=>(hf b hb).1⟩⟩
 done:=by
  intro X hP hw hK hc i qz s σ H E I hf st hg
  subst hP hw hK
  obtain⟨xs,hq,hx⟩:=hg
  obtain⟨its,rv,p,hz⟩:=I.list hq
  obtain⟨f0,f1,f2,f3,f4,f5⟩:=hf it (by simp)
  have hl:=rv.length
  exact di (I.ok.hd hc) st p.isList (by simp;lia) λh' eb=>⟨rfl,I.turned (t':=s.toks) (λb o hb e=>eb b o hb e) f0 f1 f3 f4 f5⟩
 self:=λ_ _ _ _ _ st h=>wpAny_pyIter_listiter st h
def z6X{P:bp}{w:br}{K:W.Frag}{tg:bn}(a it:Addr):z9X P w K tg (Itt K a) [it] it (λi h=>h.IsTupleIter it a i) where
 mem:=by simp
 obj:=λi h st b hb=>by
  have e:b=it:=by simpa using hb
  subst e
  obtain⟨o,e,c,d⟩:=st
  exact⟨o,e,λv z=>by rw[d] at z;cases z⟩
 keep:=λi h h' st k=>st.at λo e=>k it (by simp) o e
 item:=by
  intro X hP hw hK hc i qz s σ H E I hf st hg
  subst hP hw hK
  obtain⟨xs,x,hq,hx⟩:=hg
  obtain⟨its,rv,p,hz⟩:=I.tuple hq
  obtain⟨u,hu,ru⟩:=rv.get hx
  obtain⟨f0,f1,f2,f3,f4,f5⟩:=hf it (by simp)
  refine wpAny_pyNext_tuple_item st (show s.heap.IsTuple a its.toArray from p) (x:=u) (by simpa using hu) λh' st' sb=> ?_
  have I1:Inv X qz σ H {s with heap:=h'}:=I.turned (t':=s.toks) (λb o hb e=>(sb.2 b hb).trans e) f0 f1 f3 f4 f5
  obtain⟨o,e,c,d⟩:=id st'
  exact⟨u,rfl,go_of (s:={s with heap:=h'}) e c d (by decide) ⟨x,H,I1,ru,⟨rfl,λys hy=>by rw[I.tuple_inj hy hq];exact hx⟩,st',λb hb=>(hf b hb).1⟩⟩
 done:=by
  intro X hP hw hK hc i qz s σ H E I hf st hg
  subst hP hw hK
  obtain⟨xs,hq,hx⟩:=hg
  obtain⟨its,rv,p,hz⟩:=I.tuple hq
  obtain⟨f0,f1,f2,f3,f4,f5⟩:=hf it (by simp)
  have hl:=rv.length
  exact wpAny_pyNext_tuple_end (I.ok.hd hc) st (show s.heap.IsTuple a its.toArray from p) (by simp;lia) λh' eb=>⟨rfl,I.turned (t':=s.toks) (λb o hb e=>eb b o hb e) f0 f1 f3 f4 f5⟩
 self:=λ_ _ _ _ _ st h=>wpAny_pyIter_tupleiter st h
def z6Y{P:bp}{w:br}{K:W.Frag}{tg:bn}(it:Addr)(lo:Int)(n:Nat):z9X P w K tg (Itr lo n) [it] it (λi h=>dm h it (lo+(i:Nat)*1) ((n:Int) -(i:Nat)) 1) where
 mem:=by simp
 obj:=λi h st b hb=>by
  have e:b=it:=by simpa using hb
  subst e
  exact⟨_,st,λv z=>by
   have z':Data.fields _=Data.cell v:=z
   cases z'⟩
 keep:=λi h h' st k=>k it (by simp) _ st
 item:=by
  intro X hP hw hK hc i qz s σ H E I hf st hg
  subst hP hw hK
  obtain⟨f0,f1,f2,f3,f4,f5⟩:=hf it (by simp)
  have W:=Walks.range (prog:=X.prog) (w:=X.w) (I.ok.hd hc) it lo 1 n
  refine W.item i s _ _ hg st λv h' tk hv st' kk=> ?_
  obtain⟨t,rfl⟩:=hv
  have I1:Inv X qz σ H {s with heap:=h',toks:=tk}:=I.turned (λb o hb e=>kk b o (by simpa using hb) e) f0 f1 f3 f4 f5
  refine⟨_,rfl,go_of (s:={s with heap:=h',toks:=tk}) (n:= "range_iterator") st' rfl rfl (by decide) ⟨.int (lo+i),H,I1,⟨t, ?_⟩,⟨rfl,rfl⟩,st',λb hb=>(hf b hb).1⟩⟩
  rw[Int.mul_one]
 done:=by
  intro X hP hw hK hc i qz s σ H E I hf st hg
  subst hP hw hK
  obtain⟨f0,f1,f2,f3,f4,f5⟩:=hf it (by simp)
  exact cT (I.ok.hd hc) st (by have:n<=i:=hg;lia) λh' eb=>⟨rfl,I.turned (t':=s.toks) (λb o hb e=>eb b o hb e) f0 f1 f3 f4 f5⟩
 self:=λ_ _ _ _ _ st h=>cA st h
section
variable{X:Cx}{tg:bn}
def z6o{R:It->Hp->Prop}{E:bb->be->Prop}{lo hi:Int}{t u v:Tok}{tk:Nat}(I:Inv X qz σ H s)(h1: -(2^62)<=lo)(h2:lo<2^62)(h3: -(2^62)<=hi)(h4:hi<2^62)
 (q:R (Itr lo (hi -lo).toNat) H):bm (bo X.prog X.w) X.A (ft (.ref s.heap.objs.size)) (PIE X qz σ tg R) E {s with heap:=s.heap.push {cls:= .type "range",data:= .fields #[.int lo t, .int hi u, .int 1 v]},toks:=tk}:=by
 refine wpAny_pyIter_range (IsRange.new ..) (small_one h1 h2 h3 h4) ?_
 have I1:Inv X qz σ H {s with heap:=s.heap.push {cls:= .type "range",data:= .fields #[.int lo t, .int hi u, .int 1 v]},toks:=tk}:=I.kept λb o e=>Heap.get?_push_of_some _ e
 refine⟨(s.heap.push {cls:= .type "range",data:= .fields #[.int lo t, .int hi u, .int 1 v]}).objs.size,[(s.heap.push {cls:= .type "range",data:= .fields #[.int lo t, .int hi u, .int 1 v]}).objs.size],_,_,H,rfl,
  I1.kept (t':=tk) λb o e=>Heap.get?_push_of_some _ e,z6Y _ lo (hi -lo).toNat, ?_,λb hb=> ?_,q⟩
 .have e1:lo+((0:Nat):Int)*1=lo:=by simp
  have e2:(((hi -lo).toNat:Nat):Int) -((0:Nat):Int)=Builtin.Range.rangeSize lo hi 1:=by rw[dF];split<;>lia
  show dm _ _ (lo+((0:Nat):Int)*1) ((((hi -lo).toNat:Nat):Int) -((0:Nat):Int)) 1
  rw[e1,e2]
  exact Heap.get?_push_size _ rfl
 .have e:b=(s.heap.push {cls:= .type "range",data:= .fields #[.int lo t, .int hi u, .int 1 v]}).objs.size:=by simpa using hb
  subst e
  exact I1.fpOk (b9 _) (I1.hok.fresh (b9 _))
def ziQ(ta:TA):TI:=λ σ H R=>ta σ H λvs H1=> ∃j:Int,vs=[.int j]/\-(2^62)<=j/\j<2^62/\R (Itr 0 j.toNat) H1
def ziR(ta:TA):TI:=λ σ H R=>ta σ H λvs H1=> ∃i j:Int,vs=[.int i, .int j]/\(-(2^62)<=i/\i<2^62/\-(2^62)<=j/\j<2^62)/\R (Itr i (j -i).toNat) H1
def z7L{p pos:bN}(hg:Gl X "range")(hm:X.mg "range" =none)(ha:PA X [a] ta)(hs:bi [a] X.env=[(false,bA a X.env)]:=by rfl):PI X tg (.Call (.Name "range" p) [a] [] pos) (ziQ ta):=by
 intro qz s σ H R I h
 refine fR (z1l I hg hm dM (PyProof.Rows.callWith_type1 (thn (ha pos qz s σ H _ I h) λus s1 ⟨vs,H1,I1,r1,q1⟩=> ?_) hs rfl))
 obtain⟨j,e,q1,q2,q⟩:=q1
 subst e
 cases r1 with
 |cons r rr=>
  cases rr
  obtain⟨t,rfl⟩:=r
  exact call_range_1 (z6o I1 (by lia) (by lia) q1 q2 (by simpa using q))
def z7M{p pos:bN}(hg:Gl X "range")(hm:X.mg "range" =none)(ha:PA X [a,b] ta)(hs:bi [a,b] X.env=[(false,bA a X.env),(false,bA b X.env)]:=by rfl)(hs2:bi [b] X.env=[(false,bA b X.env)]:=by rfl):
 PI X tg (.Call (.Name "range" p) [a,b] [] pos) (ziR ta):=by
 intro qz s σ H R I h
 refine fR (z1l I hg hm dM (PyProof.Rows.callWith_type1 (thn (ha pos qz s σ H _ I h) λus s1 ⟨vs,H1,I1,r1,q1⟩=> ?_) (by rw[hs,hs2]) (by rw[hs2];rfl)))
 obtain⟨i,j,e,⟨q1,q2,q3,q4⟩,q⟩:=q1
 subst e
 cases r1 with
 |cons r rr=>
  cases rr with
  |cons r' rr=>
   cases rr
   obtain⟨t,rfl⟩:=r
   obtain⟨t',rfl⟩:=r'
   exact call_range_2 (z6o I1 q1 q2 q3 q4 q)
def zl4(wi:TI)(g:TG)(tb:TS):TS:=λD σ H=>wi σ H λJ H1=> ∃W:Nat->Nat->St->Hp->Prop,(∃m,W 0 m σ H1)/\∀i m σ H,W i m σ H->
 (J.stop i H/\D.nx σ H)\/(J.go i H/\∃N:St->Hp->Prop,(∀σ' H',N σ' H'->∃m',m'<m/\W (i+1) m' σ' H')/\∀x H',J.yld i H x H'->g x σ H' λ σ2 H2=>tb {D with nx:=N,ct:=N,bk:=D.nx} σ2 H2)
noncomputable def z6p(fp:List Addr)(h:Heap):List (Addr×bJ):=fp.filterMap λb=>(h.get? b).map λo=>(b,o)
def z0e{h:Heap}(hb:b∈fp)(e:h.get? b=some o):(b,o)∈z6p fp h:=S1.mpr ⟨b,hb,by rw[e];rfl⟩
def z7N{h:Heap}{p:Addr×bJ}(hp:p∈z6p fp h):p.1∈fp/\h.get? p.1=some p.2:=by
 obtain⟨b,hb,e⟩:=S1.mp hp
 cases q:h.get? b with
 |none=>rw[q] at e;cases e
 |some o=>
  rw[q] at e
  have e':(b,o)=p:=Option.some.inj e
  subst e'
  exact⟨hb,q⟩
def Inv.pinned{s:be}(I:Inv X qz σ H s)(hf: ∀b∈fp,z5N X qz H b)(ho: ∀b∈fp,∃o,s.heap.get? b=some o/\∀v,o.data≠ .cell v):Inv X (qz++z6p fp s.heap) σ H s:=
 I.pins_of λp hp=>(e9.mp hp).elim (λz=>I.pin p (b6 _ z)) λz=>by
  obtain⟨hb,e⟩:=z7N z
  obtain⟨f0,f1,f2,_⟩:=hf p.1 hb
  obtain⟨o,e',d⟩:=ho p.1 hb
  rw[e] at e';cases e'
  exact⟨e,f0,f1,f2,d⟩
def Inv.unpinned(I:Inv X (qz++pl) σ H s):Inv X qz σ H s:=I.pins_of λp hp=>I.pin p (b6 _ (e6 _ hp))
def zbm{pos:bN}(hp:fZ (bo X.prog X.w) X.A X.env X.xe)(hc:X.calm=true)(hi:PI X tg iter wi)(hg:PG X tg g)(hb:PSs X body tb)
 (hs: ∀x,bC iter X.env x=pure x:=by intro _;rfl):PS X (.For tg iter body [] pos) (zl4 wi g tb):=by
 intro qz s σ H D I h
 refine wpAny_For (thn (hi qz s σ H _ I h) λv s1 h1=>thn h1 λitv s2 h2=> ?_) hs
 obtain⟨it,fp,tn,J,H2,e,I2,T,st2,f2,W,⟨m0,w0⟩,turn⟩:=h2
 subst e
 have stat: ∀{H':Hp},(∀b∈fp,H' b=none)->∀b∈fp,z5N X qz H' b:=λhn b hb=>⟨hn b hb,(f2 b hb).2⟩
 refine codeAny_forLoop_any (λn s'=> ∃i σ' H',Inv X qz σ' H' s'/\tn i s'.heap/\(∀b∈fp,H' b=none)/\W i n σ' H') ?_ m0 ⟨0,σ,H2,I2,st2,λb hb=>(f2 b hb).1,w0⟩
 rintro n s3 ⟨i,σ3,H3,I3,st3,fr3,w3⟩
 rcases turn i n σ3 H3 w3 with⟨stop,qn⟩|⟨go,N,hN,step⟩
 .refine cr hp (thn (T.done X rfl rfl rfl hc i qz s3 σ3 H3 X.xe I3 (stat fr3) st3 stop) ?_)
  rintro r s4 ⟨hr,I4⟩
  subst hr
  exact dg ⟨σ3,H3,I4,qn⟩
 .refine cr hp (thn (T.item X rfl rfl rfl hc i qz s3 σ3 H3 X.xe I3 (stat fr3) st3 go) ?_)
  rintro r s4 ⟨u,hr,h4⟩
  subst hr
  refine cr hp (thn h4 ?_)
  rintro _ s5 ⟨x,H5,I5,r5,y5,st5,fr5⟩
  have I5':=I5.pinned (stat fr5) (T.obj _ _ st5)
  refine cr hp (thn (hg _ s5 σ3 H5 x u _ I5' r5 (step x H5 y5)) ?_)
  rintro _ s6 ⟨σ6,H6,I6,q6⟩
  refine cr hp (thn (hb _ s6 σ6 H6 _ I6 q6) λf s7 q7=> ?_)
  have again: ∀{σ7:St} {H7:Hp},Inv X (qz++z6p fp s5.heap) σ7 H7 s7->N σ7 H7->∃m,m<n/\∃i σ' H',Inv X qz σ' H' s7/\tn i s7.heap/\(∀b∈fp,H' b=none)/\W i m σ' H':=λ{σ7 H7} I7 n7=>by
   obtain⟨m',hm,w7⟩:=hN σ7 H7 n7
   refine⟨m',hm,i+1,σ7,H7,I7.unpinned,T.keep _ _ _ st5 λb hb o e=>(I7.pin (b,o) (b6 _ (b6 _ (z0e hb e)))).1,λb hb=> ?_,w7⟩
   obtain⟨o,e,d⟩:=T.obj _ _ st5 b hb
   exact(I7.pin (b,o) (b6 _ (b6 _ (z0e hb e)))).2.1
  cases f with
  |next=>obtain⟨σ7,H7,I7,n7⟩:=q7;exact again I7 n7
  |cont=>obtain⟨σ7,H7,I7,n7⟩:=q7;exact again I7 n7
  |brk=>obtain⟨σ7,H7,I7,q7⟩:=q7;exact⟨σ7,H7,I7.unpinned,q7⟩
  |ret v=>obtain⟨x7,σ7,H7,I7,r7,q7⟩:=q7;exact⟨x7,σ7,H7,I7.unpinned,r7,q7⟩
end
abbrev R2:=V->V->Hp->VK->Prop
def OpR(X:Cx)(f:bb->bb->dl bb)(r:R2):Prop:=
 ∀(qz:List (Addr×bJ)) (s:be) (σ:St) (H:Hp) (x y:V) (v u:bb) (Q:VK),Inv X qz σ H s->RelV x v->RelV y u->r x y H Q->
  bm (bo X.prog X.w) X.A (f v u) (EP X qz σ Q) X.xe s
def CallR(X:Cx)(f:bb)(r:List V->Hp->VK->Prop):Prop:=
 ∀(qz:List (Addr×bJ)) (s:be) (σ:St) (H:Hp) (xs:List V) (us:List bb) (Q:VK),Inv X qz σ H s->g7 xs us->r xs H Q->
  bm (bo X.prog X.w) X.A (call f us) (EP X qz σ Q) X.xe s
def tOp(r:R2)(ta tb:TE):TE:=λ σ H Q=>ta σ H λx H1=>tb σ H1 λy H2=>r x y H2 Q
def rI(C:Int->Int->Prop)(g:Int->Int->V):R2:=λx y H Q=> ∃i j,x= .int i/\y= .int j/\C i j/\Q (g i j) H
def rI0(g:Int->Int->V):R2:=λx y H Q=> ∃i j,x= .int i/\y= .int j/\Q (g i j) H
section
variable{X:Cx}{a b c:bn}{ta tb tc:TE}{pos:bN}
def ziS(ha:PE X a ta)(hb:PE X b tb){R:V->V->Hp->Prop}(I:Inv X qz σ H s)
 (h:ta σ H λx H1=>tb σ H1 λy H2=>R x y H2) {Q:bb->be->Prop} {f:bb->bb->dl bb}
 (hf: ∀v u s2 x y H2,Inv X qz σ H2 s2->RelV x v->RelV y u->R x y H2->bm (bo X.prog X.w) X.A (f v u) Q X.xe s2):
 bm (bo X.prog X.w) X.A (bA a X.env) (λv s₁=>bm (bo X.prog X.w) X.A (bA b X.env) (λu s₂=>bm (bo X.prog X.w) X.A (f v u) Q X.xe s₂) X.xe s₁) X.xe s:=by
 refine thn (ha qz s σ H _ I h) ?_
 rintro v s1 ⟨x,H1,I1,r1,q1⟩
 refine thn (hb qz s1 σ H1 _ I1 q1) ?_
 rintro u s2 ⟨y,H2,I2,r2,q2⟩
 exact hf v u s2 x y H2 I2 r1 r2 q2
def zf9(ho:OpR X (cg op) r)(ha:PE X a ta)(hb:PE X b tb):PE X (.BinOp a op b pos) (tOp r ta tb):=by
 intro qz s σ H Q I h
 exact wpAny_BinOp (ziS ha hb I h λv u s2 x y H2 I2 rx ry q=>ho qz s2 σ H2 x y v u Q I2 rx ry q)
def opI{f:bb->bb->dl bb}{C:Int->Int->Prop}{g:Int->Int->Int}
 (rule: ∀i j (t u:Tok) s (Q:bb->be->Prop) (E:bb->be->Prop),C i j->Q (.int (g i j) s.toks) {s with toks:=s.toks+1}->bm (bo X.prog X.w) X.A (f (.int i t) (.int j u)) Q E s):
 OpR X f (rI C λi j=> .int (g i j)):=by
 intro qz s σ H x y v u Q I rx ry h
 obtain⟨i,j,rfl,rfl,hc,q⟩:=h
 obtain⟨t,rfl⟩:=rx
 obtain⟨t',rfl⟩:=ry
 exact rule i j t t' s _ _ hc ⟨.int (g i j),H,I.tok _,⟨_,rfl⟩,q⟩
def zkB{f:bb->bb->dl bb}{g:Int->Int->Int}
 (rule: ∀i j (t u:Tok) s (Q:bb->be->Prop) (E:bb->be->Prop),Q (.int (g i j) s.toks) {s with toks:=s.toks+1}->bm (bo X.prog X.w) X.A (f (.int i t) (.int j u)) Q E s):
 OpR X f (rI0 λi j=> .int (g i j)):=by
 intro qz s σ H x y v u Q I rx ry h
 obtain⟨i,j,rfl,rfl,q⟩:=h
 obtain⟨t,rfl⟩:=rx
 obtain⟨t',rfl⟩:=ry
 exact rule i j t t' s _ _ ⟨.int (g i j),H,I.tok _,⟨_,rfl⟩,q⟩
def ziT{f:bb->bb->dl bb}{g:Int->Int->Bool}
 (rule: ∀i j (t u:Tok) s (Q:bb->be->Prop) (E:bb->be->Prop),Q (.bool (g i j)) s->bm (bo X.prog X.w) X.A (f (.int i t) (.int j u)) Q E s):
 OpR X f (rI0 λi j=> .bl (g i j)):=by
 intro qz s σ H x y v u Q I rx ry h
 obtain⟨i,j,rfl,rfl,q⟩:=h
 obtain⟨t,rfl⟩:=rx
 obtain⟨t',rfl⟩:=ry
 exact rule i j t t' s _ _ ⟨.bl (g i j),H,I,rfl,q⟩
def zeF(i j:Int):Prop:=0<j/\j<2^200
def ziU{x j:Int}(h1:0<j)(h2:j<2^200):Builtin.divisionGoesByPylong x j=false:=by
 refine PyProof.noPylong_of_log2 ?_
 have h3:j.natAbs.log2<200:=(Nat.log2_lt (by lia)).mpr (by lia)
 lia
def zeG(i j:Int):Prop:=0<=j/\j<=1000000/\i.natAbs<2^64
def za8(i j:Int):Prop:=(-(2^64)<i/\i<2^64)\/(-(2^64)<j/\j<2^64)
def za8.ok{i j:Int}(h:za8 i j):IntMulOk i j:=by
 rcases h with⟨h1,h2⟩|⟨h1,h2⟩
 .exact .of_left (intBits_le_64 h1 h2)
 .exact .of_right (intBits_le_64 h1 h2)
def zfa:OpR X (cg .Add) (rI0 λi j=> .int (i+j)):=zkB λ_ _ _ _ _ _ _ q=>add_int q
def zfb:OpR X (cg .Sub) (rI0 λi j=> .int (i -j)):=zkB λ_ _ _ _ _ _ _ q=>sub_int q
def zfc:OpR X (cg .Mult) (rI za8 λi j=> .int (i*j)):=opI λ_ _ _ _ _ _ _ hc q=>mul_int q hc.ok
def zcD:OpR X (cg .FloorDiv) (rI zeF λi j=> .int (i/j)):=opI λi j _ _ _ _ _ hc q=>by
 have h1:(0:Int)<j:=hc.1
 have h2:j<2^200:=hc.2
 exact floordiv_int (by lia) (by rw[Int.fdiv_eq_ediv_of_nonneg i (by lia)];exact q) (.inl (ziU h1 h2))
def zfd:OpR X (cg .Mod) (rI (λ_ j=>0<j) λi j=> .int (i %j)):=opI λi j _ _ _ _ _ hc q=>by
 have h1:(0:Int)<j:=hc
 exact mod_int' (by lia) (by rw[Int.fmod_eq_emod_of_nonneg i (by lia)];exact q)
def zfe:OpR X (cg .Pow) (rI zeG λi j=> .int (i^j.toNat)):=opI λ_ _ _ _ _ _ _ hc q=>pow_int_small hc.1 hc.2.1 hc.2.2 q
def zbn{k k':Bool}(I:Inv X qz σ H s)(q:Q (.bl k) H)(e:k=k'):EP X qz σ Q (.bool k') s:=by
 subst e
 exact⟨.bl k,H,I,rfl,q⟩
def ziV:OpR X (bE .Lt) (rI0 λi j=> .bl (decide (i<j))):=ziT λ_ _ _ _ _ _ _ q=>lt_int q
def ziW:OpR X (bE .LtE) (rI0 λi j=> .bl (decide (i<=j))):=ziT λ_ _ _ _ _ _ _ q=>le_int q
def ziX:OpR X (bE .Gt) (rI0 λi j=> .bl (decide (j<i))):=ziT λ_ _ _ _ _ _ _ q=>gt_int q
def zff:OpR X (bE .Is) (λx y H Q=>y= .non/\Q (.bl (decide (x= .non))) H):=by
 intro qz s σ H x y v u Q I rx ry h
 obtain⟨rfl,q⟩:=h
 cases ry
 refine is_none_gen (zbn I q ?_)
 cases x<;>first
  |(cases rx;rfl)
  |(obtain⟨t,rfl⟩:=rx;rfl)
def zcE:OpR X (bE .IsNot) (λx y H Q=>y= .non/\Q (.bl (!decide (x= .non))) H):=by
 intro qz s σ H x y v u Q I rx ry h
 obtain⟨rfl,q⟩:=h
 cases ry
 refine isnot_none_gen (zbn I q ?_)
 cases x<;>first
  |(cases rx;rfl)
  |(obtain⟨t,rfl⟩:=rx;rfl)
def OpR.or(h:OpR X f r)(h':OpR X f r'):OpR X f (λx y H Q=>r x y H Q\/r' x y H Q):=by
 intro qz s σ H x y v u Q I rx ry q
 rcases q with q|q
 .exact h qz s σ H x y v u Q I rx ry q
 .exact h' qz s σ H x y v u Q I rx ry q
def W3 b{op:dh}(h:op≠ .In:=by decide)(h2:op≠ .NotIn:=by decide):bW op b=false:=by
 have e1:(op==CmpOp.In)=false:=by cases op<;>first|rfl|exact absurd rfl h
 have e2:(op==CmpOp.NotIn)=false:=by cases op<;>first|rfl|exact absurd rfl h2
 cases b<;>simp[bW,e1,e2]
def zcF(ho:OpR X (bE op) r)(ha:PE X a ta)(hb:PE X b tb)(hm:bW op b=false):PE X (.Compare a [op] [b] pos) (tOp r ta tb):=by
 intro qz s σ H Q I h
 exact wpAny_Compare1 (ziS ha hb I h λv u s2 x y H2 I2 rx ry q=>ho qz s2 σ H2 x y v u Q I2 rx ry q) hm
def zfg(t:TE):TT:=λ σ H Q=>t σ H λx H'=> ∃k,x= .bl k/\Q k H'
def zcG(ho:OpR X (bE op) r)(ha:PE X a ta)(hb:PE X b tb)(hm:bW op b=false):PT X (.Compare a [op] [b] pos) (zfg (tOp r ta tb)):=by
 intro qz s σ H Q I h
 refine wpAny_isTrue_Compare1 (thn (ha qz s σ H _ I h) λv s1 ⟨x,H1,I1,r1,q1⟩=>thn (hb qz s1 σ H1 _ I1 q1) λu s2 ⟨y,H2,I2,r2,q2⟩=>
  thn (ho qz s2 σ H2 x y v u _ I2 r1 r2 q2) λc s3 ⟨z,H3,I3,r3,k,e,q3⟩=> ?_) hm
 subst e
 cases r3
 exact bB ⟨H3,I3,q3⟩
def zbo(r r':R2)(ta tb tc:TE):TE:=λ σ H Q=>ta σ H λx H1=>tb σ H1 λy H2=>r x y H2 λz H3=> ∃k,z= .bl k/\
 (if k=true then tc σ H3 λw' H4=>r' y w' H4 Q else Q (.bl false) H3)
def za9(ho:OpR X (bE op) r)(ho':OpR X (bE op') r')(ha:PE X a ta)(hb:PE X b tb)(hc:PE X c tc)
 (hm:dA [op,op'] [b,c]=false:=by with_unfolding_all rfl):PE X (.Compare a [op,op'] [b,c] pos) (zbo r r' ta tb tc):=by
 intro qz s σ H Q I h
 refine Compare_chain (thn (ha qz s σ H _ I h) λv s1 ⟨x,H1,I1,r1,q1⟩=>chain_link (thn (hb qz s1 σ H1 _ I1 q1) λu s2 ⟨y,H2,I2,r2,q2⟩=>
  thn (ho qz s2 σ H2 x y v u _ I2 r1 r2 q2) λd s3 ⟨z,H3,I3,r3,k,e,q3⟩=> ?_)) hm
 subst e
 cases r3
 refine bB ?_
 cases k with
 |false=>exact ite_ff ⟨.bl false,H3,I3,rfl,q3⟩
 |true=>exact ite_tt (chain_last (thn (hc qz s3 σ H3 _ I3 q3) λw' s4 ⟨z',H4,I4,r4,q4⟩=>ho' qz s4 σ H4 y z' u w' Q I4 r2 r4 q4))
def z4B:(qg:Nat)<2^63:=by rw[fy];decide
def z6Z:OpR X (cg .Add) (λx y H Q=> ∃i j,x= .str i/\y= .str j/\i.length+j.length<=qg/\Q (.str (i++j)) H):=by
 intro qz s σ H x y v u Q I rx ry h
 obtain⟨i,j,rfl,rfl,hz,q⟩:=h
 obtain⟨t,rfl⟩:=rx
 obtain⟨t',rfl⟩:=ry
 exact add_str (λt' tk=>⟨.str (i++j),H,I.tok _,⟨_,rfl⟩,q⟩) hz
def z3V(r:g7 [x] us): ∃u,us=[u]/\RelV x u:=by
 cases r with
 |cons r1 r2=>cases r2;exact⟨_,rfl,r1⟩
def zfh(r:g7 [x,y] us): ∃u w',us=[u,w']/\RelV x u/\RelV y w':=by
 cases r with
 |cons r1 r2=>
  cases r2 with
  |cons r3 r4=>cases r4;exact⟨_,_,rfl,r1,r3⟩
def zaa:CallR X (.builtin "abs") (λxs H Q=> ∃i,xs=[.int i]/\Q (.int (if i<0 then -i else i)) H):=by
 intro qz s σ H xs us Q I r h
 obtain⟨i,rfl,q⟩:=h
 obtain⟨u,rfl,t,rfl⟩:=z3V r
 exact call_abs_int λu tk=>⟨.int (if i<0 then -i else i),H,I.tok _,⟨_,rfl⟩,q⟩
def z7O(hc:X.calm=true):CallR X (.builtin "max") (λxs H Q=> ∃i j,xs=[.int i, .int j]/\Q (.int (if j>i then j else i)) H):=by
 intro qz s σ H xs us Q I r h
 obtain⟨i,j,rfl,q⟩:=h
 obtain⟨u,w',rfl,⟨t,rfl⟩,⟨t',rfl⟩⟩:=zfh r
 refine max_two_ints (I.ok.hd hc) λh' tk k=>⟨_,H,I.kept k, ?_,q⟩
 by_cases hj:j>i
 .rw[qy hj,qy hj];exact⟨_,rfl⟩
 .rw[qh hj,qh hj];exact⟨_,rfl⟩
def z7P(hc:X.calm=true):CallR X (.builtin "min") (λxs H Q=> ∃i j,xs=[.int i, .int j]/\Q (.int (if j<i then j else i)) H):=by
 intro qz s σ H xs us Q I r h
 obtain⟨i,j,rfl,q⟩:=h
 obtain⟨u,w',rfl,⟨t,rfl⟩,⟨t',rfl⟩⟩:=zfh r
 refine min_two_ints (I.ok.hd hc) λh' tk k=>⟨_,H,I.kept k, ?_,q⟩
 by_cases hj:j<i
 .rw[qy hj,qy hj];exact⟨_,rfl⟩
 .rw[qh hj,qh hj];exact⟨_,rfl⟩
def z7Q:CallR X (.type "int") (λxs H Q=>(∃i,xs=[.int i]/\Q (.int i) H)\/∃k,xs=[.bl k]/\Q (.int (if k then 1 else 0)) H):=by
 intro qz s σ H xs us Q I r h
 rcases h with⟨i,rfl,q⟩|⟨k,rfl,q⟩
 .obtain⟨u,rfl,t,rfl⟩:=z3V r
  exact call_int_int ⟨.int i,H,I,⟨_,rfl⟩,q⟩
 .obtain⟨u,rfl,r1⟩:=z3V r
  cases r1
  exact call_int_bool ⟨.int (if k then 1 else 0),H,I.tok _,⟨_,rfl⟩,q⟩
end
def RelO.some_of(r:RelO (some v) o): ∃u,o=some u/\RelV v u:=by
 cases o with
 |none=>exact(show False from r).elim
 |some u=>exact⟨u,rfl,r⟩
structure z3p(k:Nat)(A:bu):Prop where
 hd:A.handled=none
 dp:A.depth+3*k+5<recursionLimit
 un:A.units+16*k+200<cLine
 gd:A.guards=some []
def z3p.mono{j k:Nat}(r:z3p k A)(h:j<=k):z3p j A:=⟨r.hd,by have:=r.dp;lia,by have:=r.un;lia,r.gd⟩
def z3p.deeper{k:Nat}{A:bu}(r:z3p (k+1) A)(env:dw):z3p k (A.deeper env):=
 ⟨r.hd,by have:=r.dp;show A.depth+1+3*k+5<_;lia,by have:=r.un;show A.units+3+16*k+200<_;lia,r.gd⟩
def z3p.depth{k:Nat}{A:bu}(r:z3p k A):A.depth<recursionLimit:=by have:=r.dp;lia
def z3p.units{k:Nat}{A:bu}(r:z3p k A):A.units+64<cLine:=by have:=r.un;lia
def zkC:TA:=λ_ H Q=>Q [] H
def zfi(ta:TE)(tr:TA):TA:=λ σ H Q=>ta σ H λx H1=>tr σ H1 λxs H2=>Q (x::xs) H2
section
variable{X:Cx}{e:bn}{es:List bn}{te:TE}{t:TA}{pos:bN}
def zbp:PA X [] zkC:=λ_ _ _ _ H Q I h=>Calls.spliced_nil ⟨[],H,I, .nil,h⟩
def z7R(ha:PE X e te)(hr:PA X es t)(hs:bi (e::es) X.env=(false,bA e X.env)::bi es X.env:=by rfl):PA X (e::es) (zfi te t):=by
 intro pos qz s σ H Q I h
 rw[hs]
 show bm _ _ (gh ((false,bA e X.env)::bM pos (bi es X.env))) _ _ s
 refine Calls.spliced_cons (thn (ha qz s σ H _ I h) ?_)
 rintro u s1 ⟨x,H1,I1,r1,q1⟩
 exact thn (hr pos qz s1 σ H1 _ I1 q1) λus s2 ⟨xs,H2,I2,r2,q2⟩=>⟨x::xs,H2,I2, .cons r1 r2,q2⟩
def zkD(t:TA):TE:=λ σ H Q=>t σ H λxs H1=>xs.length<=qg/\∀p,H1 p=none->Q (.ref p) (upd H1 p (.tup xs))
def zl5(t:TA):TE:=λ σ H Q=>t σ H λxs H1=>xs.length<=qg/\∀p,H1 p=none->Q (.ref p) (upd H1 p (.lst xs))
def zbq{x1}(h:PA X es t):PE X (.Tuple es x1 pos) (zkD t):=by
 intro qz s σ H Q I hq
 refine wpAny_Tuple_spliced (thn (h pos qz s σ H _ I hq) λus s1 ⟨xs,H1,I1,r,z,q⟩=>⟨by rw[<-r.length];exact z, ?_⟩)
 have hf:H1 s1.heap.objs.size=none:=I1.hok.fresh (b9 _)
 refine⟨.ref s1.heap.objs.size,upd H1 s1.heap.objs.size (.tup xs),I1.laid (t':=s1.toks) (λb u e=>Heap.get?_push_of_some _ e) (b9 _) ?_,rfl,q _ hf⟩
 exact⟨z,us,r,⟨_,Heap.get?_push_size _ rfl,rfl,_,rfl⟩⟩
def zfj(h:PA X es t):PE X (.List es pos) (zl5 t):=by
 intro qz s σ H Q I hq
 refine wpAny_List_spliced (thn (h pos qz s σ H _ I hq) λus s1 ⟨xs,H1,I1,r,z,q⟩=>⟨by rw[<-r.length];exact z, ?_⟩)
 have hf:H1 s1.heap.objs.size=none:=I1.hok.fresh (b9 _)
 refine⟨.ref s1.heap.objs.size,upd H1 s1.heap.objs.size (.lst xs),I1.laid (t':=s1.toks) (λb u e=>Heap.get?_push_of_some _ e) (b9 _) ?_,rfl,q _ hf⟩
 exact⟨z,us,0,r,Heap.get?_push_size _ rfl⟩
end
abbrev Sp:=List V->Hp->VK->XK->Prop
abbrev CXT:=List dw->Hp->be->XK->bb->be->Prop
structure ziq(P:bp)(w:br)(K:W.Frag)(mg:Str->Option bb)(base:Heap)(A:bu)(outer:List dw)(s:be)(H:Hp):Prop where
 frames:A.frames=some outer
 mod:Mod K mg base
 bs: ∀b o,base.get? b=some o->s.heap.get? b=some o/\H b=none
 bsz:base.objs.size<=s.heap.objs.size
 funs:s.heap.FunFrames base outer
 frf: ∀b∈frs outer,H b=none
 hok:HOk P w H s.heap
 bare:cL s.gens
def CE(outer:List dw)(P:bp)(w:br)(H:Hp)(s:be)(Q:VK)(u:bb)(s':be):Prop:=
 ∃v H',s'.os=s.os/\cL s'.gens/\Un (frs outer) [] H H' s.heap s'.heap/\HOk P w H' s'.heap/\RelV v u/\Q v H'
def CR(CX:CXT)(outer:List dw)(P:bp)(w:br)(H:Hp)(s:be)(Q:VK)(E:XK)(r:gi)(s':be):Prop:=
 match r with
 | .ok (.ret u)=>CE outer P w H s Q u s'
 | .ok _=>False
 | .error e=>CX outer H s E e s'
structure z0L(P:bp)(w:br)(K:W.Frag)(mg:Str->Option bb)(base:Heap)(CX:CXT)(k:Nat)(f:Addr)(fd:bI)(ps:List Str)(sp:Sp):Prop where
 len: ∀vs H Q E,sp vs H Q E->vs.length=ps.length
 run: ∀(A:bu) (outer:List dw) (s:be) (H:Hp) (args:Args) (us:List bb) (vs:List V) (Q:VK) (E:XK),z3p k A->ziq P w K mg base A outer s H->dS s fd args (ps.zip us)->g7 vs us->sp vs H Q E->
  cn (bo P w) A (.call (.ref f) args) (CR CX outer P w H s Q E) s
def z0L.mono{P:bp}{w:br}{K:W.Frag}{mg:Str->Option bb}{base:Heap}{CX:CXT}{j k:Nat}{f:Addr}{fd:bI}{ps:List Str}{sp:Sp}(F:z0L P w K mg base CX j f fd ps sp)(h:j<=k):
 z0L P w K mg base CX k f fd ps sp:=⟨F.len,λA outer s H args us vs Q E hr=>F.run A outer s H args us vs Q E (hr.mono h)⟩
section
variable{X:Cx}{qz:List (Addr×bJ)}{σ:St}{H:Hp}{s s':be}
def Inv.env0(I:Inv X qz σ H s):ziq X.prog X.w X.K X.mg X.base X.A X.stack s H:=
 ⟨I.ok.frames,I.ok.mod,I.bs,C1 I.ok.bsz I.sz,I.stack,I.stkFree,I.hok,I.bare⟩
def Inv.after(I:Inv X qz σ H s)(h:CE X.stack X.prog X.w H s Q u s'):EP X qz σ Q u s':=by
 obtain⟨v,H',os,bare,un,hok,r,q⟩:=h
 obtain⟨hh,g,d,t,os'⟩:=s'
 obtain rfl:os'=s.os:=os
 exact⟨v,H',I.call (h':=hh) (g':=g) (d':=d) (t':=t) (ch:=[]) un hok bare (λb z=>absurd z (by simp)),r,q⟩
end
def ziY(sp:Sp)(dvs:List V)(E:XK)(t:TA):TE:=λ σ H Q=>t σ H λvs H1=>sp (vs++dvs) H1 Q E
def z5O(K:W.Frag)(fd:bI)(ps:List Str)(ds:List bb):Prop:=
 ∀(s:be) (us:List bb),K.In s.heap->(us++ds).length=ps.length->dS s fd ⟨us,[]⟩ (ps.zip (us++ds))
def z5O.all{K:W.Frag}{fd:bI}{ps:List Str}(h: ∀us:List bb,us.length=ps.length->bindArgs fd ⟨us,[]⟩=pure (ps.zip us)):z5O K fd ps []:=λs us _ hl=>by
 rw[e8] at hl⊢
 exact .of_eq (h us hl)
def z4C(CX:CXT)(X:Cx)(E:XK):Prop:= ∀(qz:List (Addr×bJ)) (σ:St) (H:Hp) (s:be) (e:bb) (s':be),Inv X qz σ H s->CX X.stack H s E e s'->X.xe e s'
section
variable{X:Cx}{CX:CXT}{k:Nat}{f C:Addr}{fd:bI}{ps:List Str}{sp:Sp}{dvs:List V}{ds:List bb}{E:XK}{x m:Str}{p pos apos:bN}{e o:bn}{es:List bn}{ta:TE}{t:TA}
def zfk{qz:List (Addr×bJ)}{σ:St}{H:Hp}{s:be}{Q:VK}{us:List bb}{vs:List V}(F:z0L X.prog X.w X.K X.mg X.base CX k f fd ps sp)(hr:z3p k X.A)(hb:z5O X.K fd ps ds)(hd:g7 dvs ds)(hx:z4C CX X E)
 (I:Inv X qz σ H s) (r:g7 vs us) (h:sp (vs++dvs) H Q E):bm (bo X.prog X.w) X.A (call (.ref f) us) (EP X qz σ Q) X.xe s:=by
 have r2:g7 (vs++dvs) (us++ds):=r.append hd
 have hl:(us++ds).length=ps.length:=by rw[<-r2.length];exact F.len _ _ _ _ h
 refine wpAny_call (dU (F.run X.A X.stack s H ⟨us,[]⟩ (us++ds) (vs++dvs) Q E hr I.env0 (hb s us I.kIn hl) r2 h) λr s' hq=> ?_)
 cases r with
 |error e=>exact hx qz σ H s e s' I hq
 |ok fl=>
  cases fl with
  |ret u=>exact I.after hq
  |next=>exact False.elim hq
  |brk=>exact False.elim hq
  |cont=>exact False.elim hq
def zcH(F:z0L X.prog X.w X.K X.mg X.base CX k f fd ps sp)(hr:z3p k X.A)(hg:Gl X x)(hm:X.mg x=some (.ref f))(hk:W.keepIn X.K (.ref f)=true)(hb:z5O X.K fd ps ds)(hd:g7 dvs ds)(hx:z4C CX X E)
 (ha:PA X (e::es) t) (hdb:(x==("__debug__" :Str))=false:=by decide) (he:bi (e::es) X.env=(false,bA e X.env)::bi es X.env:=by rfl) (hpl:(bM pos (bi es X.env)).any (·.1)=false:=by rfl):
 PE X (.Call (.Name x p) (e::es) [] pos) (ziY sp dvs E t):=by
 intro qz s σ H Q I h
 refine cJ (z7H I hg hm ?_ hdb)
 refine W.callWith_K (h₀:=X.base) I.ok.mod.kin hk (thn (ha pos qz s σ H _ I h) λus s1 ⟨vs,H1,I1,r,q⟩=>⟨I1.kIn, ?_⟩) he hpl
 exact zfk F hr hb hd hx I1 r q
end
structure Q3(N P:List Str)(sc:Scope):Prop where
 kind:sc.kind= .function
 co:sc.isCoroutine=false
 gen:sc.isGenerator=false
 nd:N.Nodup
 pre:N.take P.length=P
 par: ∀x∈P,sc.names.lookup x=some .local\/sc.names.lookup x=some .cell
 nofree: ∀y∈sc.names,y.2≠ .free
theorem z4D{kindOf:Str->Option bZ}{x:Str}: ∀{binds:List (Str×bb)} {m:Str->Option bb},(∀v,(x,v)∉binds)->fT kindOf binds m x=m x
 |[],_,_=>rfl
 |(n,v)::r,m,h=>by
  unfold fT
  rw[z4D λw hw=>h w (b7 _ hw)]
  split
  .have:x≠n:=by rintro rfl;exact h v c9
   simp[this]
  .rfl
theorem z4E{kindOf:Str->Option bZ}{x:Str}: ∀{binds:List (Str×bb)} {m:Str->Option bb},(∀v,(x,v)∉binds)->fU kindOf binds m x=m x
 |[],_,_=>rfl
 |(n,v)::r,m,h=>by
  unfold fU
  rw[z4E λw hw=>h w (b7 _ hw)]
  split
  .rfl
  .have:x≠n:=by rintro rfl;exact h v c9
   simp[this]
theorem z4F{kindOf:Str->Option bZ}{x:Str}{v:bb}: ∀{P:List Str} {vs:List bb} {i:Nat} {m:Str->Option bb},P.Nodup->P[i]? =some x->vs[i]? =some v->kindOf x=some .local->
 fT kindOf (P.zip vs) m x=some v
 |[],_,_,_,_,h,_,_=>by simp at h
 |_::_,[],_,_,_,_,h,_=>by simp at h
 |p::P,w::vs,0,m,nd,h1,h2,hk=>by
  simp at h1 h2;subst h1;subst h2
  show fT kindOf ((p,w)::P.zip vs) m p=_
  unfold fT
  rw[z4D λv hv=>(N0.mp nd).1 (P9 hv).1,qy hk]
  simp
 |p::P,w::vs,i+1,m,nd,h1,h2,hk=>by
  show fT kindOf ((p,w)::P.zip vs) m x=_
  unfold fT
  exact z4F (i:=i) (N0.mp nd).2 (by simpa using h1) (by simpa using h2) hk
theorem z4G{kindOf:Str->Option bZ}{x:Str}{v:bb}: ∀{P:List Str} {vs:List bb} {i:Nat} {m:Str->Option bb},P.Nodup->P[i]? =some x->vs[i]? =some v->kindOf x≠some .local->
 fU kindOf (P.zip vs) m x=some v
 |[],_,_,_,_,h,_,_=>by simp at h
 |_::_,[],_,_,_,_,h,_=>by simp at h
 |p::P,w::vs,0,m,nd,h1,h2,hk=>by
  simp at h1 h2;subst h1;subst h2
  show fU kindOf ((p,w)::P.zip vs) m p=_
  unfold fU
  rw[z4E λv hv=>(N0.mp nd).1 (P9 hv).1,qh hk]
  simp
 |p::P,w::vs,i+1,m,nd,h1,h2,hk=>by
  show fU kindOf ((p,w)::P.zip vs) m x=_
  unfold fU
  exact z4G (i:=i) (N0.mp nd).2 (by simpa using h1) (by simpa using h2) hk
noncomputable def z4H(N:List Str)(vs:List V):St:=vs.map some++m7 (N.length -vs.length) none
noncomputable def zbr(CX:CXT)(P:bp)(w:br)(K:W.Frag)(mg:Str->Option bb)(base:Heap)(N:List Str)(qual:Str)(scope:Scope)(f:Addr)(cd:bb)(A:bu)(outer:List dw)(s:be)(H:Hp)(E:XK):Cx where
 prog:=P
 w:=w
 K:=K
 mg:=mg
 base:=base
 A:=A.deeper (envOfC qual scope s.heap.objs.size f cd)
 N:=N
 s₀:=s
 H₀:=H
 env:=envOfC qual scope s.heap.objs.size f cd
 outer:=outer
 stack:=envOfC qual scope s.heap.objs.size f cd::outer
 ex:=[]
 calm:=true
 fn:=λ_=>true
 pn:=[]
 xe:=λe s'=>bm (bo P w) (A.deeper (envOfC qual scope s.heap.objs.size f cd)) (leaving (envOfC qual scope s.heap.objs.size f cd) e) (λ_ s''=>CX outer H s E e s'') (λe' s''=>CX outer H s E e' s'') s'
def z6q{sc:Scope}{n:Nat}(h:sc.names.lookup x=some .cell): ∃c,(bx n sc.names []).lookup x=some c:=by
 have q:=W.cellsFrom_some sc.names n [] (.inl h)
 exact O9.mp q
def z7S{CX:CXT}{P:bp}{w:br}{K:W.Frag}{mg:Str->Option bb}{base:Heap}{N ps:List Str}{qual:Str}{scope:Scope}{f:Addr}{cd:bb}{A:bu}{outer:List dw}{s s1:be}{H:Hp}{E:XK}{us:List bb}{vs:List V}
 (S:Q3 N ps scope) (hd:A.handled=none) (e0:ziq P w K mg base A outer s H) (hl:vs.length=ps.length) (r:g7 vs us)
 (x:InCallC s s.heap.objs.size (fT (envOfC qual scope s.heap.objs.size f cd).kindOf (ps.zip us) λ_=>none) (bx (s.heap.objs.size+1) scope.names []) (fU (envOfC qual scope s.heap.objs.size f cd).kindOf (ps.zip us) λ_=>none) s1):
 Inv (zbr CX P w K mg base N qual scope f cd A outer s H E) [] (z4H N vs) H s1:=by
 have hpl:ps.length<=N.length:=by have:=congrArg O6 S.pre;rw[A3] at this;lia
 obtain⟨h1,tk,rfl,hk⟩:=x.done
 have noA: ∀b:Addr,b∉(zbr CX P w K mg base N qual scope f cd A outer s H E).ex:=λb z=>absurd (show b∈([]:List Addr) from z) (by simp)
 refine⟨⟨e0.mod,S.kind,rfl,rfl,b9 _,λy z c h1 h2=> ?_,λy hy=> ?_,λy c _ h=> ?_,λ_=>hd,Around.frames_deeper e0.frames, .inr ⟨rfl,rfl⟩,λb z=>absurd z (noA b),e0.bs,e0.bsz,λb _ _=>noA b,λb z=>absurd z (noA b),e0.funs,e0.frf⟩,
  rfl,e0.bare,Un.kept hk,⟨_,x.toInCall.ns,λi y v h1 h2 h3=> ?_⟩,λy c h=>⟨_,x.cell y c h⟩,e0.hok.fresh (b9 _),λy c h=> ?_,λp hp=>absurd (show p∈([]:List (Addr×bJ)) from hp) (by simp),e0.hok.kept hk, ?_⟩
 .exact name_of_addr x.apart (PySem.mem_of_lookup h1) (PySem.mem_of_lookup h2)
 .have hy:scope.names.lookup y=some .cell\/scope.names.lookup y=some .free:=hy
  rcases hy with hy|hy
  .exact z6q hy
  .exact absurd rfl (S.nofree _ (PySem.mem_of_lookup hy))
 .exact S4 (x.above y c (PySem.mem_of_lookup h))
 .have hi:i<vs.length:=by
   unfold z4H at h2
   by_cases hi:i<vs.length
   .exact hi
   .rw[List.getElem?_append_right (by simpa using hi)] at h2
    rw[List.getElem?_replicate] at h2
    split at h2<;>cases h2
  have ha:vs[i]? =some v:=by
   unfold z4H at h2
   rw[List.getElem?_append_left (by simpa using hi),List.getElem?_map] at h2
   cases e:vs[i]? with
   |none=>rw[e] at h2;cases h2
   |some a=>rw[e] at h2;cases h2;rfl
  obtain⟨u,hu,rv⟩:=r.get ha
  have hp:ps[i]? =some y:=by
   rw[<-S.pre,List.getElem?_take_of_lt (by lia)];exact h1
  have ndP:ps.Nodup:=by rw[<-S.pre];exact S.nd.sublist (List.take_sublist _ _)
  refine⟨u,rv, ?_⟩
  rcases S.par y (List.mem_of_getElem? hp) with k|k
  .exact .inl ⟨k,z4F ndP hp hu k⟩
  .obtain⟨c,e⟩:=z6q (n:=s.heap.objs.size+1) k
   refine .inr ⟨.inl k,c,e, ?_⟩
   have q:=x.cell y c e
   rw[z4G ndP hp hu (by show scope.names.lookup y≠_;rw[k];decide)] at q
   exact q
 .exact e0.hok.fresh (S4 (x.above y c (PySem.mem_of_lookup h)))
 .unfold z4H
  show _=N.length
  rw[n8,i5,R1]
  lia
def ziZ{CX:CXT}{P:bp}{w:br}{K:W.Frag}{mg:Str->Option bb}{base:Heap}{k:Nat}{f:Addr}{name qual:Str}{params:Arguments}{body:List Stmt}{scope:Scope}{dV kV doc pm cdv ct oc:bb}{an od:Option Addr}
 {osl:Array (Option bb)} {N ps:List Str} {sp:Sp} (lk:K.lookup f=some ⟨oc,od, .func (W.fnOf name qual params body scope dV kV doc pm an cdv ct),osl⟩) (hcd:W.codeIn K cdv qual=true) (S:Q3 N ps scope)
 (len: ∀vs H Q E,sp vs H Q E->vs.length=ps.length)
 (hbody: ∀A outer s H vs Q (E:XK),z3p k (A.deeper (envOfC qual scope s.heap.objs.size f cdv))->sp vs H Q E->
  ∃t,PSs (zbr CX P w K mg base N qual scope f cdv A outer s H E) body t/\t {nx:=λ_ H'=>Q .non H',rt:=Q} (z4H N vs) H):
 z0L P w K mg base CX (k+1) f (W.fnOf name qual params body scope dV kV doc pm an cdv ct) ps sp:=by
 refine⟨len,λA outer s H args us vs Q E hr e0 hb r hsp=> ?_⟩
 have hl:=len _ _ _ _ hsp
 have KX:K.In s.heap:=e0.mod.kin.keeps λb o e=>(e0.bs b o e).1
 have lim:s.heap.NoLimit:=e0.mod.nolimit.keeps λb o e=>(e0.bs b o e).1
 have hkind: ∀y∈ps.zip us,scope.names.lookup y.1=some .local\/(scope.names.lookup y.1=some .cell/\((bx (s.heap.objs.size+1) scope.names []).lookup y.1).isSome=true):=λ⟨n,v⟩ hy=>by
  rcases S.par n (P9 hy).1 with q|q
  .exact .inl q
  .exact .inr ⟨q,W.cellsFrom_some _ _ _ (.inl q)⟩
 refine codeAny_call_function hr.depth (KX _ _ lk) rfl S.co S.gen rfl (W.codeRec_of KX hcd) (hb _ _ _ _ ?_)
 refine wpAny_newFunctionEnv_cells S.kind hkind λenv he s1 x=> ?_
 subst he
 refine⟨lim.keeps x.toInCall.keep,codeAny_func ?_⟩
 obtain⟨t,ht,hq⟩:=hbody A outer s H vs Q E (hr.deeper _) hsp
 have I:Inv (zbr CX P w K mg base N qual scope f cdv A outer s H E) [] (z4H N vs) H s1:=z7S S hr.hd e0 hl r x
 refine bz (ht [] s1 (z4H N vs) H _ I hq) (λfl s' hs=> ?_) λe s' hs=>hs
 have fin: ∀{σ':St} {H':Hp} {v:V} {u:bb},Inv (zbr CX P w K mg base N qual scope f cdv A outer s H E) [] σ' H' s'->RelV v u->Q v H'->CE outer P w H s Q u s':=
  λ{σ' H' v u} J rv q=>⟨v,H',J.os,J.bare,J.base,J.hok,rv,q⟩
 cases fl with
 |ret u=>
  obtain⟨v,σ',H',J,rv,q⟩:=hs
  exact fin J rv q
 |next=>
  obtain⟨σ',H',J,q⟩:=hs
  exact fin (v:=V.non) (u:=Value.none) J rfl q
 |brk=>
  obtain⟨_,_,_,q⟩:=hs
  exact False.elim q
 |cont=>
  obtain⟨_,_,_,q⟩:=hs
  exact False.elim q
section
variable{X:Cx}{x:Str}{p pos:bN}{e:bn}{es:List bn}{t:TA}{id T:String}{r:List V->Hp->VK->Prop}
def tCB(r:List V->Hp->VK->Prop)(t:TA):TE:=λ σ H Q=>t σ H λvs H1=>r vs H1 Q
def zab(hc:CallR X (.builtin id) r)(hg:Gl X x)(hm:X.mg x=none)(hv:bT x=some (.builtin id))(ha:PA X (e::es) t)(hn:x≠ "__name__" :=by decide)(hdb:(x==("__debug__" :Str))=false:=by decide)
 (he:bi (e::es) X.env=(false,bA e X.env)::bi es X.env:=by rfl) (hpl:(bM pos (bi es X.env)).any (·.1)=false:=by rfl):PE X (.Call (.Name x p) (e::es) [] pos) (tCB r t):=by
 intro qz s σ H Q I h
 refine cJ (z1l I hg hm hv ?_ hn hdb)
 exact PyProof.Rows.callWith_builtin1 (thn (ha pos qz s σ H _ I h) λus s1 ⟨vs,H1,I1,r1,q1⟩=>hc qz s1 σ H1 vs us Q I1 r1 q1) he hpl
def z7T(hc:CallR X (.type T) r)(hg:Gl X x)(hm:X.mg x=none)(hv:bT x=some (.type T))(ha:PA X (e::es) t)(hn:x≠ "__name__" :=by decide)(hdb:(x==("__debug__" :Str))=false:=by decide)
 (he:bi (e::es) X.env=(false,bA e X.env)::bi es X.env:=by rfl) (hpl:(bM pos (bi es X.env)).any (·.1)=false:=by rfl):PE X (.Call (.Name x p) (e::es) [] pos) (tCB r t):=by
 intro qz s σ H Q I h
 refine cJ (z1l I hg hm hv ?_ hn hdb)
 exact PyProof.Rows.callWith_type1 (thn (ha pos qz s σ H _ I h) λus s1 ⟨vs,H1,I1,r1,q1⟩=>hc qz s1 σ H1 vs us Q I1 r1 q1) he hpl
end
end L2
namespace HT
open PySem PyProof.Rows
section
open PySem.SeqAt
open PySem.AutoSeq1 (wpAny_loadPart')
open PySem.MeetsSeq PySem.MeetsSeq2 PySem.MeetsSeq3
end
section
variable{prog:bp}{w:br}{A:bu}{E:bb->be->Prop}{s:be}
def cat_tup{vs ws:List bb}{Q:bb->be->Prop}(ht:gl s.heap t vs.toArray)(hb:gl s.heap b ws.toArray)(hv:vs≠[])
 (h1:ws=[]->Q (.ref t) s) (h2:ws≠[]->Q (.ref s.heap.objs.size) {s with heap:=s.heap.push {cls:= .type "tuple",data:= .seq (vs++ws).toArray}})
 (hsz:vs.length+ws.length<=qg):bm (bo prog w) A (cg .Add (.ref t) (.ref b)) Q E s:=by
 obtain⟨⟨cls,dd,data,sl⟩,ho,hc,n,hd⟩:=id ht
 obtain⟨⟨cls2,dd2,data2,sl2⟩,ho2,hc2,n2,hd2⟩:=id hb
 simp only at hc hd hc2 hd2
 subst hc hd hc2 hd2
 have e:vs.toArray++ws.toArray=(vs++ws).toArray:=by simp
 by_cases hw:ws=[]
 .exact dW ⟨_,ho,rfl⟩ ⟨_,ho2,rfl⟩ cQ dG PySem.F.slot_tuple_add PySem.F.entry_tuple_add (PySem.F.args_tuple_add_2 _ _)
   (tuple_addW1 t b vs.toArray ws.toArray n n2 dd dd2 sl sl2 (by simpa using hv) (by simp[hw])) ⟨ho,ho2,h1 hw⟩
 .refine dW ⟨_,ho,rfl⟩ ⟨_,ho2,rfl⟩ cQ dG PySem.F.slot_tuple_add PySem.F.entry_tuple_add (PySem.F.args_tuple_add_2 _ _)
   (tuple_addW2 t b vs.toArray ws.toArray n n2 dd dd2 sl sl2 (by simpa using hv) (by simpa using hw) (by rw[i8,i8];exact hsz)) ⟨ho,ho2, ?_⟩
  rw[e]
  exact h2 hw
def sIx(n d:Nat):Option Int->Nat
 |none=>d
 |some v=>if v<0 then(v+(n:Int)).toNat else min v.toNat n
def sIx_none n d:sIx n d none=d:=rfl
def sIx_nat(n d k:Nat):sIx n d (some (k:Int))=min k n:=by
 show(if(k:Int)<0 then((k:Int)+(n:Int)).toNat else min (k:Int).toNat n)=min k n
 rw[qh (by lia),t9]
def zfl n d(hd:d<=n) o:sIx n d o<=n:=by
 cases o with
 |none=>exact hd
 |some v=>
  show(if v<0 then(v+(n:Int)).toNat else min v.toNat n)<=n
  by_cases hv:v<0
  .rw[qy hv];lia
  .rw[qh hv];exact Nat.min_le_right _ _
def z7U(v:Int)(n d:Nat):(if v<0 then max (v+(n:Int)) 0 else min v (n:Int))=((sIx n d (some v):Nat):Int):=by
 show(if v<0 then max (v+(n:Int)) 0 else min v (n:Int))=(((if v<0 then(v+(n:Int)).toNat else min v.toNat n):Nat):Int)
 by_cases hv:v<0
 .erw[qy hv];lia
 .erw[qh hv];lia
def z70(lo hi:Option Int)(n:Nat):Builtin.Slice.sliceAdjust lo hi 1 (n:Int)=(((sIx n 0 lo:Nat):Int),((sIx n n hi:Nat):Int)):=by
 have h1: ¬((1:Int)<0):=by lia
 delta Builtin.Slice.sliceAdjust
 erw[h1,if_false]
 refine Prod.ext ?_ ?_
 .cases lo with
  |none=>rfl
  |some v=>exact z7U v n 0
 .cases hi with
  |none=>rfl
  |some v=>exact z7U v n n
def z71(i j:Nat):Builtin.Slice.slicePlaces (i:Int) (j:Int) 1=j -i:=by
 delta Builtin.Slice.slicePlaces
 have h1:(1:Int)>0:=by lia
 erw[h1,if_true,Int.ediv_one]
 split<;>lia
def z3t{Q:Option Int->be->Prop}(p:cU v o)(h:Q o s):bm (bo prog w) A (Builtin.Slice.slicePartIndex v) Q E s:=by
 cases p with
 |none=>exact slicePart_none h
 |int i t=>exact slicePart_int h
def z0F{sl:Addr}{vl vu:bb}{lo hi:Option Int}{n:Nat}{Q:Int×Int×Nat->be->Prop}(hs:s.heap.IsSliceOf sl vl vu .none)(pl:cU vl lo)(pu:cU vu hi)
 (h:Q (((sIx n 0 lo:Nat):Int),1,sIx n n hi -sIx n 0 lo) s):bm (bo prog w) A (Builtin.Slice.sliceApplied (.ref sl) (pure (n:Int))) Q E s:=by
 obtain⟨os,hos,hcs,hds⟩:=id hs
 delta Builtin.Slice.sliceApplied Builtin.Slice.sliceFields
 refine ba (ba (cw hos hds (x:=vl) rfl (ba (cw hos hds (x:=vu) rfl (ba (cw hos hds (x:= .none) rfl (bf ?_)))))))
 refine ba (slicePart_none ?_)
 show bm _ _ (if((1:Int)==0)=true then _ else _) _ _ s
 rw[qh (by decide)]
 refine ba (z3t pl (ba (z3t pu (ba (bf ?_)))))
 show bm _ _ (match Builtin.Slice.sliceAdjust lo hi 1 (n:Int) with|(lo,hi)=>pure (lo,(1:Int),Builtin.Slice.slicePlaces lo hi 1)) _ _ s
 rw[z70 lo hi n]
 show bm _ _ (pure (((sIx n 0 lo:Nat):Int),(1:Int),Builtin.Slice.slicePlaces ((sIx n 0 lo:Nat):Int) ((sIx n n hi:Nat):Int) 1)) _ _ s
 rw[z71]
 exact bf h
def zac(xs:Array bb)(i k:Nat):((B3 k).filterMap λ(m:Nat)=>xs[((i:Int)+(m:Int)*1).toNat]?).toArray=((xs.toList.drop i).take k).toArray:=by
 have e:(λ(m:Nat)=>xs[((i:Int)+(m:Int)*1).toNat]?)=λm=>xs[i+m]? :=by
  funext m
  have:((i:Int)+(m:Int)*1).toNat=i+m:=by lia
  rw[this]
 rw[e]
 have:=pick_run xs i k
 rw[List.filterMap_map] at this
 have e2:((λx=>xs[x]?)∘λx=>i+x)=λm=>xs[i+m]? :=rfl
 rw[e2] at this
 rw[this]
def getItem_tuple_cut{t sl:Addr}{items:Array bb}{vl vu:bb}{lo hi:Option Int}{Q:bb->be->Prop}(ht:gl s.heap t items)(hs:s.heap.IsSliceOf sl vl vu .none)(pl:cU vl lo)(pu:cU vu hi)
 (hw: ¬(sIx items.size 0 lo=0/\sIx items.size items.size hi=items.size))
 (h:Q (.ref s.heap.objs.size) {s with heap:=s.heap.push {cls:= .type "tuple",data:= .seq ((items.toList.drop (sIx items.size 0 lo)).take (sIx items.size items.size hi -sIx items.size 0 lo)).toArray}})
 (hsz:items.size<=qg):bm (bo prog w) A (cG (.ref t) (.ref sl)) Q E s:=by
 have htake:sizeOk (.seq ((items.toList.drop (sIx items.size 0 lo)).take (sIx items.size items.size hi -sIx items.size 0 lo)).toArray):=by
  show((items.toList.drop (sIx items.size 0 lo)).take (sIx items.size items.size hi -sIx items.size 0 lo)).toArray.size<=qg
  rw[i8,A3,T3,Array.length_toList]
  lia
 have hj:sIx items.size items.size hi<=items.size:=zfl _ _ (b9 _) hi
 obtain⟨os,hos,hcs,hds⟩:=id hs
 have hTs:s.TypeIs (.ref sl) "slice" :=⟨os,hos,hcs⟩
 delta cG
 try with_reducible refine bw ?_
 first|refine ba (bf ?_)|skip
 refine ba (dX ht.typeIs (by decide) ?_)
 refine ba (wpAny_callSpecial?_slot (name:=Str.ofString "__getitem__") ht.typeIs PyProof.Rows.slot_tuple_getitem
  (bD PyProof.Rows.slot_tuple_getitem ht.typeIs dE ?_ (dN _ _)))
 show bm _ _ (Builtin.Tuple.tupleItemsOf (.ref t)>>=_) _ _ s
 refine ba (tupleItemsOf_ ht ?_)
 refine ba (dY hTs ?_)
 rw[qy (by decide)]
 refine ba (z0F hs pl pu ?_)
 have hno: ¬((((sIx items.size 0 lo:Nat):Int)==0&&(1:Int)==1&&(sIx items.size items.size hi -sIx items.size 0 lo)==items.size)=true):=by
  intro q
  rw[l9,l9] at q
  have q1:((sIx items.size 0 lo:Nat):Int)=0:=eq_of_beq q.1.1
  have q2:sIx items.size items.size hi -sIx items.size 0 lo=items.size:=eq_of_beq q.2
  exact hw ⟨by lia,by lia⟩
 show bm _ _ (if(((sIx items.size 0 lo:Nat):Int)==0&&(1:Int)==1&&(sIx items.size items.size hi -sIx items.size 0 lo)==items.size)=true then _ else _) _ _ s
 rw[qh hno,zac]
 first
  |exact ba (m:=Builtin.Tuple.tupleExact _) (bt (bf ⟨_,rfl,bf h⟩) htake)
  |exact ba (m:=Builtin.Tuple.tupleExact _) (bt (ba (bf (bf ⟨_,rfl,bf h⟩))) htake)
  |exact ba (ba (m:=Builtin.Tuple.tupleExact _) (bt (bf (bf ⟨_,rfl,bf h⟩)) htake))
  |exact ba (ba (m:=Builtin.Tuple.tupleExact _) (bt (bf ⟨_,rfl,bf h⟩) htake))
end
end HT
namespace L2
open PySem PySem.Spec PyProof.Rows
abbrev TO:=St->Hp->(Option Int->Hp->Prop)->Prop
def PO(X:Cx)(e:Option bn)(t:TO):Prop:=
 ∀(qz:List (Addr×bJ)) (s:be) (σ:St) (H:Hp) (Q:Option Int->Hp->Prop),Inv X qz σ H s->t σ H Q->
  bm (bo X.prog X.w) X.A (evalPart e X.env) (λu s'=> ∃o H',Inv X qz σ H' s'/\cU u o/\Q o H') X.xe s
def zcI:TO:=λ_ H Q=>Q none H
def zj0(t:TE):TO:=λ σ H Q=>t σ H λx H1=> ∃i,x= .int i/\Q (some i) H1
section
variable{X:Cx}{e:bn}{te:TE}{lo hi:Option bn}{tl th:TO}{pos p2:bN}
def zcJ:PO X none zcI:=by
 intro qz s σ H Q I h
 rw[evalPart_none]
 exact bf ⟨none,H,I, .none,h⟩
def zcK(h:PE X e te):PO X (some e) (zj0 te):=by
 intro qz s σ H Q I hw
 rw[evalPart_some]
 refine thn (h qz s σ H _ I hw) ?_
 rintro u s1 ⟨x,H1,I1,r1,q1⟩
 obtain⟨i,rfl,q⟩:=q1
 obtain⟨t,rfl⟩:=r1
 exact⟨some i,H1,I1, .int i t,q⟩
def SlR(X:Cx)(r:V->Option Int->Option Int->Hp->VK->Prop):Prop:=
 ∀(qz:List (Addr×bJ)) (s:be) (σ:St) (H:Hp) (x:V) (v vl vu:bb) (lo hi:Option Int) (sl:Addr) (Q:VK),Inv X qz σ H s->RelV x v->s.heap.IsSliceOf sl vl vu .none->cU vl lo->cU vu hi->r x lo hi H Q->
  ∃T id,typeLookup (.type T) "__getitem__" =pure (some (.builtin id))/\s.TypeIs v T/\bm (bo X.prog X.w) X.A (cG v (.ref sl)) (EP X qz σ Q) X.xe s
def SlR.or{r r':V->Option Int->Option Int->Hp->VK->Prop}(h:SlR X r)(h':SlR X r'):SlR X (λx lo hi H Q=>r x lo hi H Q\/r' x lo hi H Q):=by
 intro qz s σ H x v vl vu lo hi sl Q I rx hs pl pu q
 rcases q with q|q
 .exact h qz s σ H x v vl vu lo hi sl Q I rx hs pl pu q
 .exact h' qz s σ H x v vl vu lo hi sl Q I rx hs pl pu q
def tSl(r:V->Option Int->Option Int->Hp->VK->Prop)(te:TE)(tl th:TO):TE:=λ σ H Q=>te σ H λx H1=>tl σ H1 λl H2=>th σ H2 λu H3=>r x l u H3 Q
def zad{r:V->Option Int->Option Int->Hp->VK->Prop}(hr:SlR X r)(he:PE X e te)(hl:PO X lo tl)(hu:PO X hi th):PE X (.Subscript e (.Slice lo hi none p2) pos) (tSl r te tl th):=by
 intro qz s σ H Q I h
 refine fV (thn (he qz s σ H _ I h) ?_)
 rintro v s1 ⟨x,H1,I1,r1,q1⟩
 refine wpAny_Slice (thn (hl qz s1 σ H1 _ I1 q1) λvl s2 ⟨l,H2,I2,pl,q2⟩=>thn (hu qz s2 σ H2 _ I2 q2) ?_)
 rintro vu s3 ⟨u,H3,I3,pu,q3⟩
 rw[evalPart_none]
 refine bf ?_
 have I4:Inv X qz σ H3 {s3 with heap:=s3.heap.push {cls:= .type "slice",data:= .fields #[vl,vu, .none]}}:=I3.kept (t':=s3.toks) λb ob q=>Heap.get?_push_of_some _ q
 obtain⟨T,id,hT,ht,hg⟩:=hr qz {s3 with heap:=s3.heap.push {cls:= .type "slice",data:= .fields #[vl,vu, .none]}} σ H3 x v vl vu l u s3.heap.objs.size Q I4 r1 (Heap.IsSliceOf.new ..) pl pu q3
 show bm (bo X.prog X.w) X.A (dH e (.Slice lo hi none p2) v (.ref s3.heap.objs.size)) (EP X qz σ Q) X.xe {s3 with heap:=s3.heap.push {cls:= .type "slice",data:= .fields #[vl,vu, .none]}}
 exact tail_any (ops:=[.ref s3.heap.objs.size,v]) ht hT hg (by with_unfolding_all rfl)
def z7V(xs:List V)(lo hi:Option Int):List V:=(xs.drop (HT.sIx xs.length 0 lo)).take (HT.sIx xs.length xs.length hi -HT.sIx xs.length 0 lo)
def z2B xs lo hi:(z7V xs lo hi).length<=xs.length:=by
 delta z7V
 rw[A3,T3]
 lia
def zl6(K:W.Frag):V->Option Int->Option Int->Hp->VK->Prop:=λx lo hi H Q=> ∃a xs,x= .ref a/\SqT K H a xs/\
 ¬(HT.sIx xs.length 0 lo=0/\HT.sIx xs.length xs.length hi=xs.length)/\∀p,H p=none->Q (.ref p) (upd H p (.tup (z7V xs lo hi)))
def zfm:SlR X (zl6 X.K):=by
 intro qz s σ H x v vl vu lo hi sl Q I rx hs pl pu h
 obtain⟨a,xs,rfl,hx,hw,q⟩:=h
 cases rx
 obtain⟨its,r,ht,hz⟩:=I.tuple hx
 have hlen:its.toArray.size=xs.length:=by rw[i8];exact r.length.symm
 refine⟨"tuple",_,PyProof.Rows.slot_tuple_getitem.lookup,ht.typeIs, ?_⟩
 refine HT.getItem_tuple_cut ht hs pl pu (by rw[hlen];exact hw) ?_ (by rw[hlen];exact hz)
 rw[hlen]
 refine⟨.ref s.heap.objs.size,_,I.laid (t':=s.toks) (o:= .tup (z7V xs lo hi)) (λb ob q=>Heap.get?_push_of_some _ q) (b9 _) ?_,rfl,q _ (I.hok.fresh (b9 _))⟩
 exact⟨C1 (z2B xs lo hi) hz,_,(r.drop (HT.sIx xs.length 0 lo)).take (HT.sIx xs.length xs.length hi -HT.sIx xs.length 0 lo),IsTup.new _ _⟩
def zj1(K:W.Frag):R2:=λx y H Q=> ∃a b xs ys,x= .ref a/\y= .ref b/\SqT K H a xs/\SqT K H b ys/\xs≠[]/\xs.length+ys.length<=qg/\
 (ys=[]->Q (.ref a) H)/\(ys≠[]->∀p,H p=none->Q (.ref p) (upd H p (.tup (xs++ys))))
def g7.nil_iff(r:g7 xs us):us=[]↔xs=[]:=by
 cases r with
 |nil=>simp
 |cons _ _=>simp
def zcL:OpR X (cg .Add) (zj1 X.K):=by
 intro qz s σ H x y v u Q I rx ry h
 obtain⟨a,b,xs,ys,rfl,rfl,ha,hb,hx,hz,q1,q2⟩:=h
 cases rx
 cases ry
 obtain⟨its,r1,p1,_⟩:=I.tuple ha
 obtain⟨its2,r2,p2,_⟩:=I.tuple hb
 refine HT.cat_tup p1 p2 (λz=>hx (r1.nil_iff.mp z)) (λz=>⟨.ref a,H,I,rfl,q1 (r2.nil_iff.mp z)⟩) (λz=> ?_) (by rw[<-r1.length,<-r2.length];exact hz)
 refine⟨.ref s.heap.objs.size,_,I.laid (t':=s.toks) (o:= .tup (xs++ys)) (λb ob q=>Heap.get?_push_of_some _ q) (b9 _) ?_,rfl,q2 (λw=>z (r2.nil_iff.mpr w)) _ (I.hok.fresh (b9 _))⟩
 exact⟨by rw[n8];exact hz,_,r1.append r2,IsTup.new _ _⟩
end
noncomputable def ixN(n:Nat)(i:Int):Option Nat:=if 0<=i then(if i<n then some i.toNat else none) else if -(n:Int)<=i then some (i+n).toNat else none
def atI{α:Type}(xs:List α)(i:Int):Option α:=(ixN xs.length i).bind λj=>xs[j]?
def z7W{n:Nat}{i:Int}{j:Nat}(h:ixN n i=some j):seqIndex? i n=some j/\j<n/\-(n:Int)<=i/\i<n:=by
 delta ixN at h
 by_cases h0:0<=i
 .rw[qy h0] at h
  by_cases h1:i<n
  .rw[qy h1] at h
   have e:i.toNat=j:=Option.some.inj h
   exact⟨by rw[dn h0 h1,e],by lia,by lia,h1⟩
  .rw[qh h1] at h;cases h
 .rw[qh h0] at h
  by_cases h1: -(n:Int)<=i
  .rw[qy h1] at h
   have e:(i+n).toNat=j:=Option.some.inj h
   exact⟨by rw[cW (by lia) h1,e],by lia,h1,by lia⟩
  .rw[qh h1] at h;cases h
def z5P{α:Type}{xs:List α}{i:Int}{v:α}(h:atI xs i=some v): ∃j,seqIndex? i xs.length=some j/\xs[j]? =some v/\j<xs.length/\-(xs.length:Int)<=i/\i<xs.length:=by
 delta atI at h
 cases e:ixN xs.length i with
 |none=>rw[e] at h;cases h
 |some j=>
  rw[e] at h
  obtain⟨h1,h2,h3,h4⟩:=z7W e
  exact⟨j,h1,h,h2,h3,h4⟩
def zcM{α:Type}{xs:List α}{j:Nat}{v:α}(h:xs[j]? =some v):atI xs (j:Int)=some v:=by
 have hj:j<xs.length:=(List.getElem?_eq_some_iff.mp h).1
 have e:ixN xs.length (j:Int)=some j:=by
  delta ixN
  rw[qy (by lia),qy (by lia)];simp
 delta atI;rw[e];exact h
def z2C(b:bn):Prop:= ∀o i,dq b false o i=operate [o,i] (cG o i)
def IxR(X:Cx)(r:R2):Prop:=
 ∀(value slice:bn) (qz:List (Addr×bJ)) (s:be) (σ:St) (H:Hp) (x y:V) (v u:bb) (Q:VK),Inv X qz σ H s->RelV x v->RelV y u->r x y H Q->
  dq slice false v u=operate [v,u] (cG v u)->bm (bo X.prog X.w) X.A (dH value slice v u) (EP X qz σ Q) X.xe s
def MtR(X:Cx)(id:String)(r:V->List V->Hp->VK->Prop):Prop:=
 ∀(qz:List (Addr×bJ)) (s:be) (σ:St) (H:Hp) (x:V) (xs:List V) (v:bb) (us:List bb) (Q:VK),Inv X qz σ H s->RelV x v->g7 xs us->r x xs H Q->
  bm (bo X.prog X.w) X.A (call (.builtin id) (v::us)) (EP X qz σ Q) X.xe s
section
variable{X:Cx}{a b:bn}{ta tb:TE}{pos:bN}
def IxR.or(h:IxR X r)(h':IxR X r'):IxR X (λx y H Q=>r x y H Q\/r' x y H Q):=by
 intro value slice qz s σ H x y v u Q I rx ry q hs
 rcases q with q|q
 .exact h value slice qz s σ H x y v u Q I rx ry q hs
 .exact h' value slice qz s σ H x y v u Q I rx ry q hs
def zj2(hr:IxR X r)(ha:PE X a ta)(hb:PE X b tb)(hs:z2C b):PE X (.Subscript a b pos) (tOp r ta tb):=by
 intro qz s σ H Q I h
 exact fV (ziS ha hb I h λv u s2 x y H2 I2 rx ry q=>hr a b qz s2 σ H2 x y v u Q I2 rx ry q (hs _ _))
def zj3(K:W.Frag):R2:=λx y H Q=> ∃p xs i v,x= .ref p/\y= .int i/\SqL K H p xs/\atI xs i=some v/\Q v H
def zkE(K:W.Frag):R2:=λx y H Q=> ∃p xs i v,x= .ref p/\y= .int i/\SqT K H p xs/\atI xs i=some v/\Q v H
def zcN:IxR X (zj3 X.K):=by
 intro value slice qz s σ H x y v u Q I rx ry h hs
 obtain⟨p,xs,i,z,rfl,rfl,hq,he,q⟩:=h
 cases rx
 obtain⟨t,rfl⟩:=ry
 obtain⟨its,r,pl,hz⟩:=I.list hq
 obtain⟨j,h1,h2,h3,h4,h5⟩:=z5P he
 obtain⟨w,ew,rw'⟩:=r.get h2
 have hl:=r.length
 have hn:=z4B
 have fin:EP X qz σ Q w s:=⟨z,H,I,rw',q⟩
 by_cases h0:0<=i
 .have hj:i.toNat=j:=by
   rw[dn h0 h5] at h1
   exact Option.some.inj h1
  exact item_listR pl.isList h0 (by lia) (by rw[hj];simpa using ew) fin hs
 .have hj:(i+(its.toArray.size:Int)).toNat=j:=by
   rw[cW (by lia) h4] at h1
   rw[i8,<-hl]
   exact Option.some.inj h1
  exact cX (x:=w) pl.isList.typeIs slot_list_getitem.lookup
   (cY (Q:=λr s'=>r=w/\EP X qz σ Q r s') pl.isList (by lia) (by rw[i8]<;>lia) (by lia) (by rw[hj];simpa using ew) ⟨rfl,fin⟩) hs
def zfn:IxR X (zkE X.K):=by
 intro value slice qz s σ H x y v u Q I rx ry h hs
 obtain⟨p,xs,i,z,rfl,rfl,hq,he,q⟩:=h
 cases rx
 obtain⟨t,rfl⟩:=ry
 obtain⟨its,r,pl,hz⟩:=I.tuple hq
 obtain⟨j,h1,h2,h3,h4,h5⟩:=z5P he
 obtain⟨w,ew,rw'⟩:=r.get h2
 have hl:=r.length
 have hn:=z4B
 have fin:EP X qz σ Q w s:=⟨z,H,I,rw',q⟩
 exact cX (x:=w) pl.typeIs slot_tuple_getitem.lookup
  (getItem_tuple (j:=j) (Q:=λr s'=>r=w/\EP X qz σ Q r s') pl (by lia) (by lia) (by rw[i8,<-hl];exact h1) (by simpa using ew) ⟨rfl,fin⟩) hs
def z72(its:List bb)(n j:Nat)(u:bb):Obj.mapSeq (·.setIfInBounds j u) {cls:= .type "list",data:= .seq its.toArray n}={cls:= .type "list",data:= .seq (its.set j u).toArray n}:=by
 simp[Obj.mapSeq]
def Inv.lst(I:Inv X qz σ H s)(h:H p=some (.lst xs)):
 ∃(its:List bb) (n:Nat),g7 xs its/\s.heap.get? p=some {cls:= .type "list",data:= .seq its.toArray n}/\xs.length<=qg:=by
 obtain⟨z,its,n,r,e⟩:=I.hok p _ h
 exact⟨its,n,r,e,z⟩
def Inv.lstUpd{xs ys:List V}{its its':List bb}{n n':Nat}{f:bJ->bJ}(I:Inv X qz σ H s)(h:H p=some (.lst xs))
 (ho:s.heap.get? p=some {cls:= .type "list",data:= .seq its.toArray n}) (hf:f {cls:= .type "list",data:= .seq its.toArray n}={cls:= .type "list",data:= .seq its'.toArray n'}) (r:g7 ys its') (hz:ys.length<=qg) t:
 Inv X qz σ (upd H p (.lst ys)) {s with heap:=s.heap.update p f,toks:=t}:=by
 have e:(s.heap.update p f).get? p=some {cls:= .type "list",data:= .seq its'.toArray n'}:=by
  rw[Heap.get?_update_self f ho (by rw[hf]<;>rfl),hf]
 refine I.write (x:=p) (e:=p) (by rw[h];trivial) (.inl rfl) (λb u hb q=>(Heap.get?_update_other _ _ (Ne.symm hb)).trans q) ⟨_,e⟩ ?_
 exact⟨hz,its',n',r,e⟩
def zcO:V->V->V->Hp->(Hp->Prop)->Prop:=λo i v H Q=> ∃p xs k j,o= .ref p/\i= .int k/\H p=some (.lst xs)/\ixN xs.length k=some j/\Q (upd H p (.lst (xs.set j v)))
def z2x:ziM X zcO:=by
 intro qz s σ H o i v ov iv u Q I ro ri rv h
 obtain⟨p,xs,k,j,rfl,rfl,hp,hj,q⟩:=h
 cases ro
 obtain⟨t,rfl⟩:=ri
 obtain⟨its,n,r,ho,hz⟩:=I.lst hp
 obtain⟨h1,h2,h3,h4⟩:=z7W hj
 have hl:=r.length
 have hn:=z4B
 have I':Inv X qz σ (upd H p (.lst (xs.set j v))) {s with heap:=s.heap.update p (Obj.mapSeq (·.setIfInBounds j u))}:=
  I.lstUpd hp ho (z72 its n j u) (r.set rv j) (by rw[List.length_set];exact hz) s.toks
 by_cases h0:0<=k
 .have hk:k.toNat=j:=by
   rw[dn h0 h4] at h1
   exact Option.some.inj h1
  exact W.ki_setAt ho h0 (by lia) (by rw[i8,<-hl];exact h4) (by rw[hk];exact⟨_,I',q⟩)
 .have hk:(k+(its.toArray.size:Int)).toNat=j:=by
   rw[cW (by lia) h3] at h1
   rw[i8,<-hl]
   exact Option.some.inj h1
  exact W.ki_setBack ho (by lia) (by rw[i8,<-hl];exact h3) (by lia) (by rw[hk];exact⟨_,I',q⟩)
def z4I lo hi n:(cx lo hi none n).1=((HT.sIx n 0 lo:Nat):Int)/\(cx lo hi none n).2.1=((HT.sIx n n hi:Nat):Int)/\(cx lo hi none n).2.2=1:=by
 refine⟨?_, ?_,rfl⟩
 .cases lo with
  |none=>simp[cx,HT.sIx]
  |some i=>
   erw[cx,HT.sIx,E4,show(1:Int)>0 by decide,if_true]
   by_cases h:i<0
   .erw[h,if_true]<;>lia
   .erw[h,if_false]<;>lia
 .cases hi with
  |none=>simp[cx,HT.sIx]
  |some i=>
   erw[cx,HT.sIx,E4,show(1:Int)>0 by decide,if_true]
   by_cases h:i<0
   .erw[h,if_true]<;>lia
   .erw[h,if_false]<;>lia
def z3W(its:List bb)(lo hi:Option Int):slicePick its.toArray lo hi none=((its.drop (HT.sIx its.length 0 lo)).take (HT.sIx its.length its.length hi -HT.sIx its.length 0 lo)).toArray:=by
 obtain⟨h1,h2,h3⟩:=z4I lo hi its.toArray.size
 delta slicePick
 rw[h1,h2,h3]
 erw[sliceRange_one,pick_run,i8]<;>rfl
def zj4(K:W.Frag):V->Option Int->Option Int->Hp->VK->Prop:=λx lo hi H Q=> ∃a xs,x= .ref a/\SqL K H a xs/\∀p,H p=none->Q (.ref p) (upd H p (.lst (z7V xs lo hi)))
def zcP:SlR X (zj4 X.K):=by
 intro qz s σ H x v vl vu lo hi sl Q I rx hs pl pu h
 obtain⟨a,xs,rfl,hx,q⟩:=h
 cases rx
 obtain⟨its,r,ht,hz⟩:=I.list hx
 have hlen:=r.length
 refine⟨"list",_,slot_list_getitem.lookup,ht.isList.typeIs, ?_⟩
 refine wpAny_getItem_list_slice ht.isList hs pl pu .none (by simp) ?_ (by rw[i8]<;>lia)
 rw[z3W,<-hlen]
 refine⟨.ref s.heap.objs.size,_,I.laid (t':=s.toks) (o:= .lst (z7V xs lo hi)) (λb ob q=>Heap.get?_push_of_some _ q) (b9 _) ?_,rfl,q _ (I.hok.fresh (b9 _))⟩
 exact⟨C1 (z2B xs lo hi) hz,_,0,(r.drop (HT.sIx xs.length 0 lo)).take (HT.sIx xs.length xs.length hi -HT.sIx xs.length 0 lo),Heap.get?_push_size _ rfl⟩
def z4J:CallR X (.builtin "len") (λxs H Q=> ∃p ys,xs=[.ref p]/\(SqL X.K H p ys\/SqT X.K H p ys)/\Q (.int ys.length) H):=by
 intro qz s σ H xs us Q I r h
 obtain⟨p,ys,rfl,hq,q⟩:=h
 obtain⟨u,rfl,rx⟩:=z3V r
 cases rx
 have hn:=z4B
 rcases hq with hq|hq
 .obtain⟨its,r',pl,hz⟩:=I.list hq
  have hlen:=r'.length
  exact Calls.call_len_list pl.isList (by erw[i8]<;>lia) ⟨.int ys.length,H,I.tok _,⟨s.toks+1,by rw[i8,hlen]⟩,q⟩
 .obtain⟨its,r',pl,hz⟩:=I.tuple hq
  have hlen:=r'.length
  exact len_tuple pl (by erw[i8]<;>lia) ⟨.int ys.length,H,I.tok _,⟨s.toks+1,by rw[i8,hlen]⟩,q⟩
def z4K:CallR X (.type "list") (λxs H Q=> ∃p ys,xs=[.ref p]/\(SqL X.K H p ys\/SqT X.K H p ys)/\∀l,H l=none->Q (.ref l) (upd H l (.lst ys))):=by
 intro qz s σ H xs us Q I r h
 obtain⟨p,ys,rfl,hq,q⟩:=h
 obtain⟨u,rfl,rx⟩:=z3V r
 cases rx
 have fin: ∀(its:List bb),g7 ys its->ys.length<=qg->∀(h':Heap) (c':Nat),(∀b o',s.heap.get? b=some o'->h'.get? b=some o')->
  h'.get? s.heap.objs.size=some {cls:= .type "list",dict:=none,data:= .seq its.toArray c',slots:= #[]}->EP X qz σ Q (.ref s.heap.objs.size) {s with heap:=h'}:=λits r' hz h' c' kp e=>
  ⟨.ref s.heap.objs.size,_,I.laid (t':=s.toks) kp (b9 _) (show K0 X.prog X.w _ h' _ (.lst ys) from⟨hz,its,c',r',e⟩),rfl,q _ (I.hok.fresh (b9 _))⟩
 rcases hq with hq|hq
 .obtain⟨its,r',pl,hz⟩:=I.list hq
  have hlen:=r'.length
  obtain⟨o,ho,hc,n,hd⟩:=pl.isList
  exact call_list_seq p (.inl rfl) ho hc hd (λh' c' kp e=>fin its r' hz h' c' kp e) (by erw[i8]<;>lia)
 .obtain⟨its,r',pl,hz⟩:=I.tuple hq
  have hlen:=r'.length
  obtain⟨o,ho,hc,n,hd⟩:=pl
  exact call_list_seq p (.inr rfl) ho hc hd (λh' c' kp e=>fin its r' hz h' c' kp e) (by erw[i8]<;>lia)
def z3X:CallR X (.type "tuple") (λxs H Q=> ∃p ys,xs=[.ref p]/\((SqL X.K H p ys/\∀l,H l=none->Q (.ref l) (upd H l (.tup ys)))\/(SqT X.K H p ys/\Q (.ref p) H))):=by
 intro qz s σ H xs us Q I r h
 obtain⟨p,ys,rfl,h⟩:=h
 obtain⟨u,rfl,rx⟩:=z3V r
 cases rx
 rcases h with⟨hq,q⟩|⟨hq,q⟩
 .obtain⟨its,r',pl,hz⟩:=I.list hq
  have hlen:=r'.length
  refine call_tuple_list pl.isList (λh' kp=> ?_) (by erw[i8]<;>lia)
  have I1:Inv X qz σ H {s with heap:=h'}:=I.kept (t':=s.toks) kp
  have I2:Inv X qz σ (upd H h'.objs.size (.tup ys)) {s with heap:=h'.push {cls:= .type "tuple",data:= .seq its.toArray}}:=
   I1.laid (t':=s.toks) (λb o e=>Heap.get?_push_of_some _ e) (b9 _) (show K0 X.prog X.w _ _ _ (.tup ys) from⟨hz,its,r',IsTup.new _ _⟩)
  exact⟨.ref h'.objs.size,_,I2,rfl,q _ (I1.hok.fresh (b9 _))⟩
 .obtain⟨its,r',pl,hz⟩:=I.tuple hq
  exact call_tuple_same pl ⟨.ref p,H,I,rfl,q⟩
def tyV(K:W.Frag)(T:String)(x:V)(H:Hp):Prop:=match x with
 | .str _=>T= "str"
 | .int _=>T= "int"
 | .ref p=>(T= "list" /\∃xs,SqL K H p xs)\/(T= "tuple" /\∃o,K.lookup p=some o/\o.cls= .type "tuple" /\o.dict=none)\/
  (T= "dict" /\((∃kvs,H p=some (.dK kvs))\/∃kvs,H p=some (.dT kvs)))\/(T= "set" /\∃S n,H p=some (.set S n))
 |_=>False
def zfo(I:Inv X qz σ H s)(r:RelV x v)(ty:tyV X.K T x H):
 s.TypeIs v T/\∀a,v= .ref a->∃ob,s.heap.get? a=some ob/\ob.dict=none:=by
 cases x with
 |str z=>
  obtain⟨t,rfl⟩:=r
  cases(show T= "str" from ty)
  exact⟨typeIs_str s z t,λ_ e=>nomatch e⟩
 |int i=>
  obtain⟨t,rfl⟩:=r
  cases(show T= "int" from ty)
  exact⟨typeIs_int s i t,λ_ e=>nomatch e⟩
 |ref p=>
  cases r
  rcases ty with⟨rfl,xs,hq⟩|⟨rfl,o,hk,hc,hd⟩|⟨rfl,hk⟩|⟨rfl,S,n,hk⟩
  .obtain⟨its,_,pl,_⟩:=I.list hq
   refine⟨pl.isList.typeIs,λa e=> ?_⟩
   cases e
   obtain⟨o,n,e,c,hd,_⟩:=pl
   exact⟨o,e,hd⟩
  .refine⟨⟨o,I.kIn p o hk,hc⟩,λa e=> ?_⟩
   cases e
   exact⟨o,I.kIn _ o hk,hd⟩
  .have z: ∃o,s.heap.get? p=some o/\o.ExactDict:=by
    rcases hk with⟨kvs,hk⟩|⟨kvs,hk⟩
    .obtain⟨_,_,_,_,o,_,_,e,ex,_⟩:=I.hok p _ hk
     exact⟨o,e,ex⟩
    .obtain⟨_,_,_,_,o,_,_,e,ex,_⟩:=I.hok p _ hk
     exact⟨o,e,ex⟩
   obtain⟨o,e,ex⟩:=z
   refine⟨⟨o,e,ex.1⟩,λa e2=> ?_⟩
   cases e2
   exact⟨o,e,ex.2.1⟩
  .obtain⟨o,_,_,_,e,ex,_⟩:=I.hok p _ hk
   refine⟨⟨o,e,ex.1⟩,λa e2=> ?_⟩
   cases e2
   exact⟨o,e,ex.2.1⟩
 |_=>exact False.elim ty
def tBM(K:W.Frag)(T:String)(r:V->List V->Hp->VK->Prop)(to:TE)(t:TA):TE:=λ σ H Q=>to σ H λx H1=>tyV K T x H1/\t σ H1 λxs H2=>r x xs H2 Q
variable{o e:bn}{es:List bn}{to:TE}{t:TA}{name:Str}{apos cpos:bN}{T id:String}{r:V->List V->Hp->VK->Prop}
def zj5(pa:PlainAttrs T)(slot:Slot T name id)(hty:typeOf (.builtin id)=pure (.type "method_descriptor"))(hm:MtR X id r)(ho:PE X o to)(ha:PA X (e::es) t)
 (hbase:cm o name X.env (bA o X.env)=bA o X.env:=by rfl)
 (hfew:((bM cpos (bi (e::es) X.env)).all (λx=> !x.1)&&(cR cpos (cy [] X.env)).all (λx=>x.1.isSome)
  &&decide ((e::es).length+([]:List cq).length+(if([]:List cq).isEmpty then 0 else 1)<30))=true:=by rfl)
 (hline:(apos.endLine==cpos.line)=true:=by rfl) (hs:bi (e::es) X.env=(false,bA e X.env)::bi es X.env:=by rfl) (hplain:(bM cpos (bi es X.env)).any (·.1)=false:=by rfl):
 PE X (.Call (.Attribute o name apos) (e::es) [] cpos) (tBM X.K T r to t):=by
 intro qz s σ H Q I h
 refine wpAny_Call_method_late hbase hfew hline rfl (thn (ho qz s σ H _ I h) ?_)
 rintro v s1 ⟨x,H1,I1,r1,ty,q1⟩
 obtain⟨h1,h2⟩:=zfo I1 r1 ty
 refine⟨T,id,pa,slot,hty,h1,h2, ?_⟩
 have hA:=ha cpos qz s1 σ H1 _ I1 q1
 rw[hs] at hA⊢
 refine Calls.callWith_builtin (by show(false||(bM cpos (bi es X.env)).any (·.1))=false;rw[hplain]<;>rfl) (Calls.evalArgs_plain ?_)
 exact thn hA λus s2 ⟨vs,H2,I2,r2,q2⟩=>hm qz s2 σ H2 x vs v us Q I2 r1 r2 q2
end
def MtM(X:Cx)(id:String)(r:V->List V->Hp->VK->Prop):Prop:=
 ∀(qz:List (Addr×bJ)) (s:be) (σ:St) (H:Hp) (x:V) (xs:List V) (v:bb) (us:List bb) (Q:VK),Inv X qz σ H s->RelV x v->g7 xs us->r x xs H Q->
  bm (bo X.prog X.w) X.A (call (.builtin id) (v::us)) (EP X qz σ Q) X.xe s
def g7.one: ∀{x:V} {us:List bb},g7 [x] us->∃u,us=[u]/\RelV x u
 |_,_, .cons r .nil=>⟨_,rfl,r⟩
section
variable{X:Cx}{qz:List (Addr×bJ)}{σ:St}{H:Hp}{s:be}{l b:Addr}{xs ys zs:List V}
def Inv.lset{its its':List bb}{n:Nat}{f:Array bb->Array bb}{t':Nat}(I:Inv X qz σ H s)(hH:H l=some (.lst xs))
 (e:s.heap.get? l=some {cls:= .type "list",data:= .seq its.toArray n}) (hf:f its.toArray=its'.toArray) (hv:g7 ys its') (hz:ys.length<=qg):
 Inv X qz σ (upd H l (.lst ys)) {s with heap:=s.heap.update l (Obj.mapSeq f),toks:=t'}:=by
 have q:=PySem.IsL.update e f
 rw[hf] at q
 refine I.write (x:=l) (e:=l) (by rw[hH];exact trivial) (.inl rfl) (λb' u hb hu=>(Heap.get?_update_other s.heap (Obj.mapSeq f) (Ne.symm hb)).trans hu) ⟨_,q⟩ ?_
 exact⟨hz,its',_,hv,q⟩
def Inv.lnew{t':Nat}(I:Inv X qz σ H s)(hv:g7 ys its)(hz:ys.length<=qg):
 Inv X qz σ (upd H s.heap.objs.size (.lst ys)) {s with heap:=s.heap.push {cls:= .type "list",data:= .seq its.toArray},toks:=t'}:=
 I.laid (λ_ _ q=>Heap.get?_push_of_some _ q) (b9 _) ⟨hz,its,0,hv,Heap.get?_push_size _ rfl⟩
def Inv.fresh(I:Inv X qz σ H s):H s.heap.objs.size=none:=I.hok.fresh (b9 _)
def Inv.lstM(I:Inv X qz σ H s)(hH:H l=some (.lst xs)):xs.length<=qg/\∃(its:List bb) (n:Nat),g7 xs its/\xs.length=its.length/\s.heap.get? l=some {cls:= .type "list",data:= .seq its.toArray n}:=by
 obtain⟨z,its,n,r,e⟩:=I.hok l _ hH
 exact⟨z,its,n,r,r.length,e⟩
def zae{n:Nat}(h:n<=qg):Builtin.List.listTooLong n=false:=by
 delta Builtin.List.listTooLong
 exact decide_eq_false (by lia)
def z7X:V->List V->Hp->VK->Prop:=λx vs H Q=> ∃l xs y,x= .ref l/\vs=[y]/\H l=some (.lst xs)/\xs.length<qg/\Q .non (upd H l (.lst (xs++[y])))
def z4L:MtM X "list.append" z7X:=by
 intro qz s σ H x vs v us Q I rx rv h
 obtain⟨l,xs,y,rfl,rfl,hH,hz,q⟩:=h
 cases rx
 obtain⟨u,rfl,ru⟩:=rv.one
 obtain⟨z,its,n,r,hl,e⟩:=I.lstM hH
 refine dO F.slot_list_append ⟨_,e,rfl⟩ F.entry_list_append (F.args_list_append_2 _ _) (PySem.list_append l its.toArray n u (by rw[i8];lia)) ⟨e, ?_⟩
 refine⟨.non,_,I.lset (its':=its++[u]) hH e (by simp) (r.append (.cons ru .nil)) ?_,rfl,q⟩
 rw[n8,R3]
 lia
def zj6:R2:=λx y H Q=> ∃l b xs zs,x= .ref l/\y= .ref b/\H l=some (.lst xs)/\H b=some (.lst zs)/\xs.length+zs.length<=qg/\∀p,H p=none->Q (.ref p) (upd H p (.lst (xs++zs)))
def zfp:OpR X (cg .Add) zj6:=by
 intro qz s σ H x y v u Q I rx ry h
 obtain⟨l,b,xs,zs,rfl,rfl,hH,hB,hz,q⟩:=h
 cases rx
 cases ry
 obtain⟨z,its,n,r,hl,e⟩:=I.lstM hH
 obtain⟨z2,its2,n2,r2,hl2,e2⟩:=I.lstM hB
 refine PySem.P.add_list e e2 ?_ (by rw[i8,i8];lia)
 have ea:its.toArray++its2.toArray=(its++its2).toArray:=by simp
 rw[ea]
 exact⟨.ref _,_,I.lnew (t':=s.toks) (r.append r2) (by rw[n8];lia),rfl,q _ I.fresh⟩
variable{prog:bp}{w:br}{A:bu}{E:bb->be->Prop}
set_option maxRecDepth 100000 in
end
section
variable{κ:Type}[DecidableEq κ]
noncomputable def valV(kvs:List (κ×V))(k:κ):Option V:=(kvs.find? λkv=>decide (kv.1=k)).map (·.2)
noncomputable def z0M(kvs:List (κ×V))(k:κ)(v:V):List (κ×V):=
 if(kvs.any λkv=>decide (kv.1=k))=true then kvs.map (λkv=>if kv.1=k then(kv.1,v) else kv) else kvs++[(k,v)]
def z1g{p:κ×V}(e:p.1=k):valV (p::r) k=some p.2:=by simp[valV,List.find?_cons,e]
def z03{p:κ×V}(e: ¬p.1=k):valV (p::r) k=valV r k:=by simp[valV,List.find?_cons,e]
theorem z6r(k:κ): ∀kvs:List (κ×V),(kvs.any λkv=>decide (kv.1=k))=(valV kvs k).isSome
 |[]=>rfl
 |p::r=>by
  rw[F7]
  by_cases e:p.1=k
  .erw[z1g e,decide_eq_true e,E5,O2]
  .rw[z03 e,decide_eq_false e,D7];exact z6r k r
def z0p(kvs:List (κ×V))(k:κ) v:(z0M kvs k v).length<=kvs.length+1:=by
 delta z0M
 split
 .rw[i5];lia
 .rw[n8,l8,C2];lia
def RelO.isSome_eq{o:Option V}{u:Option bb}(r:RelO o u):o.isSome=u.isSome:=by
 cases o with
 |none=>cases u with
  |none=>rfl
  |some _=>exact(show False from r).elim
 |some _=>cases u with
  |none=>exact(show False from r).elim
  |some _=>rfl
def KV.val(r:KV kvs vs)(k:κ):RelO (valV kvs k) (dB vs k):=by
 delta KV at r
 induction r with
 |nil=>exact True.intro
 | @cons p q ps qs h t ih=>
  obtain⟨h1,h2⟩:=h
  by_cases e:p.1=k
  .have e':q.1=k:=h1.symm.trans e
   have b:dB (q::qs) k=some q.2:=by simp[dB,List.find?_cons,e']
   rw[z1g e,b];exact h2
  .have e': ¬q.1=k:=λz=>e (h1.trans z)
   have b:dB (q::qs) k=dB qs k:=by simp[dB,List.find?_cons,e']
   rw[z03 e,b];exact ih
def KV.any{kvs:List (κ×V)}{vs:List (κ×bb)}(r:KV kvs vs)(k:κ):(kvs.any λkv=>decide (kv.1=k))=vs.any λkv=>decide (kv.1=k):=by
 delta KV at r
 induction r with
 |nil=>rfl
 |cons h t ih=>rw[F7,F7,ih,h.1]
def KV.repl(r:KV kvs vs)(k:κ)(ry:RelV y u):
 KV (kvs.map λkv=>if kv.1=k then(kv.1,y) else kv) (vs.map λkv=>if kv.1=k then(kv.1,u) else kv):=by
 delta KV at r⊢
 induction r with
 |nil=>exact .nil
 | @cons p q ps qs h t ih=>
  rw[b8,b8]
  refine .cons ?_ ih
  obtain⟨h1,h2⟩:=h
  by_cases e:p.1=k
  .rw[qy e,qy (h1.symm.trans e)];exact⟨h1,ry⟩
  .rw[qh e,qh (λz=>e (h1.trans z))];exact⟨h1,h2⟩
def KV.put(r:KV kvs vs)(k:κ)(ry:RelV y u):KV (z0M kvs k y) (stored vs k u):=by
 delta z0M stored
 rw[r.any k]
 by_cases e:(vs.any λkv=>decide (kv.1=k))=true
 .rw[qy e,qy e];exact r.repl k ry
 .rw[qh e,qh e];exact Paired.snoc r ⟨rfl,ry⟩
def KV.length{kvs:List (κ×V)}{vs:List (κ×bb)}(r:KV kvs vs):kvs.length=vs.length:=Paired.length r
end
def z5Q(r:RelV (kV k) u):(Y8 P w).is k u=true:=by
 cases k with
 |inl i=>obtain⟨t,e⟩:=(show ∃t,u=Value.int i t from r);subst e;exact z5J P w i t
 |inr x=>obtain⟨t,e⟩:=(show ∃t,u=Value.str x t from r);subst e;exact z5K P w x t
theorem z4M: ∀{ks:List Key} {us:List bb},g7 (ks.map kV) us->ItemsAre (Y8 P w) ks us
 |[],_,r=>by rw[l0] at r;cases r;exact .nil
 |k::ks,_,r=>by
  rw[b8] at r
  cases r with
  |cons h t=>exact .cons (z5Q h) (z4M t)
abbrev KT(H:Hp):List (NK×V)->List (NK×Addr×bb)->Prop:=bH λp q=>p.1=q.1/\TK H p.1 q.2.1/\RelV p.2 q.2.2
def KT.val(r:KT H kvs xs)(k:NK):RelO (valV kvs k) ((fE xs k).map (·.2)):=by
 induction r with
 |nil=>exact True.intro
 | @cons p q ps qs h t ih=>
  obtain⟨h1,_,h2⟩:=h
  by_cases e:p.1=k
  .have e':q.1=k:=h1.symm.trans e
   have b:fE (q::qs) k=some q.2:=by simp[fE,List.find?_cons,e']
   rw[z1g e,b];exact h2
  .have e': ¬q.1=k:=λz=>e (h1.trans z)
   have b:fE (q::qs) k=fE qs k:=by simp[fE,List.find?_cons,e']
   rw[z03 e,b];exact ih
def KT.repl(r:KT H kvs xs)(k:NK)(ry:RelV y u):
 KT H (kvs.map λkv=>if kv.1=k then(kv.1,y) else kv) (xs.map (putAt k u)):=by
 induction r with
 |nil=>exact .nil
 | @cons p q ps qs h t ih=>
  rw[b8,b8]
  refine .cons ?_ ih
  obtain⟨h1,h2,h3⟩:=h
  delta putAt
  by_cases e:p.1=k
  .rw[qy e,qy (h1.symm.trans e)];exact⟨h1,h2,ry⟩
  .rw[qh e,qh (λz=>e (h1.trans z))];exact⟨h1,h2,h3⟩
def KT.put(r:KT H kvs xs)(k:NK)(hb:TK H k b)(ry:RelV y u):
 KT H (z0M kvs k y) (storedH xs k b u):=by
 have e:(kvs.any λkv=>decide (kv.1=k))=(fE xs k).isSome:=by
  rw[z6r,(r.val k).isSome_eq,Option.isSome_map]
 delta z0M storedH
 rw[e]
 by_cases q:(fE xs k).isSome=true
 .rw[qy q,qy q];exact r.repl k ry
 .rw[qh q,qh q];exact Paired.snoc r ⟨rfl,hb,ry⟩
def KT.keeps(r:KT H kvs xs)(ht: ∀b ys,H b=some (.tup ys)->H' b=some (.tup ys)):KT H' kvs xs:=
 Paired.mapP r λ_ _ z=>⟨z.1,z.2.1.stay ht,z.2.2⟩
section
variable{P:bp}{w:br}{H:Hp}{h:Heap}{a:Addr}
def zfq(ok:HOk P w H h)(e:Rd H a u):K0 P w H h a u:=e.ok ok
def zaf{kvs:List (Key×V)}(ok:HOk P w H h)(e:Rd H a (.dK kvs)):kvs.length<=qg/\(a==bF)=false/\∃vs,KV kvs vs/\h.DictOf (Y8 P w) a vs:=
 show K0 P w H h a (.dK kvs) from zfq ok e
def zag{kvs:List (Key×V)}(ok:HOk P w H h)(e:H a=some (.dK kvs)):kvs.length<=qg/\(a==bF)=false/\∃vs,KV kvs vs/\h.DictOf (Y8 P w) a vs:=zaf ok (.inl e)
def zcQ{ks:List Key}(ok:HOk P w H h)(e:H a=some (.tup (ks.map kV))):dL (Y8 P w) h ks a:=by
 obtain⟨_,its,r,o,h1,h2,n,h3⟩:=(show K0 P w H h a (.tup (ks.map kV)) from ok a _ e)
 exact⟨o,its.toArray,n,h1,h2,h3,by simpa using z4M r⟩
theorem z5R(ok:HOk P w H h): ∀{k:NK} {xs:List V} {us:List bb},bH (TKi H) k xs->g7 xs us->bH (ItN P w h) k us
 |_,_,_, .nil, .nil=> .nil
 | .inl k::_,_,_, .cons a b, .cons c d=>by
  have e:=(show _=kV k from a)
  subst e
  exact .cons (z5Q c) (z5R ok b d)
 | .inr ks::_,_,_, .cons a b, .cons c d=>by
  obtain⟨x,rfl,hx⟩:=a
  cases c
  exact .cons ⟨x,rfl,zcQ ok hx⟩ (z5R ok b d)
def z7Y(ok:HOk P w H h)(e:TK H k a):(z1f P w).is h k a:=by
 obtain⟨xs,e,p⟩:=e
 obtain⟨_,its,r,o,h1,h2,n,h3⟩:=(show K0 P w H h a (.tup xs) from ok a _ e)
 exact⟨o,its.toArray,n,h1,h2,h3,by simpa using z5R ok p r⟩
def zah{kvs:List (NK×V)}(ok:HOk P w H h)(e:Rd H a (.dT kvs)):kvs.length<=qg/\(a==bF)=false/\
 ∃xs,KT H kvs xs/\h.DictOfH (z1f P w) a xs:=by
 obtain⟨z,y,xs,r,o,es,ep,h1,h2,h3,h4,h5⟩:=(show K0 P w H h a (.dT kvs) from zfq ok e)
 refine⟨z,y,xs,r,o,es,ep,h1,h2,h3,h4,λx hx=> ?_,h5⟩
 have all: ∀{l:List (NK×V)} {m:List (NK×Addr×bb)},KT H l m->∀x∈m,(z1f P w).is h x.1 x.2.1:=by
  intro l m q
  induction q with
  |nil=>intro x hx;exact nomatch hx
  | @cons p q ps qs hq t ih=>
   intro x hx
   rcases c8.mp hx with e|hx
   .subst e
    exact z7Y ok (by rw[<-hq.1];exact hq.2.1)
   .exact ih x hx
 exact all r x hx
def zj7{kvs:List (NK×V)}(ok:HOk P w H h)(e:H a=some (.dT kvs)):kvs.length<=qg/\(a==bF)=false/\
 ∃xs,KT H kvs xs/\h.DictOfH (z1f P w) a xs:=zah ok (.inl e)
end
def zj8(H:Hp)(a:Addr)(y:V)(r:Option V):Prop:=
 (∃kvs k,Rd H a (.dK kvs)/\y=kV k/\r=valV kvs k)\/∃kvs k b,Rd H a (.dT kvs)/\y= .ref b/\TK H k b/\r=valV kvs k
def zeH(H:Hp)(a:Addr)(y v:V)(H':Hp):Prop:=
 (∃kvs k,H a=some (.dK kvs)/\y=kV k/\kvs.length<qg/\H'=upd H a (.dK (z0M kvs k v)))\/
 ∃kvs k b,H a=some (.dT kvs)/\y= .ref b/\TK H k b/\kvs.length<qg/\H'=upd H a (.dT (z0M kvs k v))
def zeH.t{kvs:List (NK×V)}{v:V}(e:H a=some (.dT kvs))(eb:TK H k b)(hl:kvs.length<qg):
 zeH H a (.ref b) v (upd H a (.dT (z0M kvs k v))):= .inr ⟨kvs,k,b,e,rfl,eb,hl,rfl⟩
section
variable{X:Cx}{qz:List (Addr×bJ)}{σ:St}{H:Hp}{s:be}{a:Addr}{y v:V}{u r:bb}{o:Option V}{A:bu}{E:bb->be->Prop}
def Inv.big(I:Inv X qz σ H s):bF<s.heap.objs.size:=by
 have h:bq<s.heap.objs.size:=(I.mod.glob.keeps I.bk).lt
 exact u0b (by decide) h
def z7Z{Q:bb->be->Prop}(hu:A.units+2<cLine)(I:Inv X qz σ H s)(g:zj8 H a y (some v))(ry:RelV y u)(h: ∀w' s',Inv X qz σ H s'->RelV v w'->Q w' s'):
 bm (bo X.prog X.w) A (cG (.ref a) u) Q E s:=by
 rcases g with⟨kvs,k,e,ey,l⟩|⟨kvs,k,b,e,ey,eb,l⟩
 .subst ey
  obtain⟨z,hd,vs,rel,dd⟩:=zaf I.hok e
  obtain⟨w',hw,rw'⟩:=RelO.some_of (v:=v) (o:=dB vs k) (by rw[l];exact rel.val k)
  exact wpAny_getItem_of (z5Q ry) dd.mapOf hw (h w' _ (I.tok _) rw')
 .subst ey
  cases(show u=Value.ref b from ry)
  obtain⟨z,hd,xs,rel,dd⟩:=zah I.hok e
  obtain⟨w',hw,rw'⟩:=RelO.some_of (v:=v) (o:=(fE xs k).map (·.2)) (by rw[l];exact rel.val k)
  obtain⟨p,hp,hp2⟩:=Option.map_eq_some_iff.mp hw
  refine wpAny_getItem_heap (z4A hu) (z7Y I.hok eb) dd hp ?_
  rw[hp2]
  exact h w' _ (I.tok _) rw'
def z2D{h':Heap}{t':Nat}(I:Inv X qz σ H s)(mu:Mut (H a))(hs:Heap.SameBut a s.heap h')(he: ∃q,h'.get? a=some q)(new:K0 X.prog X.w (upd H a ob) h' a ob):
 Inv X qz σ (upd H a ob) {s with heap:=h',toks:=t'}:=
 I.write (x:=a) (e:=a) mu (.inl rfl) (λb q hb z=>(hs.2 b hb).trans z) he new
def z6s{H':Hp}{h':Heap}{kvs:List (Key×V)}(z:kvs.length<=qg)(hd:(a==bF)=false)(rel:KV kvs vs)(dd:h'.DictOf (Y8 P w) a vs):
 K0 P w H' h' a (.dK kvs):=⟨z,hd,vs,rel,dd⟩
def z80{H':Hp}{Q:Unit->be->Prop}(hu:A.units+2<cLine)(I:Inv X qz σ H s)(g:zeH H a y v H')(ry:RelV y u)(rv:RelV v r)(h: ∀s',Inv X qz σ H' s'->Q () s'):
 bm (bo X.prog X.w) A (fG (.ref a) u r) Q E s:=by
 rcases g with⟨kvs,k,e,ey,l,eH⟩|⟨kvs,k,b,e,ey,eb,l,eH⟩
 .subst ey eH
  obtain⟨z,hd,vs,rel,dd⟩:=zag I.hok e
  have hz:vs.length<=qg:=by rw[<-rel.length];exact z
  have hl:(z0M kvs k v).length<=qg:=by have:=z0p kvs k v;lia
  refine wpAny_setItem_pairs (hsz:=hz) (z5Q ry) dd λh' dd' hs=>h _ ?_
  have he: ∃q,h'.get? a=some q:=let⟨q,_,_,hq,_⟩:=dd';⟨q,hq⟩
  exact z2D I (by rw[e];exact True.intro) hs he (z6s hl hd (rel.put k rv) dd')
 .subst ey eH
  cases(show u=Value.ref b from ry)
  obtain⟨z,hd,xs,rel,dd⟩:=zj7 I.hok e
  have hz:xs.length<=qg:=by rw[<-Paired.length rel];exact z
  have hl:(z0M kvs k v).length<=qg:=by have:=z0p kvs k v;lia
  refine wpAny_setItem_heap (hsz:=hz) (z4A hu) (z7Y I.hok eb) dd λh' dd' hs=>h _ ?_
  obtain⟨q,es,ep,hq,h2,h3,h4,_,h5⟩:=dd'
  refine z2D I (by rw[e];exact True.intro) hs ⟨q,hq⟩ ⟨hl,hd,_,(rel.put k eb rv).keeps λc ys ec=> ?_,q,es,ep,hq,h2,h3,h4,h5⟩
  rw[y3 (z0o ec e (λz=>nomatch z))]
  exact ec
end
def zkF(i:bn):Prop:= ∀ov iv,dq i false ov iv=operate [ov,iv] (cG ov iv)
def zcR{prog:bp}{w:br}{A:bu}{E:bb->be->Prop}{s:be}{env:dw}{value slice:bn}{pos:bN}{T id:String}{Q:bb->be->Prop}
 (hl:typeLookup (.type T) "__getitem__" =pure (some (.builtin id))) (hs:zkF slice)
 (h:bm (bo prog w) A (bA value env) (λo s₁=>bm (bo prog w) A (bA slice env) (λi s₂=>s₂.TypeIs o T/\bm (bo prog w) A (cG o i) Q E s₂) E s₁) E s):
 bm (bo prog w) A (bA (.Subscript value slice pos) env) Q E s:=by
 refine fV (bz h (λo s₁ h₁=>bz h₁ (λi s₂ h₂=> ?_) λ_ _ x=>x) λ_ _ x=>x)
 obtain⟨hT,h₂⟩:=h₂
 delta dH
 refine ba ?_
 rw[getitemInPython_of_ne hT.not_modules]
 refine ba (cf hT hl ?_)
 have fin:bm (bo prog w) A (dq slice false o i) (λr s₃=>bm (bo prog w) A (letTemporaryGo value o r>>=λ_=>pure r) Q E s₃) E s₂:=by
  rw[hs o i]
  exact wpAny_operating (bz h₂ (λr s₃ h₃=>ba (wpAny_letTemporaryGo (bf h₃))) λ_ _ x=>x)
 first
  |exact bf (ba fin)
  |exact ba (bf (ba fin))
  |exact ba fin
def z5S{s:be}(I:Inv X qz σ H s)(g:zj8 H a y o):s.TypeIs (.ref a) "dict" :=by
 rcases g with⟨kvs,k,e,_,_⟩|⟨kvs,k,b,e,_,_,_⟩
 .obtain⟨_,_,vs,_,dd⟩:=zaf I.hok e
  exact dd.typeIs
 .obtain⟨_,_,xs,_,dd⟩:=zah I.hok e
  exact dd.typeIs
def zfr(td ty:TE):TE:=λ σ H Q=>td σ H λx H1=>ty σ H1 λy H2=> ∃a v,x= .ref a/\zj8 H2 a y (some v)/\Q v H2
def zj9(td ty tv:TE):TS:=λD σ H=>tv σ H λv H1=>td σ H1 λx H2=>ty σ H2 λy H3=> ∃a H4,x= .ref a/\zeH H3 a y v H4/\D.nx σ H4
section
variable{X:Cx}{o i e value:bn}{pos pos' tpos:bN}{td ty tv:TE}
def zcS(hu:X.A.units+2<cLine)(ho:PE X o td)(hi:PE X i ty)(hs:zkF i):PE X (.Subscript o i pos) (zfr td ty):=by
 intro qz s σ H Q I h
 refine zcR PySem.F.slot_dict_getitem.lookup hs (thn (ho qz s σ H _ I h) λu s1 ⟨x,H1,I1,rx,q1⟩=>thn (hi qz s1 σ H1 _ I1 q1) ?_)
 rintro iv s2 ⟨y,H2,I2,ry,a,v,ex,g,q2⟩
 subst ex
 obtain rfl:u=Value.ref a:=rx
 exact⟨z5S I2 g,z7Z hu I2 g ry λw' s3 I3 rw'=>⟨v,H2,I3,rw',q2⟩⟩
def zcT(hu:X.A.units+2<cLine)(ho:PE X o td)(hi:PE X i ty)(hv:PE X value tv)(hs:cD value (some (.Subscript o i pos')) pos.line X.env=pure false):
 PS X (.Assign [.Subscript o i pos'] value pos) (zj9 td ty tv):=by
 intro qz s σ H D I h
 refine wpAny_Assign_Subscript (thn (hv qz s σ H _ I h) λr s1 ⟨v,H1,I1,rv,q1⟩=>thn (ho qz s1 σ H1 _ I1 q1) λu s2 ⟨x,H2,I2,rx,q2⟩=>thn (hi qz s2 σ H2 _ I2 q2) λiv s3 ⟨y,H3,I3,ry,a,H4,ex,g,q3⟩=> ?_) hs
 subst ex
 obtain rfl:u=Value.ref a:=rx
 exact z80 hu I3 g ry rv λs4 I4=>⟨σ,H4,I4,q3⟩
end
def z3Y(h:Heap)(hb:bF<h.objs.size):K0 P w H (h.push {cls:= .type "dict",data:= .dict #[]}) h.objs.size (.dK []):=
 ⟨B6 _,beq_eq_false_iff_ne.mpr (Ne.symm (m5 hb)),[], .nil,Heap.DictOf.new h⟩
def zai(h:Heap)(hb:bF<h.objs.size):K0 P w H (h.push {cls:= .type "dict",data:= .dict #[]}) h.objs.size (.dT []):=
 ⟨B6 _,beq_eq_false_iff_ne.mpr (Ne.symm (m5 hb)),[], .nil,_, #[],0,Heap.get?_push_size _ rfl,⟨rfl,rfl,rfl⟩,rfl,rfl,u05⟩
def zfs:TE:=λ_ H Q=> ∀p,H p=none->Q (.ref p) (upd H p (.dK []))
def zft:TE:=λ_ H Q=> ∀p,H p=none->Q (.ref p) (upd H p (.dT []))
section
variable{X:Cx}{pos:bN}
def zaj:PE X (.Dict [] [] pos) zfs:=λqz s σ H Q I h=>
 fu ⟨.ref s.heap.objs.size,_,I.laid (a:=s.heap.objs.size) (o:= .dK []) (t':=s.toks) (λ_ _ q=>Heap.get?_push_of_some _ q) (b9 _) (z3Y s.heap I.big),rfl,h _ (I.hok.fresh (b9 _))⟩
def zak:PE X (.Dict [] [] pos) zft:=λqz s σ H Q I h=>
 fu ⟨.ref s.heap.objs.size,_,I.laid (a:=s.heap.objs.size) (o:= .dT []) (t':=s.toks) (λ_ _ q=>Heap.get?_push_of_some _ q) (b9 _) (zai s.heap I.big),rfl,h _ (I.hok.fresh (b9 _))⟩
end
def z81:List (TE×TE)->St->Hp->(List (V×V)->Hp->Prop)->Prop
 |[],_,H,Q=>Q [] H
 |(tk,tv)::r,σ,H,Q=>tk σ H λx H1=>tv σ H1 λy H2=>z81 r σ H2 λps H3=>Q ((x,y)::ps) H3
abbrev VV:List (V×V)->List (bb×bb)->Prop:=bH λp q=>RelV p.1 q.1/\RelV p.2 q.2
def PPs(X:Cx)(pos:bN)(keys:List (Option bn))(values:List bn)(trs:List (TE×TE)):Prop:=
 ∀(qz:List (Addr×bJ)) (s:be) (σ:St) (H:Hp) (Q:List (V×V)->Hp->Prop),Inv X qz σ H s->z81 trs σ H Q->
  bm (bo X.prog X.w) X.A (evalPairs (pairTrees keys values X.env pos)) (λvs s'=> ∃ps H',Inv X qz σ H' s'/\VV ps vs/\Q ps H') X.xe s
def zcU:PPs X pos [] [] []:=λqz s σ H Q I h=>pairTrees_nil_walk ⟨[],H,I, .nil,h⟩
def zal(hk:PE X k tk)(hv:PE X v tv)(hr:PPs X pos ks vs trs):
 PPs X pos (some k::ks) (v::vs) ((tk,tv)::trs):=λqz s σ H Q I h=>
 pairTrees_cons_walk (thn (hk qz s σ H _ I h) λu s1 ⟨x,H1,I1,rx,q1⟩=>thn (hv qz s1 σ H1 _ I1 q1) λw2 s2 ⟨y,H2,I2,ry,q2⟩=>
  thn (hr qz s2 σ H2 _ I2 q2) λws s3 ⟨ps,H3,I3,rel,q3⟩=>⟨(x,y)::ps,H3,I3, .cons ⟨rx,ry⟩ rel,q3⟩)
def zbs(kvs more:List (Key×V)):List (Key×V):=more.foldl (λacc kv=>z0M acc kv.1 kv.2) kvs
def KV.merge: ∀{more:List (Key×V)} {rs:List (Key×bb)} {kvs:List (Key×V)} {vs:List (Key×bb)},KV more rs->KV kvs vs->KV (zbs kvs more) (merged vs rs):=by
 intro more rs kvs vs r
 delta KV at r
 induction r generalizing kvs vs with
 |nil=>intro q;exact q
 | @cons p q ps qs h t ih=>
  intro r0
  have e:KV (z0M kvs p.1 p.2) (stored vs q.1 q.2):=by
   have:=r0.put p.1 h.2
   rw[<-h.1];exact this
  exact ih e
theorem z3u: ∀{kvs:List (Key×V)} {ws:List (bb×bb)},VV (kvs.map λkv=>(kV kv.1,kv.2)) ws->∃rs,Carries (Y8 P w) ws rs/\KV kvs rs
 |[],_,r=>by rw[l0] at r;cases r;exact⟨[],True.intro, .nil⟩
 |p::kvs,_,r=>by
  rw[b8] at r
  cases r with
  | @cons a b as bs h t=>
   obtain⟨rs,c,q⟩:=z3u (P:=P) (w:=w) t
   obtain⟨b1,b2⟩:=b
   exact⟨(p.1,b2)::rs,⟨z5Q h.1,rfl,c⟩, .cons ⟨rfl,h.2⟩ q⟩
structure M2(X:Cx)(o:bn)(m:Str)(apos:bN)(e f:bn)(cpos:bN):Prop where
 base:cm o m X.env (bA o X.env)=bA o X.env
 few:((bM cpos (bi [e,f] X.env)).all (λx=> !x.1)&&(cR cpos (cy [] X.env)).all (λx=>x.1.isSome)
  &&decide (([e,f]:List bn).length+([]:List cq).length+(if([]:List cq).isEmpty then 0 else 1)<30))=true
 line:(apos.endLine==cpos.line)=true
 trees:bM cpos (bi [e,f] X.env)=[(false,bA e X.env),(false,bA f X.env)]
def IsD(H:Hp)(a:Addr):Prop:=(∃kvs,Rd H a (.dK kvs))\/∃kvs,Rd H a (.dT kvs)
def zbt(I:Inv X qz σ H s)(d:IsD H a):
 s.TypeIs (.ref a) "dict" /\(∀b,Value.ref a= .ref b->∃ob,s.heap.get? b=some ob/\ob.dict=none)/\(a==bF)=false:=by
 rcases d with⟨kvs,e⟩|⟨kvs,e⟩
 .obtain⟨_,hd,vs,_,dd⟩:=zaf I.hok e
  refine⟨dd.typeIs,λb q=> ?_,hd⟩
  cases q
  obtain⟨ob,_,_,h1,h2,_⟩:=dd
  exact⟨ob,h1,h2.2.1⟩
 .obtain⟨_,hd,xs,_,dd⟩:=zah I.hok e
  refine⟨dd.typeIs,λb q=> ?_,hd⟩
  cases q
  obtain⟨ob,_,_,h1,h2,_⟩:=dd
  exact⟨ob,h1,h2.2.1⟩
end L2
namespace Att
open PySem PySem.W PySem.Calls PyProof.Rows
def z2E: ∀ns vs,WellAll P h vs (ns.map WData.int)->fH vs ns:=by
 intro ns
 induction ns with
 |nil=>
  intro vs w
  rw[l0] at w
  cases w
  exact .nil
 |cons n ns ih=>
  intro vs w
  rw[b8] at w
  cases w with
  |cons a b=>
   cases a
   exact .cons _ _ (ih _ b)
def z82{l:OpenLaw}{n:Nat}(hn:l.most=some n){P:Params}{h:Heap}{args:List WData}{vals:List bb}
 (hpre:l.row.toRowW.claim.pre args=true) (hwl:WellAll P h vals args):
 ∃a vs ns,vals=[Value.ref a]/\args=[WData.list (ns.map WData.int)]/\h.get? a=some {cls:= .type "list",data:= .seq vs.toArray}/\fH vs ns/\ns.length<=n:=by
 have hsh:WShape.hasAll [] args [.list .int]=true:=(pre_splitW hpre).1
 have hc:l.pre.holds [] {args:=args}=true:=(pre_splitW hpre).2
 obtain⟨d,r,rfl,h1,h2⟩:=hasAllW_cons hsh
 obtain rfl:=hasAllW_nil h2
 obtain⟨xs,rfl,h3⟩:=hasW_list h1
 obtain⟨ns,rfl⟩:=items_int h3
 have hlen:ns.length<=n:=by
  delta OpenLaw.pre at hc
  have h4:(WTm.not (.lt (.lit (.int (n:Int))) (.len (.arg 0)))).holds [] {args:=[.list (ns.map .int)]}=true:=by
   have h4:=(holds_andW hc).1
   rw[hn] at h4
   exact h4
  have h5:=condW_of h4 (w_not (w_lt w_lit (w_len_list (w_arg rfl))))
  rw[i5] at h5
  refine Nat.le_of_not_lt λq=> ?_
  have q':(n:Int)<((ns.length:Nat):Int):=by lia
  first
   |(rw[decide_eq_true q'] at h5;exact absurd h5 (by decide))
   |(simp at h5;lia)
 cases hwl with
 |cons w1 w2=>
  cases w2
  cases w1 with
  |list ho hall=>exact⟨_,_,ns,rfl,rfl,ho,z2E ns _ hall,hlen⟩
def z83(l:OpenLaw) args:l.row.toRowW.claim.post args (.bool true) args=true:=
 postW_of (r:=l.row.toRowW) (X:=(true==true))
  (show WShape.has [] (.bool true) .bool=true by first|rfl|decide|simp[WShape.has,WShape.arms,WShape.armsAll])
  (show(WTm.eq .res (.lit (.bool true))).value [] {args:=args,res:=some (.bool true),after:=args}=some (.bool (true==true)) from w_eq_bool (w_res rfl) w_lit) rfl
def attach_call{l:OpenLaw}{n:Nat}{q:bp}{loose:List Str}{XP:(Str->Option bb)->Heap->Prop}{YP:br->Heap->Prop}{d:DefRec}
 (hn:l.most=some n) (hdf:d.params.defaults=[])
 (call: ∀w s₀ s₁ (mg mb:Str->Option bb) fa o pm cd doc a vs ns,
  Ground q loose [] XP w s₀ mg mb s₁.heap->YP w s₁.heap->
  s₁.heap.get? fa=some o->o.data= .func (docDef d.name d.params d.body d.scope pm cd doc)->s₁.heap.CodeRec cd d.name->mg d.name=some (.ref fa)->
  s₁.heap.get? a=some {cls:= .type "list",data:= .seq vs.toArray}->fH vs ns->ns.length<=n->s₁.gens= #[]->
  cn (bo l.prog w) dD (.call (.ref fa) ⟨[.ref a],[]⟩) (λr s'=>r= .ok (.ret (.bool true))/\OldK s₁.heap s'.heap/\s'.os=s₁.os/\cL s'.gens) s₁):
 WalkO q loose XP YP l.row.toRowW d [] (λf vs=>PySem.call f vs):=by
 intro w s₀ s₁ mg mb G Y fa o pm cd doc dV kV ho hd hcd hD hmg hg args vals as hpre hlay hrd hwl hlo
 obtain rfl:dV= .none:=Dflts.none hD hdf
 obtain rfl:kV= .none:=Dflts.noKw hD
 obtain⟨a,vs,ns,rfl,rfl,hobj,hints,hlen⟩:=z82 hn hpre hwl
 refine enter_call (dU (call w s₀ s₁ mg mb fa o pm cd doc a vs ns G Y ho (fd_plain hd) hcd hmg hobj hints hlen hg) λr s' hq=> ?_)
 obtain⟨rfl,h2,h3,h4⟩:=hq
 exact⟨.inl ⟨.bool true, .bool true,[],rfl,λ_=>rfl, .bool true,z83 l _,λ_=>⟨List.Pairwise.nil,λ_ hm=>(nomatch hm)⟩⟩,h2,h3,h4⟩
end Att
namespace L2
open PySem PySem.Spec PyProof.Rows
theorem z4N: ∀{vs:List bb} {ns:List Int},fH vs ns->g7 (ns.map V.int) vs
 |_,_, .nil=> .nil
 |_,_, .cons n t h=> .cons ⟨t,rfl⟩ (z4N h)
def zir(H:Hp):Prop:= ∀b,H b=none\/∃o xs,H b=some (.frz o (.lst xs))
def zam{P:bp}{w:br}{K:W.Frag}{mg mb:Str->Option bb}{CX:CXT}{k:Nat}{fa a:Addr}{fd:bI}{x:Str}{sp:Sp}{s₁:be}{vs:List bb}{ns:List Int}
 (KX:K.In s₁.heap) (hns:s₁.heap.Ns bq mg) (hb:s₁.heap.Ns fJ mb) (hbb: ∀x:Str,x≠ "__name__" ->mb x=bT x) (hlim:s₁.heap.NoLimit) (hg:s₁.gens= #[])
 (ha:s₁.heap.get? a=some {cls:= .type "list",data:= .seq vs.toArray}) (hi:fH vs ns) (hl:ns.length<=qg) (hr:z3p k dD)
 (F: ∀base:Heap,K.In base->base.Ns bq mg->z0L P w K mg base CX k fa fd [x] sp) (hbind: ∀s u,dS s fd ⟨[u],[]⟩ [(x,u)])
 (hsp: ∀H:Hp,zir H->SqL K H a (ns.map V.int)->sp [.ref a] H (λv _=>v= .bl true) λ_ _ _=>False)
 (hCX: ∀H e s',CX [] H s₁ (λ_ _ _=>False) e s'->False):
 cn (bo P w) dD (.call (.ref fa) ⟨[.ref a],[]⟩) (λr s'=>r= .ok (.ret (.bool true))/\OldK s₁.heap s'.heap/\s'.os=s₁.os/\cL s'.gens) s₁:=by
 have rv:=z4N hi
 have lenV:=hi.length
 have core: ∀H:Hp,zir H->SqL K H a (ns.map V.int)->HOk P w H s₁.heap->(∀b,H b≠none->b=a)->(H a≠none->K.lookup a=none)->
  cn (bo P w) dD (.call (.ref fa) ⟨[.ref a],[]⟩) (λr s'=>r= .ok (.ret (.bool true))/\OldK s₁.heap s'.heap/\s'.os=s₁.os/\cL s'.gens) s₁:=by
  intro H hO hS hok hA hK
  have base_of: ∀{b:Addr} {o:bJ},s₁.heap.get? b=some o->H b=none->(za4 s₁.heap H).get? b=some o:=λe n=>za5 e n
  have noA: ∀{b:Addr} {o:bJ} {es:Array bR} {ep:Nat},s₁.heap.get? b=some o->o.data= .dict es ep->H b=none:=λ{b o es ep} e d=>by
   cases q:H b with
   |none=>rfl
   |some u=>
    have e':b=a:=hA b (by rw[q];simp)
    subst e'
    rw[ha] at e;cases e
    have d':Data.seq vs.toArray _=Data.dict es ep:=d
    cases d'
  have nsK: ∀{b:Addr} {m:Str->Option bb},s₁.heap.Ns b m->(za4 s₁.heap H).Ns b m:=λ{b m} ⟨o,es,ep,e,d,r⟩=>⟨o,es,ep,base_of e (noA e d),d,r⟩
  have hKb:K.In (za4 s₁.heap H):=λb o e=>base_of (KX b o e) (by
   cases q:H b with
   |none=>rfl
   |some u=>
    have e':b=a:=hA b (by rw[q];simp)
    subst e'
    rw[hK (by rw[q];simp)] at e;cases e)
  have hM:Mod K mg (za4 s₁.heap H):=⟨hKb,nsK hns,⟨mb,nsK hb,hbb⟩,let⟨mc,h1,h2⟩:=hlim;⟨mc,nsK h1,h2⟩⟩
  have e0:ziq P w K mg (za4 s₁.heap H) dD [] s₁ H:=⟨rfl,hM,λb o e=>zcv e,S5 (z7E _ _),trivial,λb hb=>absurd (show b∈([]:List Addr) from hb) (by simp),hok, .of_eq hg⟩
  refine dU ((F _ hKb (nsK hns)).run dD [] s₁ H ⟨[.ref a],[]⟩ [.ref a] [.ref a] _ _ hr e0 (hbind s₁ (.ref a)) (.cons rfl .nil) (hsp H hO hS)) λr s' h=> ?_
  cases r with
  |error e=>exact(hCX H e s' h).elim
  |ok fl=>
   cases fl with
   |next=>exact False.elim h
   |brk=>exact False.elim h
   |cont=>exact False.elim h
   |ret u=>
    obtain⟨v,H',os,bare,un,hok',r',q⟩:=h
    have q':v= .bl true:=q
    subst q'
    obtain rfl:u=Value.bool true:=r'
    refine⟨rfl,OldK.of_keep λb o e=> ?_,os,bare⟩
    cases q:H b with
    |none=>exact un.keep b o e q (by intro z;exact absurd (show b∈([]:List Addr) from z) (by simp)) (by simp)
    |some u=>
     rcases hO b with z|⟨ob,xs,z⟩
     .rw[q] at z;cases z
     .have z2:=un.frzs b ob _ z
      obtain⟨e1,_⟩:=hok b _ z
      obtain⟨e2,_⟩:=hok' b _ z2
      rw[e] at e1;cases e1
      exact e2
 cases hk:K.lookup a with
 |some o=>
  have e:=KX a o hk
  rw[ha] at e
  cases e
  refine core (λ_=>none) (λ_=> .inl rfl) (.inr ⟨_,vs.toArray,_,hk,rfl,rfl,rfl,by rw[i8,lenV];exact hl,by simpa using rv⟩) (λb u z=>by have z':(none:Option HO)=some u:=z;cases z') (λb z=>absurd rfl z) λz=>absurd rfl z
 |none=>
  refine core (λb=>if b=a then some (.frz {cls:= .type "list",data:= .seq vs.toArray} (.lst (ns.map V.int))) else none) (λb=> ?_) (.inl (.inr ⟨{cls:= .type "list",data:= .seq vs.toArray},qy rfl⟩)) (λb u z=> ?_) (λb z=> ?_) λ_=>hk
  .by_cases hb:b=a
   .exact .inr ⟨_,_,qy hb⟩
   .exact .inl (qh hb)
  .by_cases hb:b=a
   .have z':=(qy hb).symm.trans z
    cases z'
    subst hb
    exact⟨ha,by rw[i5];exact hl,vs,_,rv,ha⟩
   .have z':=(qh hb).symm.trans z
    cases z'
  .by_cases hb:b=a
   .exact hb
   .exact absurd (qh hb) z
def zcV{l:W.OpenLaw}{n k:Nat}{q:bp}{loose:List Str}{XP:(Str->Option bb)->Heap->Prop}{YP:br->Heap->Prop}{d:DefRec}{K:Params->W.Frag}{CX:br->CXT}{sp:br->Sp}{x:Str}
 (hn:l.most=some n) (hn2:n<=qg) (hdf:d.params.defaults=[]) (hr:z3p k dD)
 (hY: ∀(w:br) (h:Heap),YP w h->(K w.params).In h)
 (F: ∀(w:br) (mg:Str->Option bb) (fa:Addr) (h:Heap),(K w.params).In h->h.Ns bq mg->mg d.name=some (.ref fa)->
  ∃fd:bI,(∀(s:be) (u:bb),dS s fd ⟨[u],[]⟩ [(x,u)])/\
   ∀base:Heap,(K w.params).In base->base.Ns bq mg->z0L l.prog w (K w.params) mg base (CX w) k fa fd [x] (sp w))
 (hsp: ∀(w:br) (H:Hp) (a:Addr) (ns:List Int),ns.length<=n->zir H->SqL (K w.params) H a (ns.map V.int)->sp w [.ref a] H (λv _=>v= .bl true) λ_ _ _=>False)
 (hCX: ∀(w:br) (H:Hp) (s:be) (e:bb) (s':be),CX w [] H s (λ_ _ _=>False) e s'->False):
 W.WalkO q loose XP YP l.row.toRowW d [] (λf vs=>PySem.call f vs):=by
 refine Att.attach_call hn hdf λw s₀ s₁ mg mb fa o pm cd doc a vs ns G Y ho hd hcd hmg hobj hints hlen hg=> ?_
 have KX:=hY w _ Y
 obtain⟨fd,hb,hF⟩:=F w mg fa _ KX G.T.g hmg
 exact zam KX G.T.g G.T.b G.T.builtins G.T.nolimit hg hobj hints (C1 hlen hn2) hr hF hb (λH hO hS=>hsp w H a ns hlen hO hS) λH e s'=>hCX w H s₁ e s'
def z1m(s:Stmt):Arguments:=match s with
 | .FunctionDef _ a _ _ _ _ _ _ _ _=>a
 |_=>{posonlyargs:=[],args:=[],vararg:=none,kwonlyargs:=[],kw_defaults:=[],kwarg:=none,defaults:=[]}
def z0b(s:Stmt):List Stmt:=match s with
 | .FunctionDef _ _ b _ _ _ _ _ _ _=>b
 |_=>[]
def Z2(s:Stmt):Scope:=match s with
 | .FunctionDef _ _ _ _ _ _ sc _ _ _=>sc
 |_=>{kind:= .function,names:=[],isGenerator:=false,isCoroutine:=false}
abbrev CX0:CXT:=λ_ _ _ _ _ _=>False
abbrev E0:XK:=λ_ _ _=>False
def zja:z4C CX0 X E0:=λ_ _ _ _ _ _ _ h=>h.elim
structure Fun(K:W.Frag)(x qual:Str)(st:Stmt)(f:Addr)(fd:bI):Prop where
 ex: ∃(oc:bb) (od:Option Addr) (kV doc pm:bb) (an:Option Addr) (cdv ct:bb) (osl:Array (Option bb)),
  fd=W.fnOf x qual (z1m st) (z0b st) (Z2 st) .none kV doc pm an cdv ct/\K.lookup f=some ⟨oc,od, .func fd,osl⟩/\W.codeIn K cdv qual=true
 kp:W.keepIn K (.ref f)=true
section
variable{P:bp}{w:br}{K:W.Frag}{mg:Str->Option bb}{base:Heap}
def Fun.ok{x qual:Str}{st:Stmt}{f:Addr}{fd:bI}{N ps:List Str}{k:Nat}{sp:Sp}(F:Fun K x qual st f fd)(S:Q3 N ps (Z2 st))(len: ∀vs H Q E,sp vs H Q E->vs.length=ps.length)
 (hbody: ∀(cdv:bb) (A:bu) (outer:List dw) (s:be) (H:Hp) (vs:List V) (Q:VK) (E:XK),z3p k (A.deeper (envOfC qual (Z2 st) s.heap.objs.size f cdv))->sp vs H Q E->
  ∃t,PSs (zbr CX0 P w K mg base N qual (Z2 st) f cdv A outer s H E).nox (z0b st) t/\t {nx:=λ_ H'=>Q .non H',rt:=Q} (z4H N vs) H):z0L P w K mg base CX0 (k+1) f fd ps sp:=by
 obtain⟨oc,od,kV,doc,pm,an,cdv,ct,osl,rfl,lk,hcd⟩:=F.ex
 refine ziZ lk hcd S len λA outer s H vs Q E hr hsp=> ?_
 obtain⟨t,h,q⟩:=hbody cdv A outer s H vs Q E hr hsp
 exact⟨t,h.nox,q⟩
def Fun.binds{x qual:Str}{st:Stmt}{f:Addr}{fd:bI}{ps:List Str}(F:Fun K x qual st f fd)
 (h: ∀(kV doc pm:bb) (an:Option Addr) (cdv ct:bb) (us:List bb),us.length=ps.length->bindArgs (W.fnOf x qual (z1m st) (z0b st) (Z2 st) .none kV doc pm an cdv ct) ⟨us,[]⟩=pure (ps.zip us)):z5O K fd ps []:=by
 obtain⟨oc,od,kV,doc,pm,an,cdv,ct,osl,rfl,lk,hcd⟩:=F.ex
 exact .all (h kV doc pm an cdv ct)
def zfu{x qual:Str}{st:Stmt}{f:Addr}{oc:bb}{od an:Option Addr}{osl:Array (Option bb)}{kV doc pm cdv ct:bb}(l:K.lookup f=some ⟨oc,od, .func (W.fnOf x qual (z1m st) (z0b st) (Z2 st) .none kV doc pm an cdv ct),osl⟩)
 (c:W.codeIn K cdv qual=true) (k:W.keepIn K (.ref f)=true):Fun K x qual st f (W.fnOf x qual (z1m st) (z0b st) (Z2 st) .none kV doc pm an cdv ct):=⟨⟨oc,od,kV,doc,pm,an,cdv,ct,osl,rfl,l,c⟩,k⟩
variable{X:Cx}
def pv i{x:Str}{pos:bN}(hN:X.N[i]? =some x:=by rfl)(hv:Vis X.env.scope x:=by first|exact Or.inl rfl|exact Or.inr (Or.inl rfl)|exact Or.inr (Or.inr rfl))(hd:(x==("__debug__" :Str))=false:=by decide)
 (hcd:(x==("__classdict__" :Str))=false:=by decide):PE X (.Name x pos) (zcw i):=zeW hN hv hd hcd
end
def z0K(H H':Hp):Prop:= ∀b o,H b=some o->H' b=some o
def z0K.refl H:z0K H H:=λ_ _ h=>h
def z0K.trans(a:z0K H H1)(b:z0K H1 H2):z0K H H2:=λc o h=>b c o (a c o h)
end L2
namespace So
open PySem PySem.W PyProof.Rows
abbrev En:=fW×Array Keyed
noncomputable def im(i:Nat)(e:En):Keyed:=kas_item e.2 (i %e.2.size)
def ar(q:Array Nat)(e:En):Array Keyed:=q.map λi=>im i e
def sst(q:Array Nat)(p:Array (Nat×Nat×Nat))(g:Nat)(e:En):SortSt:=SortSt.mk' e.1 (ar q e) p g none
def Cmp(prog:bp)(w:br)(A:bu)(cmp:Nat->Nat->Bool)(G:be->Prop)(e:En):Prop:=
 ∀i j C s,G s->(∀s',G s'->C (cmp i j) s')->gj prog w A e.1 e.2 (i %e.2.size) (j %e.2.size) C s
def Det(cmp:Nat->Nat->Bool){α:Type}(m:En->StateT SortSt dl α)(st:En->SortSt)(P:(En->α)->(En->SortSt)->Prop):Prop:=
 ∃v st',P v st'/\∀(prog:bp) (w:br) (A:bu) (E:bb->be->Prop) (e:En) (G:be->Prop) (Q:α->SortSt->be->Prop) (s:be),Cmp prog w A cmp G e->G s->(∀s',G s'->Q (v e) (st' e) s')->kasC (bo prog w) A E (m e) Q (st e) s
variable{cmp:Nat->Nat->Bool}{α β:Type}{st:En->SortSt}
def G6{P:(En->α)->(En->SortSt)->Prop}(h:P a st):Det cmp (λe=>pure (a e)) st P:=
 ⟨a,st,h,λ_ _ _ _ _ _ _ s _ hg hq=>ga (hq s hg)⟩
def Z1{m:En->StateT SortSt dl α}{f:En->α->StateT SortSt dl β}{P:(En->β)->(En->SortSt)->Prop}(h:Det cmp m st λv st'=>Det cmp (λe=>f e (v e)) st' P):Det cmp (λe=>m e>>=f e) st P:=by
 obtain⟨v,st1,⟨u,st2,hp,h2⟩,h1⟩:=h
 exact⟨u,st2,hp,λprog w A E e G Q s hc hg hq=>gb (h1 prog w A E e G _ s hc hg λs' hg'=>h2 prog w A E e G Q s' hc hg' hq)⟩
def z04{P P':(En->α)->(En->SortSt)->Prop}(h:Det cmp m st P)(hp: ∀v s,P v s->P' v s):Det cmp m st P':=by
 obtain⟨v,st',p,h⟩:=h
 exact⟨v,st',hp _ _ p,h⟩
def zan{P:(En->SortSt)->(En->SortSt)->Prop}(h:P st st):Det cmp (λ_=>get) st P:=
 ⟨st,st,h,λ_ _ _ _ _ _ _ s _ hg hq=>kasC_get (hq s hg)⟩
def zjb{P:(En->PUnit)->(En->SortSt)->Prop}(h:P (λ_=>⟨⟩) a):Det cmp (λe=>set (a e)) st P:=
 ⟨_,a,h,λ_ _ _ _ _ _ _ s _ hg hq=>by
  delta kasC;rw[StateT.run_set];exact bf (hq s hg)⟩
def z1h{f:En->SortSt->SortSt}{P:(En->PUnit)->(En->SortSt)->Prop}(h:P (λ_=>⟨⟩) (λe=>f e (st e))):Det cmp (λe=>modify (f e)) st P:=
 ⟨_,_,h,λ_ _ _ _ _ _ _ s _ hg hq=>kasC_modify (hq s hg)⟩
def z84{P:(En->Unit)->(En->SortSt)->Prop}(h:P (λ_=>()) st):Det cmp (λ_=>liftM (rule x)) st P:=
 ⟨_,st,h,λ_ _ _ _ _ _ _ s _ hg hq=>kasC_lift (cC (hq s hg))⟩
def W0{c:Prop}{i:En->Decidable c}{m m':En->StateT SortSt dl α}{P:(En->α)->(En->SortSt)->Prop}(h1:c->Det cmp m st P)(h2: ¬c->Det cmp m' st P):Det cmp (λe=> @ite _ c (i e) (m e) (m' e)) st P:=by
 by_cases h:c
 .erw[qy h];exact h1 h
 .erw[qh h];exact h2 h
def z3v{q:Array Nat}{i:Nat}{P:(En->Keyed)->(En->SortSt)->Prop}(hi:i<q.size)(h:P (im q[i]) st):Det cmp (λe=>elem' (ar q e) i) st P:=
 ⟨_,st,h,λ_ _ _ _ e _ _ s _ hg hq=>by
  have e1:(ar q e)[i]? =some (im q[i] e):=by simp[ar,hi]
  erw[elem'_eq,e1]
  exact ga (hq s hg)⟩
def zis{g i j:Nat}{P:(En->Option Bool)->(En->SortSt)->Prop}(h:P (λ_=>some (cmp i j)) (sst q p g)):Det cmp (λe=>lt' (im i e) (im j e)) (sst q p g) P:=
 ⟨_,_,h,λprog w A E e G Q s hc hg hq=>by
  erw[lt'_eq]
  refine gb (kasC_get ?_)
  refine gb (kasC_lift (cH (bz (hc i j (λb s'=>b=cmp i j/\G s') s hg λs' h=>⟨rfl,h⟩) (λc s' hc'=> ?_) λ_ _ hF=>hF.elim)))
  obtain⟨rfl,hg'⟩:=hc'
  exact ga (hq s' hg')⟩
def z2q{q:Array Nat}{g i j:Nat}{P:(En->Option Bool)->(En->SortSt)->Prop}(hi:i<q.size)(hj:j<q.size)(h:P (λ_=>some (cmp q[i] q[j])) (sst q p g)):Det cmp (λ_=>ltAt' i j) (sst q p g) P:=by
 erw[ltAt'_eq]
 exact Z1 (zan (Z1 (z3v hi (Z1 (z3v hj (zis h))))))
def z6t(u v:Nat->Nat)(l:List Nat)(q:Array Nat)(e:En):l.foldl (λa k=>a.swapIfInBounds (u k) (v k)) (ar q e)=ar (l.foldl (λa k=>a.swapIfInBounds (u k) (v k)) q) e:=kas_swaps_map _ u v l q
def z3Z{g i j:Nat}{P:(En->Unit)->(En->SortSt)->Prop}(h:P (λ_=>()) (sst (cZ q i j ((j -i)/2)) p g)):Det cmp (λ_=>reverseSlice' i j) (sst q p g) P:=by
 erw[reverseSlice'_eq]
 refine z1h ?_
 have e:(λe=>setArr (sst q p g e) (cZ (fF (sst q p g e)) i j ((j -i)/2)))=sst (cZ q i j ((j -i)/2)) p g:=by
  funext e
  show SortSt.mk' e.1 (cZ (ar q e) i j ((j -i)/2)) p g none=SortSt.mk' e.1 (ar (cZ q i j ((j -i)/2)) e) p g none
  rw[show cZ (ar q e) i j ((j -i)/2)=ar (cZ q i j ((j -i)/2)) e from z6t (λk=>i+k) (λk=>j - 1 -k) _ q e]
 rw[e];exact h
def zfv{g k l:Nat}{P:(En->Unit)->(En->SortSt)->Prop}(h:P (λ_=>()) (sst (de q k (k -l)) p g)):Det cmp (λ_=>moveDown' k l) (sst q p g) P:=by
 erw[moveDown'_eq]
 refine z1h ?_
 have e:(λe=>setArr (sst q p g e) (de (fF (sst q p g e)) k (k -l)))=sst (de q k (k -l)) p g:=by
  funext e
  show SortSt.mk' e.1 (de (ar q e) k (k -l)) p g none=SortSt.mk' e.1 (ar (de q k (k -l)) e) p g none
  rw[show de (ar q e) k (k -l)=ar (de q k (k -l)) e from z6t (λi=>k -i) (λi=>k -i - 1) _ q e]
 rw[e];exact h
theorem zbu{f:En->Nat->β->StateT SortSt dl (ForInStep β)}{I:Nat->(En->β)->(En->SortSt)->Prop}{Q:(En->β)->(En->SortSt)->Prop}(hb: ∀(x:Nat) (k:Nat) (b:En->β) (st:En->SortSt),I (k+1) b st->Det cmp (λe=>f e x (b e)) st λv st'=>(∃c,v=(λe=> .done (c e))/\Q c st')\/∃c,v=(λe=> .yield (c e))/\I k c st')(hf: ∀b st,I 0 b st->Q b st):
 ∀(l:List Nat) (b:En->β) (st:En->SortSt),I l.length b st->Det cmp (λe=>forIn l (b e) (f e)) st Q
 |[],b,st,h=>⟨b,st,hf b st h,λ_ _ _ _ _ _ _ s _ hg hq=>kasC_nil (hq s hg)⟩
 |x::l,b,st,h=>by
  obtain⟨v,st1,hp,h1⟩:=hb x l.length b st h
  rcases hp with⟨c,rfl,hp⟩|⟨c,rfl,hp⟩
  .exact⟨c,st1,hp,λprog w A E e G Q s hc hg hq=>fv (h1 prog w A E e G _ s hc hg λs' hg'=>hq s' hg')⟩
  .obtain⟨c2,st2,hp2,h2⟩:=zbu hb hf l c st1 hp
   exact⟨c2,st2,hp2,λprog w A E e G Q s hc hg hq=>fv (h1 prog w A E e G _ s hc hg λs' hg'=>h2 prog w A E e G Q s' hc hg' hq)⟩
def z24{lo hi:Nat}{f:En->Nat->β->StateT SortSt dl (ForInStep β)}{b:En->β}(I:Nat->(En->β)->(En->SortSt)->Prop){Q:(En->β)->(En->SortSt)->Prop}(h0:I (hi -lo) b st)(hb: ∀(x:Nat) (k:Nat) (b:En->β) (st:En->SortSt),I (k+1) b st->Det cmp (λe=>f e x (b e)) st λv st'=>(∃c,v=(λe=> .done (c e))/\Q c st')\/∃c,v=(λe=> .yield (c e))/\I k c st')(hf: ∀b st,I 0 b st->Q b st):
 Det cmp (λe=>forIn [lo:hi] (b e) (f e)) st Q:=by
 obtain⟨v,st',hp,h⟩:=zbu (cmp:=cmp) (f:=f) (I:=I) (Q:=Q) hb hf (u0h lo (hi -lo)) b st (by rw[List.length_range'];exact h0)
 exact⟨v,st',hp,λprog w A E e G Q s hc hg hq=>fX (h prog w A E e G Q s hc hg hq)⟩
def W5{I:(En->β)->(En->SortSt)->Prop}{Q:(En->β)->(En->SortSt)->Prop}(h:Q c st):Det cmp (λe=>pure (ForInStep.done (c e))) st λv st'=>(∃c,v=(λe=> .done (c e))/\Q c st')\/∃c,v=(λe=> .yield (c e))/\I c st':=
 G6 (.inl ⟨c,rfl,h⟩)
def W6{I:(En->β)->(En->SortSt)->Prop}{Q:(En->β)->(En->SortSt)->Prop}(h:I c st):Det cmp (λe=>pure (ForInStep.yield (c e))) st λv st'=>(∃c,v=(λe=> .done (c e))/\Q c st')\/∃c,v=(λe=> .yield (c e))/\I c st':=
 G6 (.inr ⟨c,rfl,h⟩)
def zbv{c:Prop}{i:En->Decidable c}{v:En->β}{I Q:(En->β)->(En->SortSt)->Prop}(h:I v st):Det cmp (λe=> @ite _ c (i e) (pure (ForInStep.done (v e))) (pure (ForInStep.yield (v e)))) st λu st'=>(∃c,u=(λe=> .done (c e))/\(Q c st'\/I c st'))\/∃c,u=(λe=> .yield (c e))/\I c st':=
 W0 (λ_=>W5 (.inr h)) λ_=>W6 h
def zfw{Q:Nat->Array Nat->Prop}(R:Nat->Array Nat->Prop){G:Prop}(h:(∀a o,R a o->Q a o)->G)(k: ∀a o,R a o->Q a o):G:=h k
def zfx{Q:Nat->Prop}{G:Prop}(h:(∀mm,Q mm)->G)(k: ∀mm,Q mm):G:=h k
noncomputable def gal:Bool->Keyed->Array Keyed->Nat->Nat->Nat->StateT SortSt dl (Option Nat):=sortPriv%PySem.Builtin.gallop
variable{cmp:Nat->Nat->Bool}{α β:Type}{q:Array Nat}{p:Array (Nat×Nat×Nat)}{g:Nat}
def z4O{left:Bool}{r:Array Nat}{i x:Nat}{P:(En->Option Bool)->(En->SortSt)->Prop}(hi:i<r.size)(h: ∀b,P (λ_=>some b) (sst q p g)):
 Det cmp (λe=>elem' (ar r e) i>>=λy=>if left=true then lt' y (im x e) else lt' (im x e) y>>=λo=>pure (o.map λb=> !b)) (sst q p g) P:=by
 refine Z1 (z3v hi ?_)
 cases left with
 |true=>exact zis (h _)
 |false=>exact Z1 (zis (G6 (h _)))
def z40{left:Bool}{r:Array Nat}{x base n hint:Nat}{P:(En->Option Nat)->(En->SortSt)->Prop}(hn:base+n<=r.size)(hh:hint<n)(h: ∀k,k<=n->P (λ_=>some k) (sst q p g)):
 Det cmp (λe=>gal left (im x e) (ar r e) base n hint) (sst q p g) P:=by
 refine Z1 (z4O (left:=left) (r:=r) (i:=base+hint) (x:=x) (by lia) λb=> ?_)
 cases b with
 |true=>
  refine Z1 (z04 (P:=λv st'=>st'=sst q p g/\∃lo hi:Nat,v=(λ_=>(none,lo,hi))) (z24 (I:=λ_ v st'=>st'=sst q p g/\∃lo hi:Nat,v=(λ_=>(none,lo,hi))) ⟨rfl,0,1,rfl⟩ ?_ λ_ _ h=>h) ?_)
  .rintro _ k b st ⟨rfl,lo,hi,rfl⟩
   dsimp only
   refine W0 (λ_=>W5 ⟨rfl,lo,hi,rfl⟩) λhlt=> ?_
   refine Z1 (z4O (left:=left) (r:=r) (i:=base+(hint+hi)) (x:=x) (by lia) λb=> ?_)
   cases b with
   |true=>exact W6 ⟨rfl,_,_,rfl⟩
   |false=>exact W5 ⟨rfl,lo,hi,rfl⟩
  .rintro v st ⟨rfl,lo,hi,rfl⟩
   dsimp only
   refine Z1 (z04 (P:=λv st'=>st'=sst q p g/\∃lo hi:Nat,v=(λ_=>(none,lo,hi))/\hi<=n) (z24 (I:=λ_ v st'=>st'=sst q p g/\∃lo hi:Nat,v=(λ_=>(none,lo,hi))/\hi<=n) ⟨rfl,_,_,rfl,by lia⟩ ?_ λ_ _ h=>h) ?_)
   .rintro _ k b st ⟨rfl,lo,hi,rfl,hl⟩
    dsimp only
    refine W0 (λ_=>W5 ⟨rfl,lo,hi,rfl,hl⟩) λhlt=> ?_
    refine Z1 (z4O (left:=left) (r:=r) (x:=x) (by lia) λb=> ?_)
    cases b with
    |true=>exact W6 ⟨rfl,_,hi,rfl,hl⟩
    |false=>exact W6 ⟨rfl,lo,_,rfl,by lia⟩
   .rintro v st ⟨rfl,lo,hi,rfl,hl⟩
    exact G6 (h hi hl)
 |false=>
  refine Z1 (z04 (P:=λv st'=>st'=sst q p g/\∃lo hi:Nat,v=(λ_=>(none,lo,hi))) (z24 (I:=λ_ v st'=>st'=sst q p g/\∃lo hi:Nat,v=(λ_=>(none,lo,hi))) ⟨rfl,0,1,rfl⟩ ?_ λ_ _ h=>h) ?_)
  .rintro _ k b st ⟨rfl,lo,hi,rfl⟩
   dsimp only
   refine W0 (λ_=>W5 ⟨rfl,lo,hi,rfl⟩) λhlt=> ?_
   refine Z1 (z4O (left:=left) (r:=r) (i:=base+(hint -hi)) (x:=x) (by lia) λb=> ?_)
   cases b with
   |true=>exact W5 ⟨rfl,lo,hi,rfl⟩
   |false=>exact W6 ⟨rfl,_,_,rfl⟩
  .rintro v st ⟨rfl,lo,hi,rfl⟩
   dsimp only
   refine Z1 (z04 (P:=λv st'=>st'=sst q p g/\∃lo hi:Nat,v=(λ_=>(none,lo,hi))/\hi<=n) (z24 (I:=λ_ v st'=>st'=sst q p g/\∃lo hi:Nat,v=(λ_=>(none,lo,hi))/\hi<=n) ⟨rfl,_,_,rfl,by lia⟩ ?_ λ_ _ h=>h) ?_)
   .rintro _ k b st ⟨rfl,lo,hi,rfl,hl⟩
    dsimp only
    refine W0 (λ_=>W5 ⟨rfl,lo,hi,rfl,hl⟩) λhlt=> ?_
    refine Z1 (z4O (left:=left) (r:=r) (x:=x) (by lia) λb=> ?_)
    cases b with
    |true=>exact W6 ⟨rfl,_,hi,rfl,hl⟩
    |false=>exact W6 ⟨rfl,lo,_,rfl,by lia⟩
   .rintro v st ⟨rfl,lo,hi,rfl,hl⟩
    exact G6 (h hi hl)
end So
set_option linter.unusedSimpArgs false
namespace So
open PySem PySem.W PyProof.Rows
noncomputable def mlo:Array Keyed->Array Keyed->StateT SortSt dl (Array Keyed):=sortPriv%PySem.Builtin.mergeLo
def z2F{q:Array Nat}:(ar q e).size=q.size:=by simp[ar]
def zcW{q:Array Nat}{i:Nat}:(ar q e).push (im i e)=ar (q.push i) e:=by simp[ar]
def zfy:ar q e++ar r e=ar (q++r) e:=by simp[ar]
def z85{q:Array Nat}{i j:Nat}:(ar q e).extract i j=ar (q.extract i j) e:=by simp[ar]
def zfz{q:Array Nat}:(ar q e).reverse=ar q.reverse e:=by simp[ar]
def zfA{i:Nat}: #[im i e]=ar #[i] e:=by simp[ar]
def Al(T:Nat->Prop)(q:Array Nat):Prop:= ∀i∈q,T i
section
variable{T:Nat->Prop}{q r:Array Nat}
def zcX{i:Nat}(h:Al T q)(hi:T i):Al T (q.push i):=λj hj=>by
 rcases Array.mem_push.mp hj with hj|rfl
 .exact h j hj
 .exact hi
def zfB(h:Al T q)(h':Al T r):Al T (q++r):=λj hj=>by
 rcases Array.mem_append.mp hj with hj|hj
 .exact h j hj
 .exact h' j hj
def z4P{i j:Nat}(h:Al T q):Al T (q.extract i j):=λk hk=>h k (by
 obtain⟨n,hn,rfl⟩:=Array.mem_iff_getElem.mp hk
 rw[Array.getElem_extract]
 exact Array.getElem_mem _)
def zfC(h:Al T q):Al T q.reverse:=λk hk=>h k (Array.mem_reverse.mp hk)
def G1{i:Nat}(h:Al T q)(hi:i<q.size):T q[i]:=h _ (Array.getElem_mem hi)
def zfD{i:Nat}(h:T i):Al T #[i]:=λj hj=>by
 rw[Array.mem_singleton.mp hj];exact h
end
variable{cmp:Nat->Nat->Bool}{α β:Type}{q:Array Nat}{p:Array (Nat×Nat×Nat)}{g:Nat}
theorem zfE{g':Nat}{P:(En->Unit)->(En->SortSt)->Prop}(h:P (λ_=>()) (sst q p g')):Det cmp (λ_=>(sortPriv%PySem.Builtin.setMinGallop) g') (sst q p g) P:=z1h h
def z2G{st:En->SortSt}{x:String}{f:En->Unit->StateT SortSt dl β}{P:(En->β)->(En->SortSt)->Prop}(h:Det cmp (λe=>f e ()) st P):Det cmp (λe=>liftM (rule x)>>=f e) st P:=Z1 (z84 h)
def z3w{st:En->SortSt}{f:En->SortSt->StateT SortSt dl β}{P:(En->β)->(En->SortSt)->Prop}(h:Det cmp (λe=>f e (st e)) st P):Det cmp (λe=>get>>=f e) st P:=Z1 (zan h)
def J4{st:En->SortSt}{a:Array Nat}{i:Nat}{f:En->Keyed->StateT SortSt dl β}{P:(En->β)->(En->SortSt)->Prop}(hi:i<a.size)(h:Det cmp (λe=>f e (im a[i] e)) st P):Det cmp (λe=>elem' (ar a e) i>>=f e) st P:=Z1 (z3v hi h)
def zfF{i j:Nat}{f:En->Option Bool->StateT SortSt dl β}{P:(En->β)->(En->SortSt)->Prop}(h:Det cmp (λe=>f e (some (cmp i j))) (sst q p g) P):Det cmp (λe=>lt' (im i e) (im j e)>>=f e) (sst q p g) P:=Z1 (zis h)
def Ar(T:Nat->Prop)(f:En->Array Keyed):Prop:= ∃q,f=ar q/\Al T q
section
variable{T:Nat->Prop}{f h:En->Array Keyed}
def zao(a:Al T q):Ar T (ar q):=⟨q,rfl,a⟩
def G7{i:Nat}(a:Ar T f)(hi:T i):Ar T λe=>(f e).push (im i e):=by
 obtain⟨q,rfl,a⟩:=a
 exact⟨q.push i,funext λe=>zcW,zcX a hi⟩
def U6(a:Ar T f)(b:Ar T h):Ar T λe=>f e++h e:=by
 obtain⟨q,rfl,a⟩:=a
 obtain⟨r,rfl,b⟩:=b
 exact⟨q++r,funext λe=>zfy,zfB a b⟩
def U7{i j:Nat}(a:Ar T f):Ar T λe=>(f e).extract i j:=by
 obtain⟨q,rfl,a⟩:=a
 exact⟨q.extract i j,funext λe=>z85,z4P a⟩
def z3x(a:Ar T f):Ar T λe=>(f e).reverse:=by
 obtain⟨q,rfl,a⟩:=a
 exact⟨q.reverse,funext λe=>zfz,zfC a⟩
def z3y{i:Nat}(hi:T i):Ar T λe=> #[im i e]:=⟨#[i],funext λe=>zfA,zfD hi⟩
end
theorem z41{g':Nat}{f:En->Unit->StateT SortSt dl β}{P:(En->β)->(En->SortSt)->Prop}(h:Det cmp (λe=>f e ()) (sst q p g') P):Det cmp (λe=>(sortPriv%PySem.Builtin.setMinGallop) g'>>=f e) (sst q p g) P:=Z1 (zfE h)
def z1D{left:Bool}{r:Array Nat}{x base n hint:Nat}{f:En->Option Nat->StateT SortSt dl β}{P:(En->β)->(En->SortSt)->Prop}(hn:base+n<=r.size)(hh:hint<n)(h: ∀k,k<=n->Det cmp (λe=>f e (some k)) (sst q p g) P):Det cmp (λe=>gal left (im x e) (ar r e) base n hint>>=f e) (sst q p g) P:=Z1 (z40 hn hh h)
def zbw{Q:Nat->(En->Array Keyed)->Prop}(R:Nat->(En->Array Keyed)->Prop){G:Prop}(h:(∀a o,R a o->Q a o)->G)(k: ∀a o,R a o->Q a o):G:=h k
def z3z{γ:Type}{lo hi:Nat}{st:En->SortSt}{f:En->Nat->β->StateT SortSt dl (ForInStep β)}{b:En->β}{g:En->β->StateT SortSt dl γ}(I:Nat->(En->β)->(En->SortSt)->Prop)(Q:(En->β)->(En->SortSt)->Prop){P:(En->γ)->(En->SortSt)->Prop}(h0:I (hi -lo) b st)
 (hb: ∀(x:Nat) (k:Nat) (b:En->β) (st:En->SortSt),I (k+1) b st->Det cmp (λe=>f e x (b e)) st λv st'=>(∃c,v=(λe=> .done (c e))/\Q c st')\/∃c,v=(λe=> .yield (c e))/\I k c st')
 (hf: ∀b st,I 0 b st->Q b st) (hk: ∀v st',Q v st'->Det cmp (λe=>g e (v e)) st' P):Det cmp (λe=>forIn [lo:hi] (b e) (f e)>>=g e) st P:=Z1 (z04 (z24 I h0 hb hf) hk)
def Rt(T:Nat->Prop)(q:Array Nat)(p:Array (Nat×Nat×Nat)){β:Type}(v:En->Option (Array Keyed)×β)(st:En->SortSt):Prop:= ∃(mq:En->Array Keyed) (b:En->β) (g:Nat),v=(λe=>(some (mq e),b e))/\Ar T mq/\st=sst q p g
local macro_rules | `(tactic| walk_at "al") => `(tactic| (repeat' first | with_reducible assumption | with_reducible refine G1 ?_ _ | with_reducible refine G7 ?_ ?_ | with_reducible refine U6 ?_ ?_ | with_reducible refine U7 ?_ | with_reducible refine z3x ?_))
def zjc{T:Nat->Prop}{qa qb:Array Nat}{P:(En->Array Keyed)->(En->SortSt)->Prop}(ha:Al T qa)(hb:Al T qb)(a1:1<=qa.size)(b1:1<=qb.size)(h0: ∀mq g',Al T mq->P (ar mq) (sst q p g')):
 Det cmp (λe=>mlo (ar qa e) (ar qb e)) (sst q p g) P:=by
 have h: ∀(mq:En->Array Keyed) g',Ar T mq->P mq (sst q p g'):=λmq g' ⟨r,e,a⟩=>e▸h0 r g' a
 have fa:=zao ha
 have fb:=zao hb
 refine z2G ?_
 refine J4 (by lia) ?_
 erw[z2F]
 refine W0 (λ_=>G6 (h _ _ ?_)) λc1=>W0 (λ_=>G6 (h _ _ ?_)) λc2=> ?_
 .exact U6 (U6 (z3y (G1 hb _)) (U7 fa)) (U7 fb)
 .exact U6 (U6 (z3y (G1 hb _)) (U7 fb)) (U7 fa)
 erw[beq_iff_eq] at c1 c2
 refine z3w ?_
 try dsimp only
 refine z3z (Q:=λv st'=>Rt T q p v st') (I:=λk v st'=> ∃(out:En->Array Keyed) (ia ib mg g':Nat),v=(λe=>(none,out e,ia,ib,mg))/\st'=sst q p g'/\Ar T out/\ia+1<qa.size/\ib<qb.size/\qa.size+qb.size+1<=ia+ib+k) ⟨_,0,1,g,g,rfl,rfl,z3y (G1 hb (by lia)),by lia,by lia,by lia⟩ ?_ ?_ ?_
 .rintro _ k b st ⟨out,ia,ib,mg,g',rfl,rfl,ho,hia,hib,hk⟩
  try dsimp only
  refine z3z (Q:=λv st'=>Rt T q p v st'\/∃(out:En->Array Keyed) (ja jb ac bc:Nat),v=(λe=>(none,out e,ja,jb,ac,bc))/\st'=sst q p g'/\Ar T out/\ja+1<qa.size/\jb<qb.size/\ia+ib+1<=ja+jb) (I:=λk v st'=> ∃(out:En->Array Keyed) (ja jb ac bc:Nat),v=(λe=>(none,out e,ja,jb,ac,bc))/\st'=sst q p g'/\Ar T out/\ja+1<qa.size/\jb<qb.size/\ia+ib+(qa.size+qb.size)<=ja+jb+k/\k<=qa.size+qb.size) ⟨out,ia,ib,0,0,rfl,rfl,ho,hia,hib,by lia,by lia⟩ ?_ ?_ ?_
  .rintro _ k b st ⟨out,ja,jb,ac,bc,rfl,rfl,ho,hja,hjb,hp,hk2⟩
   try dsimp only
   refine J4 hjb (J4 (by lia) (zfF ?_))
   try dsimp only
   cases cmp qb[jb] qa[ja] with
   |true=>
    refine J4 hjb ?_
    try dsimp only
    refine W0 (λ_=>W5 (.inl ⟨_,_,_,rfl,U6 (U6 (G7 ho (G1 hb _)) (U7 fa)) (U7 fb),rfl⟩)) λc=> ?_
    erw[beq_iff_eq] at c
    refine W0 (λ_=>W5 (.inr ⟨_,_,_,_,_,rfl,rfl,G7 ho (G1 hb _),hja,by lia,by lia⟩)) λ_=>W6 ⟨_,_,_,_,_,rfl,rfl,G7 ho (G1 hb _),hja,by lia,by lia,by lia⟩
   |false=>
    refine J4 (by lia) ?_
    try dsimp only
    refine W0 (λ_=>W5 (.inl ⟨_,_,_,rfl,U6 (U6 (G7 ho (G1 ha _)) (U7 fb)) (U7 fa),rfl⟩)) λc=> ?_
    erw[beq_iff_eq] at c
    refine W0 (λ_=>W5 (.inr ⟨_,_,_,_,_,rfl,rfl,G7 ho (G1 ha _),by lia,hjb,by lia⟩)) λ_=>W6 ⟨_,_,_,_,_,rfl,rfl,G7 ho (G1 ha _),by lia,hjb,by lia,by lia⟩
  .rintro b st ⟨out,ja,jb,ac,bc,rfl,rfl,ho,hja,hjb,hp,hk2⟩
   exact .inr ⟨_,_,_,_,_,rfl,rfl,ho,hja,hjb,by lia⟩
  .rintro v st (⟨mq,b,g2,rfl,hm,rfl⟩|⟨out,ja,jb,ac,bc,rfl,rfl,ho,hja,hjb,hp⟩)
   .exact W5 ⟨_,_,_,rfl,hm,rfl⟩
   try dsimp only
   refine z2G ?_
   refine z3z (Q:=λv st'=>Rt T q p v st'\/∃(out:En->Array Keyed) (ka kb mg ac bc g':Nat),v=(λe=>(none,out e,ka,kb,mg,ac,bc))/\st'=sst q p g'/\Ar T out/\ka+1<qa.size/\kb<qb.size/\ja+jb<=ka+kb) (I:=λk v st'=> ∃(out:En->Array Keyed) (ka kb mg ac bc g':Nat),v=(λe=>(none,out e,ka,kb,mg,ac,bc))/\st'=sst q p g'/\Ar T out/\ka+1<qa.size/\kb<qb.size/\ja+jb<=ka+kb) ⟨out,ja,jb,_,ac,bc,_,rfl,rfl,ho,hja,hjb,by lia⟩ ?_ (λb st h=> .inr h) ?_
   .rintro _ k b st ⟨out,ka,kb,mg,ac,bc,g2,rfl,rfl,ho,hka,hkb,hp2⟩
    try dsimp only
    try erw[z2F]
    apply zfx
    .intro key
     refine W0 (c:=mg>1) (λ_=> ?_) (λ_=> ?_)
     rotate_left
     .generalize mg=z
      exact key z
     .exact key _
    .intro mm
     try dsimp only
     refine z41 (J4 hkb (z1D (by lia) (by lia) λk hk=> ?_))
     try dsimp only
     obtain⟨KA,hKA⟩: ∃KA,KA=ka:=⟨_,rfl⟩
     apply zbw (λa o=>Ar T o/\a+1<qa.size/\KA<=a)
     .intro key
      refine W0 (λk0=>W0 (λ_=>W5 (.inl ⟨_,_,_,rfl, ?_,rfl⟩)) λc1=>W0 (λ_=>W5 (.inl ⟨_,_,_,rfl, ?_,rfl⟩)) λc2=> ?_) (λk0=> ?_)
      .walk_at "al"
      .walk_at "al"
      rotate_left
      .have r:Ar T out/\ka+1<qa.size/\KA<=ka:=⟨ho,hka,by lia⟩
       revert r
       generalize out=z2
       generalize ka=z1
       intro r
       exact key z1 z2 r
      .erw[beq_iff_eq] at c1 c2
       refine key _ _ ⟨?_,by lia,by lia⟩
       walk_at "al"
     .intro ka0 out0 r0
      obtain⟨ho0,ka01,ka02⟩:=r0
      try dsimp only
      refine J4 hkb ?_
      refine W0 (λ_=>W5 (.inl ⟨_,_,_,rfl, ?_,rfl⟩)) λc3=> ?_
      .walk_at "al"
      erw[beq_iff_eq] at c3
      refine J4 (by lia) (z1D (by lia) (by lia) λk' hk'=> ?_)
      try dsimp only
      refine W0 (λk1=>W0 (λ_=>W5 (.inl ⟨_,_,_,rfl, ?_,rfl⟩)) λc4=> ?_) (λk1=> ?_)
      .walk_at "al"
      all_goals
       try erw[beq_iff_eq] at c4
       refine J4 (by lia) ?_
       refine W0 (λ_=>W5 (.inl ⟨_,_,_,rfl, ?_,rfl⟩)) λc5=> ?_
       .walk_at "al"
       erw[beq_iff_eq] at c5
       refine zbv ⟨_,_,_,_,_,_,_,rfl,rfl, ?_,by lia,by lia,by lia⟩
       walk_at "al"
   .rintro v st (⟨mq,b,g2,rfl,hm,rfl⟩|⟨out,ka,kb,mg,ac,bc,g2,rfl,rfl,ho,hka,hkb,hp2⟩)
    .exact W5 ⟨_,_,_,rfl,hm,rfl⟩
    .try dsimp only
     exact z41 (W6 ⟨_,_,_,_,_,rfl,rfl,ho,hka,hkb,by lia⟩)
 .rintro b st ⟨out,ia,ib,mg,g',rfl,rfl,ho,hia,hib,hk⟩
  lia
 .rintro v st ⟨mq,b,g',rfl,hm,rfl⟩
  exact G6 (h _ _ hm)
noncomputable def mhi:Array Keyed->Array Keyed->StateT SortSt dl (Array Keyed):=sortPriv%PySem.Builtin.mergeHi
variable{cmp:Nat->Nat->Bool}{α β:Type}{q:Array Nat}{p:Array (Nat×Nat×Nat)}{g:Nat}
local macro_rules | `(tactic| walk_at "al") => `(tactic| (repeat' first | with_reducible assumption | with_reducible refine G1 ?_ _ | with_reducible refine G7 ?_ ?_ | with_reducible refine U6 ?_ ?_ | with_reducible refine U7 ?_ | with_reducible refine z3x ?_))
def zjd{T:Nat->Prop}{qa qb:Array Nat}{P:(En->Array Keyed)->(En->SortSt)->Prop}(ha:Al T qa)(hb:Al T qb)(a1:1<=qa.size)(b1:1<=qb.size)(h0: ∀mq g',Al T mq->P (ar mq) (sst q p g')):
 Det cmp (λe=>mhi (ar qa e) (ar qb e)) (sst q p g) P:=by
 have h: ∀(mq:En->Array Keyed) g',Ar T mq->P mq (sst q p g'):=λmq g' ⟨r,e,a⟩=>e▸h0 r g' a
 have fa:=zao ha
 have fb:=zao hb
 refine z2G ?_
 erw[z2F]
 refine J4 (by lia) ?_
 refine W0 (λ_=>G6 (h _ _ ?_)) λc1=>W0 (λ_=>G6 (h _ _ ?_)) λc2=> ?_
 .exact U6 (U6 (U7 fa) (U7 fb)) (z3x (z3y (G1 ha _)))
 .exact U6 (U6 (U7 fb) (U7 fa)) (z3x (z3y (G1 ha _)))
 erw[beq_iff_eq] at c1 c2
 refine z3w ?_
 try dsimp only
 refine z3z (Q:=λv st'=>Rt T q p v st') (I:=λk v st'=> ∃(na nb:Nat) (out:En->Array Keyed) (mg g':Nat),v=(λe=>(none,na,nb,out e,mg))/\st'=sst q p g'/\Ar T out/\1<=na/\na<=qa.size/\2<=nb/\nb<=qb.size/\na+nb+1<=k) ⟨qa.size - 1,qb.size,_,g,g,rfl,rfl,z3y (G1 ha (by lia)),by lia,by lia,by lia,by lia,by lia⟩ ?_ ?_ ?_
 .rintro _ k b st ⟨na,nb,out,mg,g',rfl,rfl,ho,na1,na2,nb1,nb2,hk⟩
  try dsimp only
  refine z3z (Q:=λv st'=>Rt T q p v st'\/∃(ja jb:Nat) (out:En->Array Keyed) (ac bc:Nat),v=(λe=>(none,ja,jb,out e,ac,bc))/\st'=sst q p g'/\Ar T out/\1<=ja/\ja<=qa.size/\2<=jb/\jb<=qb.size/\ja+jb+1<=na+nb) (I:=λk v st'=> ∃(ja jb:Nat) (out:En->Array Keyed) (ac bc:Nat),v=(λe=>(none,ja,jb,out e,ac,bc))/\st'=sst q p g'/\Ar T out/\1<=ja/\ja<=qa.size/\2<=jb/\jb<=qb.size/\ja+jb+(qa.size+qb.size)<=na+nb+k/\k<=qa.size+qb.size) ⟨na,nb,out,0,0,rfl,rfl,ho,na1,na2,nb1,nb2,by lia,by lia⟩ ?_ ?_ ?_
  .rintro _ k b st ⟨ja,jb,out,ac,bc,rfl,rfl,ho,ja1,ja2,jb1,jb2,hp,hk2⟩
   try dsimp only
   refine J4 (by lia) (J4 (by lia) (zfF ?_))
   try dsimp only
   cases cmp qb[jb - 1] qa[ja - 1] with
   |true=>
    refine J4 (by lia) ?_
    try dsimp only
    refine W0 (λ_=>W5 (.inl ⟨_,_,_,rfl,U6 (U6 (U7 fa) (U7 fb)) (z3x (G7 ho (G1 ha _))),rfl⟩)) λc=> ?_
    erw[beq_iff_eq] at c
    refine W0 (λ_=>W5 (.inr ⟨_,_,_,_,_,rfl,rfl,G7 ho (G1 ha _),by lia,by lia,by lia,by lia,by lia⟩)) λ_=>W6 ⟨_,_,_,_,_,rfl,rfl,G7 ho (G1 ha _),by lia,by lia,by lia,by lia,by lia,by lia⟩
   |false=>
    refine J4 (by lia) ?_
    try dsimp only
    refine W0 (λ_=>W5 (.inl ⟨_,_,_,rfl,U6 (U6 (U7 fb) (U7 fa)) (z3x (G7 ho (G1 hb _))),rfl⟩)) λc=> ?_
    erw[beq_iff_eq] at c
    refine W0 (λ_=>W5 (.inr ⟨_,_,_,_,_,rfl,rfl,G7 ho (G1 hb _),by lia,by lia,by lia,by lia,by lia⟩)) λ_=>W6 ⟨_,_,_,_,_,rfl,rfl,G7 ho (G1 hb _),by lia,by lia,by lia,by lia,by lia,by lia⟩
  .rintro b st ⟨ja,jb,out,ac,bc,rfl,rfl,ho,ja1,ja2,jb1,jb2,hp,hk2⟩
   exact .inr ⟨_,_,_,_,_,rfl,rfl,ho,ja1,ja2,jb1,jb2,by lia⟩
  .rintro v st (⟨mq,b,g2,rfl,hm,rfl⟩|⟨ja,jb,out,ac,bc,rfl,rfl,ho,ja1,ja2,jb1,jb2,hp⟩)
   .exact W5 ⟨_,_,_,rfl,hm,rfl⟩
   try dsimp only
   refine z2G ?_
   refine z3z (Q:=λv st'=>Rt T q p v st'\/∃(ka kb:Nat) (out:En->Array Keyed) (mg ac bc g':Nat),v=(λe=>(none,ka,kb,out e,mg,ac,bc))/\st'=sst q p g'/\Ar T out/\1<=ka/\ka<=qa.size/\2<=kb/\kb<=qb.size/\ka+kb<=ja+jb) (I:=λk v st'=> ∃(ka kb:Nat) (out:En->Array Keyed) (mg ac bc g':Nat),v=(λe=>(none,ka,kb,out e,mg,ac,bc))/\st'=sst q p g'/\Ar T out/\1<=ka/\ka<=qa.size/\2<=kb/\kb<=qb.size/\ka+kb<=ja+jb) ⟨ja,jb,out,_,ac,bc,_,rfl,rfl,ho,ja1,ja2,jb1,jb2,by lia⟩ ?_ (λb st h=> .inr h) ?_
   .rintro _ k b st ⟨ka,kb,out,mg,ac,bc,g2,rfl,rfl,ho,ka1,ka2,kb1,kb2,hp2⟩
    try dsimp only
    try erw[z2F]
    apply zfx
    .intro key
     refine W0 (c:=mg>1) (λ_=> ?_) (λ_=> ?_)
     rotate_left
     .generalize mg=z
      exact key z
     .exact key _
    .intro mm
     try dsimp only
     refine z41 (J4 (by lia) (z1D (by lia) (by lia) λk hk=> ?_))
     try dsimp only
     obtain⟨W,hW⟩: ∃W,ka -k=W:=⟨_,rfl⟩
     erw[hW]
     obtain⟨KA,hKA⟩: ∃KA,KA=ka:=⟨_,rfl⟩
     apply zbw (λa o=>Ar T o/\1<=a/\a<=KA)
     .intro key
      refine W0 (λk0=>W0 (λ_=>W5 (.inl ⟨_,_,_,rfl, ?_,rfl⟩)) λc1=> ?_) (λk0=> ?_)
      .walk_at "al"
      rotate_left
      .have r:Ar T out/\1<=ka/\ka<=KA:=⟨ho,ka1,by lia⟩
       revert r
       generalize out=z2
       generalize ka=z1
       intro r
       exact key z1 z2 r
      .erw[beq_iff_eq] at c1
       refine key _ _ ⟨?_,by lia,by lia⟩
       walk_at "al"
     .intro ka0 out0 r0
      obtain⟨ho0,ka01,ka02⟩:=r0
      try dsimp only
      refine J4 (by lia) ?_
      try dsimp only
      refine W0 (λ_=>W5 (.inl ⟨_,_,_,rfl, ?_,rfl⟩)) λc3=> ?_
      .walk_at "al"
      erw[beq_iff_eq] at c3
      refine J4 (by lia) (z1D (by lia) (by lia) λk' hk'=> ?_)
      try dsimp only
      refine W0 (λk1=>W0 (λ_=>W5 (.inl ⟨_,_,_,rfl, ?_,rfl⟩)) λc4=>W0 (λ_=>W5 (.inl ⟨_,_,_,rfl, ?_,rfl⟩)) λc6=> ?_) (λk1=> ?_)
      .walk_at "al"
      .walk_at "al"
      all_goals
       try erw[beq_iff_eq] at c4 c6
       refine J4 (by lia) ?_
       try dsimp only
       refine W0 (λ_=>W5 (.inl ⟨_,_,_,rfl, ?_,rfl⟩)) λc5=> ?_
       .walk_at "al"
       erw[beq_iff_eq] at c5
       erw[l9,decide_eq_true_eq]
       refine zbv ⟨_,_,_,_,_,_,_,rfl,rfl, ?_,by lia,by lia,by lia,by lia,by lia⟩
       walk_at "al"
   .rintro v st (⟨mq,b,g2,rfl,hm,rfl⟩|⟨ka,kb,out,mg,ac,bc,g2,rfl,rfl,ho,ka1,ka2,kb1,kb2,hp2⟩)
    .exact W5 ⟨_,_,_,rfl,hm,rfl⟩
    .try dsimp only
     exact z41 (W6 ⟨_,_,_,_,_,rfl,rfl,ho,ka1,ka2,kb1,kb2,by lia⟩)
 .rintro b st ⟨na,nb,out,mg,g',rfl,rfl,ho,na1,na2,nb1,nb2,hk⟩
  lia
 .rintro v st ⟨mq,b,g',rfl,hm,rfl⟩
  exact G6 (h _ _ hm)
variable{cmp:Nat->Nat->Bool}{α β:Type}{q:Array Nat}{p:Array (Nat×Nat×Nat)}{g:Nat}{T:Nat->Prop}{st:En->SortSt}
def zcY{i j:Nat}(h:Al T q):Al T (q.swapIfInBounds i j):=by
 rw[Array.swapIfInBounds_def]
 split
 .split
  .exact λk hk=>h k ((Array.Perm.mem_iff (Array.swap_perm _ _)).mp hk)
  .exact h
 .exact h
theorem z42(u v:Nat->Nat): ∀(l:List Nat) (q:Array Nat),Al T q->Al T (l.foldl (λa k=>a.swapIfInBounds (u k) (v k)) q)
 |[],_,h=>h
 |k::l,q,h=>z42 u v l _ (zcY h)
theorem z43(u v:Nat->Nat): ∀(l:List Nat) (q:Array Nat),(l.foldl (λa k=>a.swapIfInBounds (u k) (v k)) q).size=q.size
 |[],_=>rfl
 |k::l,q=>by
  show(l.foldl _ (q.swapIfInBounds (u k) (v k))).size=_
  rw[z43 u v l,Array.size_swapIfInBounds]
def z1E{i j k:Nat}(h:Al T q):Al T (cZ q i j k):=z42 (λk=>i+k) (λk=>j - 1 -k) _ q h
def K5{i j k:Nat}:(cZ q i j k).size=q.size:=z43 (λk=>i+k) (λk=>j - 1 -k) _ q
def zfG{i k:Nat}(h:Al T q):Al T (de q i k):=z42 (λk=>i -k) (λk=>i -k - 1) _ q h
def zfH{i k:Nat}:(de q i k).size=q.size:=z43 (λk=>i -k) (λk=>i -k - 1) _ q
theorem zbx{f:En->Nat->β->StateT SortSt dl (ForInStep β)}{I:Nat->(En->β)->(En->SortSt)->Prop}{Q:(En->β)->(En->SortSt)->Prop}{hi:Nat}(hb: ∀(x:Nat) (b:En->β) (st:En->SortSt),x<hi->I x b st->Det cmp (λe=>f e x (b e)) st λv st'=>(∃c,v=(λe=> .done (c e))/\Q c st')\/∃c,v=(λe=> .yield (c e))/\I (x+1) c st')(hf: ∀x b st,I x b st->Q b st):
 ∀(n lo:Nat) (b:En->β) (st:En->SortSt),lo+n<=hi->I lo b st->Det cmp (λe=>forIn (u0h lo n) (b e) (f e)) st Q
 |0,lo,b,st,_,h=>⟨b,st,hf lo b st h,λ_ _ _ _ _ _ _ s _ hg hq=>kasC_nil (hq s hg)⟩
 |n+1,lo,b,st,hl,h=>by
  obtain⟨v,st1,hp,h1⟩:=hb lo b st (by lia) h
  rcases hp with⟨c,rfl,hp⟩|⟨c,rfl,hp⟩
  .exact⟨c,st1,hp,λprog w A E e G Q s hc hg hq=>fv (h1 prog w A E e G _ s hc hg λs' hg'=>hq s' hg')⟩
  .obtain⟨c2,st2,hp2,h2⟩:=zbx hb hf n (lo+1) c st1 (by lia) hp
   exact⟨c2,st2,hp2,λprog w A E e G Q s hc hg hq=>fv (h1 prog w A E e G _ s hc hg λs' hg'=>h2 prog w A E e G Q s' hc hg' hq)⟩
def zfI{lo hi:Nat}{f:En->Nat->β->StateT SortSt dl (ForInStep β)}{b:En->β}(I:Nat->(En->β)->(En->SortSt)->Prop){Q:(En->β)->(En->SortSt)->Prop}(h0:I lo b st)(hb: ∀(x:Nat) (b:En->β) (st:En->SortSt),x<hi->I x b st->Det cmp (λe=>f e x (b e)) st λv st'=>(∃c,v=(λe=> .done (c e))/\Q c st')\/∃c,v=(λe=> .yield (c e))/\I (x+1) c st')(hf: ∀x b st,I x b st->Q b st):
 Det cmp (λe=>forIn [lo:hi] (b e) (f e)) st Q:=by
 by_cases hl:lo<=hi
 .obtain⟨v,st',hp,h⟩:=zbx (cmp:=cmp) (f:=f) (I:=I) (Q:=Q) hb hf (hi -lo) lo b st (by lia) h0
  exact⟨v,st',hp,λprog w A E e G Q s hc hg hq=>fX (h prog w A E e G Q s hc hg hq)⟩
 .refine⟨b,st,hf lo b st h0,λprog w A E e G Q s hc hg hq=>fX ?_⟩
  rw[show hi -lo=0 by lia]
  exact kasC_nil (hq s hg)
def z6u{lo nrem n m:Nat}{P:(En->Option Nat)->(En->SortSt)->Prop}(hf: ∀x m,f x (none,m)=ltAt' (lo+m) (lo+m - 1)>>=λo=>match o with|some b=>if b=true then pure (.done (none,m)) else pure (.yield (none,m+1))|_=>pure (.done (some none,m)))(hk: ∀m,k (none,m)=pure (some m))(hs:q.size=n)(hl:lo+nrem<=n)(m1:1<=m)(m2:m<=nrem)(h: ∀k,1<=k->k<=nrem->P (λ_=>some k) (sst q p g)):
 Det cmp (λ_=>forIn [m:nrem] ((none,m):Option (Option Nat)×Nat) f>>=k) (sst q p g) P:=by
 refine Z1 (z04 (P:=λv st'=> ∃m:Nat,v=(λ_=>(none,m))/\st'=sst q p g/\1<=m/\m<=nrem) (z24 (I:=λk v st'=> ∃m:Nat,v=(λ_=>(none,m))/\st'=sst q p g/\1<=m/\m+k=nrem) ⟨m,rfl,rfl,m1,by lia⟩ ?_ ?_) ?_)
 .rintro _ k b st ⟨m,rfl,rfl,m1,hm⟩
  erw[hf]
  refine Z1 (z2q (by lia) (by lia) ?_)
  try dsimp only
  exact W0 (λ_=>W5 ⟨m,rfl,rfl,m1,by lia⟩) λ_=>W6 ⟨m+1,rfl,rfl,by lia,by lia⟩
 .rintro b st ⟨m,rfl,rfl,m1,hm⟩
  exact⟨m,rfl,rfl,m1,by lia⟩
 .rintro v st ⟨m,rfl,rfl,m1,m2⟩
  erw[hk]
  exact G6 (h m m1 m2)
def zje{lo nrem n:Nat}{P:(En->Option Nat)->(En->SortSt)->Prop}(ha:Al T q)(hs:q.size=n)(hl:lo+nrem<=n)(h1:1<=nrem)(h: ∀k q',1<=k->k<=nrem->Al T q'->q'.size=n->P (λ_=>some k) (sst q' p g)):
 Det cmp (λ_=>countRun' lo nrem) (sst q p g) P:=by
 refine Z1 (z04 (P:=λv st'=> ∃m:Nat,v=(λ_=>(none,m))/\st'=sst q p g/\1<=m/\m<=nrem) (z24 (I:=λk v st'=> ∃m:Nat,v=(λ_=>(none,m))/\st'=sst q p g/\1<=m/\m+k=nrem) ⟨1,rfl,rfl,b9 _,by lia⟩ ?_ ?_) ?_)
 .rintro _ k b st ⟨m,rfl,rfl,m1,hm⟩
  refine Z1 (z2q (by lia) (by lia) ?_)
  try dsimp only
  exact W0 (λ_=>W5 ⟨m,rfl,rfl,m1,by lia⟩) λ_=>W6 ⟨m+1,rfl,rfl,by lia,by lia⟩
 .rintro b st ⟨m,rfl,rfl,m1,hm⟩
  exact⟨m,rfl,rfl,m1,by lia⟩
 rintro v st ⟨m,rfl,rfl,m1,m2⟩
 try dsimp only
 refine W0 (λ_=>G6 (h m q m1 m2 ha hs)) λc1=> ?_
 erw[beq_iff_eq] at c1
 have m3:m<nrem:=by lia
 clear c1 m2
 refine W0 (λc2=> ?_) λc2=> ?_
 .refine Z1 (z2q (by lia) (by lia) ?_)
  try dsimp only
  refine W0 (λ_=>G6 (h m q m1 (by lia) ha hs)) λc3=> ?_
  refine Z1 (z3Z ?_)
  have ha:=z1E (i:=lo) (j:=lo+m) (k:=(lo+m -lo)/2) ha
  have hs:=(K5 (i:=lo) (j:=lo+m) (k:=(lo+m -lo)/2)).trans hs
  generalize cZ q lo (lo+m) ((lo+m -lo)/2)=q at ha hs⊢
  refine Z1 (z84 ?_)
  refine Z1 (z04 (P:=λv st'=> ∃(m z:Nat) (q:Array Nat),v=(λ_=>(none,m,z))/\st'=sst q p g/\1<=m/\m<=nrem/\Al T q/\q.size=n) (z24 (I:=λk v st'=> ∃(m z:Nat) (q:Array Nat),v=(λ_=>(none,m,z))/\st'=sst q p g/\1<=m/\m+k=nrem/\Al T q/\q.size=n) ⟨m+1,0,q,rfl,rfl,by lia,by lia,ha,hs⟩ ?_ ?_) ?_)
  .rintro _ k b st ⟨m,z,q,rfl,rfl,m1,hm,ha,hs⟩
   try dsimp only
   refine Z1 (z2q (by lia) (by lia) ?_)
   try dsimp only
   refine W0 (λ_=> ?_) λ_=> ?_
   .refine W0 (λ_=>Z1 (z3Z (W6 ⟨m+1,0,_,rfl,rfl,by lia,by lia,z1E ha,K5.trans hs⟩))) λ_=>W6 ⟨m+1,0,_,rfl,rfl,by lia,by lia,ha,hs⟩
   .refine Z1 (z2q (by lia) (by lia) ?_)
    try dsimp only
    exact W0 (λ_=>W5 ⟨m,z,_,rfl,rfl,m1,by lia,ha,hs⟩) λ_=>W6 ⟨m+1,_,_,rfl,rfl,by lia,by lia,ha,hs⟩
  .rintro b st ⟨m,z,q,rfl,rfl,m1,hm,ha,hs⟩
   exact⟨m,z,q,rfl,rfl,m1,by lia,ha,hs⟩
  rintro v st ⟨m,z,q,rfl,rfl,m1,m2,ha,hs⟩
  try dsimp only
  refine W0 (λ_=>Z1 (z3Z ?_)) λ_=> ?_
  .refine Z1 (z3Z ?_)
   exact z6u (λ_ _=>rfl) (λ_=>rfl) (K5.trans (K5.trans hs)) hl m1 m2 λk k1 k2=>h k _ k1 k2 (z1E (z1E ha)) (K5.trans (K5.trans hs))
  .refine Z1 (z3Z ?_)
   exact z6u (λ_ _=>rfl) (λ_=>rfl) (K5.trans hs) hl m1 m2 λk k1 k2=>h k _ k1 k2 (z1E ha) (K5.trans hs)
 .refine Z1 (z84 ?_)
  refine Z1 (z04 (P:=λv st'=> ∃(m z:Nat) (q:Array Nat),v=(λ_=>(none,m,z))/\st'=sst q p g/\1<=m/\m<=nrem/\Al T q/\q.size=n) (z24 (I:=λk v st'=> ∃(m z:Nat) (q:Array Nat),v=(λ_=>(none,m,z))/\st'=sst q p g/\1<=m/\m+k=nrem/\Al T q/\q.size=n) ⟨m+1,0,q,rfl,rfl,by lia,by lia,ha,hs⟩ ?_ ?_) ?_)
  .rintro _ k b st ⟨m,z,q,rfl,rfl,m1,hm,ha,hs⟩
   try dsimp only
   refine Z1 (z2q (by lia) (by lia) ?_)
   try dsimp only
   refine W0 (λ_=> ?_) λ_=> ?_
   .refine W0 (λ_=>Z1 (z3Z (W6 ⟨m+1,0,_,rfl,rfl,by lia,by lia,z1E ha,K5.trans hs⟩))) λ_=>W6 ⟨m+1,0,_,rfl,rfl,by lia,by lia,ha,hs⟩
   .refine Z1 (z2q (by lia) (by lia) ?_)
    try dsimp only
    exact W0 (λ_=>W5 ⟨m,z,_,rfl,rfl,m1,by lia,ha,hs⟩) λ_=>W6 ⟨m+1,_,_,rfl,rfl,by lia,by lia,ha,hs⟩
  .rintro b st ⟨m,z,q,rfl,rfl,m1,hm,ha,hs⟩
   exact⟨m,z,q,rfl,rfl,m1,by lia,ha,hs⟩
  rintro v st ⟨m,z,q,rfl,rfl,m1,m2,ha,hs⟩
  try dsimp only
  refine W0 (λ_=>Z1 (z3Z ?_)) λ_=> ?_
  .refine Z1 (z3Z ?_)
   exact z6u (λ_ _=>rfl) (λ_=>rfl) (K5.trans (K5.trans hs)) hl m1 m2 λk k1 k2=>h k _ k1 k2 (z1E (z1E ha)) (K5.trans (K5.trans hs))
  .refine Z1 (z3Z ?_)
   exact z6u (λ_ _=>rfl) (λ_=>rfl) (K5.trans hs) hl m1 m2 λk k1 k2=>h k _ k1 k2 (z1E ha) (K5.trans hs)
end So
set_option linter.unusedVariables false
namespace So
open PySem PySem.W PyProof.Rows
variable{cmp:Nat->Nat->Bool}{α β:Type}{q:Array Nat}{p:Array (Nat×Nat×Nat)}{g:Nat}{T:Nat->Prop}{st:En->SortSt}
def zjf{lo n ok N:Nat}{P:(En->Bool)->(En->SortSt)->Prop}(ha:Al T q)(hs:q.size=N)(hl:lo+n<=N)(h: ∀q',Al T q'->q'.size=N->P (λ_=>true) (sst q' p g)):
 Det cmp (λ_=>binarySort' lo n ok) (sst q p g) P:=by
 refine Z1 (z04 (P:=λv st'=> ∃q:Array Nat,v=(λ_=>(none,()))/\st'=sst q p g/\Al T q/\q.size=N) (zfI (I:=λk v st'=> ∃q:Array Nat,v=(λ_=>(none,()))/\st'=sst q p g/\Al T q/\q.size=N) ⟨q,rfl,rfl,ha,hs⟩ ?_ λ_ _ _ h=>h) ?_)
 .rintro k b st hk ⟨q,rfl,rfl,ha,hs⟩
  try dsimp only
  refine Z1 (z04 (P:=λv st'=> ∃l r:Nat,v=(λ_=>(none,l,r))/\st'=sst q p g) (z24 (I:=λ_ v st'=> ∃l r:Nat,v=(λ_=>(none,l,r))/\st'=sst q p g/\r<=k) ⟨0,k,rfl,rfl,b9 _⟩ ?_ ?_) ?_)
  .rintro _ _ b st ⟨l,r,rfl,rfl,hr⟩
   try dsimp only
   refine W0 (λ_=>W5 ⟨l,r,rfl,rfl⟩) λc=>Z1 (z2q (by lia) (by lia) ?_)
   try dsimp only
   exact W0 (λ_=>W6 ⟨_,_,rfl,rfl,by lia⟩) λ_=>W6 ⟨_,_,rfl,rfl,hr⟩
  .rintro b st ⟨l,r,rfl,rfl,_⟩
   exact⟨l,r,rfl,rfl⟩
  .rintro v st ⟨l,r,rfl,rfl⟩
   try dsimp only
   exact Z1 (zfv (W6 ⟨_,rfl,rfl,zfG ha,zfH.trans hs⟩))
 .rintro v st ⟨q,rfl,rfl,ha,hs⟩
  exact G6 (h q ha hs)
def Ch:Nat->List (Nat×Nat×Nat)->Nat->Prop
 |a,[],b=>a=b
 |a,r::l,b=>r.1=a/\1<=r.2.1/\Ch (a+r.2.1) l b
theorem zfJ: ∀{l:List (Nat×Nat×Nat)} {a b:Nat},Ch a l b->a<=b
 |[],_,_,h=>S5 h
 |r::l,a,b,h=>C1 (T4 _ _) (zfJ h.2.2)
theorem z86: ∀{l:List (Nat×Nat×Nat)} {a b n w:Nat},Ch a l b->1<=n->Ch a (l++[(b,n,w)]) (b+n)
 |[],a,b,n,w,h,hn=>by cases(show a=b from h);exact⟨rfl,hn,rfl⟩
 |r::l,a,b,n,w,h,hn=>⟨h.1,h.2.1,z86 h.2.2 hn⟩
theorem zby: ∀{l:List (Nat×Nat×Nat)} {a b i:Nat} {x y:Nat×Nat×Nat},Ch a l b->l[i]? =some x->l[i+1]? =some y->y.1=x.1+x.2.1/\1<=x.2.1/\1<=y.2.1/\y.1+y.2.1<=b/\∀w,Ch a ((l.set i (x.1,x.2.1+y.2.1,w)).eraseIdx (i+1)) b
 |[],_,_,_,_,_,_,h,_=>by simp at h
 |[_],_,_,0,_,_,_,_,h=>by simp at h
 |[_],_,_,_+1,_,_,_,h,_=>by simp at h
 |u::v::l,a,b,0,x,y,hc,hx,hy=>by
  erw[List.getElem?_cons_zero,Option.some.injEq] at hx
  erw[N8,List.getElem?_cons_succ,List.getElem?_cons_zero,Option.some.injEq] at hy
  subst hx hy
  obtain⟨h1,h2,h3,h4,h5⟩:=hc
  refine⟨by lia,h2,h4,by have:=zfJ h5;lia,λw=> ?_⟩
  erw[C3,N8,P1,List.eraseIdx_cons_zero]
  refine⟨h1,by show 1<=_+_;lia, ?_⟩
  show Ch (a+(u.2.1+v.2.1)) l b
  rw[<-F6];exact h5
 |u::v::l,a,b,i+1,x,y,hc,hx,hy=>by
  erw[List.getElem?_cons_succ] at hx hy
  obtain⟨q1,q2,q3,q4,q5⟩:=zby hc.2.2 hx hy
  refine⟨q1,q2,q3,q4,λw=> ?_⟩
  rw[C4,P1]
  exact⟨hc.1,hc.2.1,q5 w⟩
theorem zbz(hf: ∀x,(f x).1=x.1/\(f x).2.1=x.2.1): ∀{l:List (Nat×Nat×Nat)} {a b:Nat} (i:Nat),Ch a l b->Ch a (l.modify i f) b
 |[],_,_,i,h=>by rw[List.modify_nil];exact h
 |r::l,a,b,0,h=>by
  rw[List.modify_zero_cons]
  exact⟨(hf r).1.trans h.1,by rw[(hf r).2];exact h.2.1,by rw[(hf r).2];exact h.2.2⟩
 |r::l,a,b,i+1,h=>by
  rw[List.modify_succ_cons]
  exact⟨h.1,h.2.1,zbz hf i h.2.2⟩
theorem z87(sa:Nat)(e:En): ∀(m:List Nat) (j:Nat) (q:Array Nat),((m.map λi=>im i e).zipIdx j).foldl (λa x=>match x with|(p,j)=>a.setIfInBounds (sa+j) p) (ar q e)=ar ((m.zipIdx j).foldl (λa x=>match x with|(p,j)=>a.setIfInBounds (sa+j) p) q) e
 |[],_,_=>rfl
 |i::m,j,q=>by
  rw[b8,P2,P2,F8,F8]
  have:(ar q e).setIfInBounds (sa+j) (im i e)=ar (q.setIfInBounds (sa+j) i) e:=by simp[ar,Array.map_setIfInBounds]
  dsimp only
  rw[this]
  exact z87 sa e m (j+1) _
def zfK{i x:Nat}(h:Al T q)(hx:T x):Al T (q.setIfInBounds i x):=λk hk=>by
 rcases Array.mem_or_eq_of_mem_setIfInBounds hk with hk|rfl
 .exact h k hk
 .exact hx
theorem z88(sa:Nat): ∀(m:List Nat) (j:Nat) (q:Array Nat),(∀i∈m,T i)->Al T q->Al T ((m.zipIdx j).foldl (λa x=>match x with|(p,j)=>a.setIfInBounds (sa+j) p) q)/\((m.zipIdx j).foldl (λa x=>match x with|(p,j)=>a.setIfInBounds (sa+j) p) q).size=q.size
 |[],_,_,_,h=>⟨h,rfl⟩
 |i::m,j,q,hm,h=>by
  rw[P2,F8]
  obtain⟨h1,h2⟩:=z88 sa m (j+1) (q.setIfInBounds (sa+j) i) (λk hk=>hm k (b7 _ hk)) (zfK h (hm i c9))
  exact⟨h1,h2.trans Array.size_setIfInBounds⟩
variable{cmp:Nat->Nat->Bool}{α β:Type}{q:Array Nat}{p:Array (Nat×Nat×Nat)}{g:Nat}{T:Nat->Prop}{st:En->SortSt}
def z44:gc (sst q p g e)=p:=rfl
def zfL{i lo N:Nat}{P:(En->Bool)->(En->SortSt)->Prop}(ha:Al T q)(hs:q.size=N)(hc:Ch 0 p.toList lo)(hl:lo<=N)(hi:i+1<p.size)(h: ∀q' p' g',Al T q'->q'.size=N->Ch 0 p'.toList lo->P (λ_=>true) (sst q' p' g')):
 Det cmp (λ_=>mergeAt' i) (sst q p g) P:=by
 refine Z1 (zan ?_)
 obtain⟨x,hx⟩: ∃x,p[i]? =some x:=⟨p[i],Array.getElem?_eq_getElem (by lia)⟩
 obtain⟨y,hy⟩: ∃y,p[i+1]? =some y:=⟨p[i+1],Array.getElem?_eq_getElem hi⟩
 obtain⟨sa,na,pw⟩:=x
 obtain⟨sb,nb,pw'⟩:=y
 obtain⟨c1,c2,c3,c4,c5⟩:=zby hc (by rw[Array.getElem?_toList];exact hx) (by rw[Array.getElem?_toList];exact hy)
 dsimp only at c1 c2 c3 c4 c5
 have hp':Ch 0 ((p.setIfInBounds i (sa,na+nb,pw)).eraseIdxIfInBounds (i+1)).toList lo:=by
  have e:((p.setIfInBounds i (sa,na+nb,pw)).eraseIdxIfInBounds (i+1)).toList=(p.toList.set i (sa,na+nb,pw)).eraseIdx (i+1):=by simp
  rw[e];exact c5 pw
 have e1: ∀e,(gc (sst q p g e))[i]? =some (sa,na,pw):=λ_=>hx
 have e2: ∀e,(gc (sst q p g e))[i+1]? =some (sb,nb,pw'):=λ_=>hy
 erw[e1,e2]
 refine Z1 (zjb (a:=sst q ((p.setIfInBounds i (sa,na+nb,pw)).eraseIdxIfInBounds (i+1)) g) ?_)
 generalize (p.setIfInBounds i (sa,na+nb,pw)).eraseIdxIfInBounds (i+1)=p' at hp'⊢
 refine Z1 (z3v (q:=q) (by lia) ?_)
 refine Z1 (z40 (r:=q) (by lia) (by lia) λk hk=> ?_)
 try dsimp only
 refine W0 (λ_=>G6 (h _ _ _ ha hs hp')) λc6=> ?_
 erw[beq_iff_eq] at c6
 refine Z1 (z3v (q:=q) (by lia) ?_)
 refine Z1 (z40 (r:=q) (by lia) (by lia) λk2 hk2=> ?_)
 try dsimp only
 refine W0 (λ_=>G6 (h _ _ _ ha hs hp')) λc7=> ?_
 erw[beq_iff_eq] at c7
 have sx:(q.extract (sa+k) sb).size=na -k:=by rw[Array.size_extract];lia
 have sy:(q.extract sb (sb+k2)).size=k2:=by rw[Array.size_extract];lia
 have ex: ∀e,(fF (sst q p g e)).extract (sa+k) sb=ar (q.extract (sa+k) sb) e:=λe=>z85
 have ey: ∀e,(fF (sst q p g e)).extract sb (sb+k2)=ar (q.extract sb (sb+k2)) e:=λe=>z85
 erw[ex,ey]
 have fin: ∀(mq:Array Nat) (g':Nat),Al T mq->∀(f:En->SortSt->SortSt),(∀e,f e (sst q p' g' e)=SortSt.mk' e.1 ((ar mq e).toList.zipIdx.foldl (λa x=>match x with|(p,j)=>a.setIfInBounds (sa+k+j) p) (ar q e)) p' g' none)->Det cmp (λe=>(modify (f e):StateT SortSt dl PUnit)>>=λ_=>get>>=λs=>pure (dZ s).isNone) (sst q p' g') P:=by
  intro mq g' hm f hf
  obtain⟨h1,h2⟩:=z88 (T:=T) (sa+k) mq.toList 0 q (λi hi=>hm i (by simpa using hi)) ha
  refine Z1 (z1h ?_)
  have e3:(λe=>f e (sst q p' g' e))=sst ((mq.toList.zipIdx 0).foldl (λa x=>match x with|(p,j)=>a.setIfInBounds (sa+k+j) p) q) p' g':=by
   funext e
   rw[hf]
   delta sst
   have:(ar mq e).toList=mq.toList.map λi=>im i e:=by simp[ar]
   rw[this,z87]
  rw[e3]
  exact Z1 (zan (G6 (h _ _ _ h1 (h2.trans hs) hp')))
 refine W0 (λ_=> ?_) λ_=> ?_
 .refine Z1 (zjc (T:=T) (z4P ha) (z4P ha) (by lia) (by lia) λmq g' hm=> ?_)
  exact fin mq g' hm _ λe=>rfl
 .refine Z1 (zjd (T:=T) (z4P ha) (z4P ha) (by lia) (by lia) λmq g' hm=> ?_)
  exact fin mq g' hm _ λe=>rfl
variable{cmp:Nat->Nat->Bool}{α β:Type}{q:Array Nat}{p:Array (Nat×Nat×Nat)}{g:Nat}{T:Nat->Prop}{st:En->SortSt}
def zfM{c:Prop}{i:Decidable c}{n:Nat}(h:2<=n): @ite Nat c i (n - 2 - 1) (n - 2)+1<n:=by
 by_cases hc:c
 .rw[qy hc];lia
 .rw[qh hc];lia
def zfN{i:En->Nat}{lo N:Nat}{P:(En->Bool)->(En->SortSt)->Prop}(hE: ∀e e',i e=i e')(ha:Al T q)(hs:q.size=N)(hc:Ch 0 p.toList lo)(hl:lo<=N)(hi: ∀e,i e+1<p.size)(h: ∀q' p' g',Al T q'->q'.size=N->Ch 0 p'.toList lo->P (λ_=>true) (sst q' p' g')):
 Det cmp (λe=>mergeAt' (i e)) (sst q p g) P:=by
 have e0:i=λ_=>i (general', #[]):=funext λe=>hE e _
 rw[e0]
 exact zfL ha hs hc hl (hi _) h
def zfO{N:Nat}{P:(En->Unit)->(En->SortSt)->Prop}(ha:Al T q)(hs:q.size=N)(h: ∀q' p' g',Al T q'->q'.size=N->P (λ_=>()) (sst q' p' g')):
 Det cmp (λ_=>sortRuns') (sst q #[] g) P:=by
 refine z3w ?_
 have e0: ∀e,(fF (sst q #[] g e)).size=N:=λe=>z2F.trans hs
 erw[e0]
 refine Z1 (z04 (P:=λv st'=> ∃(lo:Nat) (q:Array Nat) (p:Array (Nat×Nat×Nat)) (g:Nat),v=(λ_=>(none,lo))/\st'=sst q p g/\Al T q/\q.size=N/\Ch 0 p.toList lo/\lo<=N) (z24 (I:=λ_ v st'=> ∃(lo:Nat) (q:Array Nat) (p:Array (Nat×Nat×Nat)) (g:Nat),v=(λ_=>(none,lo))/\st'=sst q p g/\Al T q/\q.size=N/\Ch 0 p.toList lo/\lo<=N) ⟨0,q, #[],g,rfl,rfl,ha,hs,rfl,B6 _⟩ ?_ λ_ _ h=>h) ?_)
 .rintro _ _ b st ⟨lo,q,p,g,rfl,rfl,ha,hs,hc,hl⟩
  try dsimp only
  refine W0 (λ_=>W5 ⟨lo,q,p,g,rfl,rfl,ha,hs,hc,hl⟩) λc1=> ?_
  refine Z1 (zje (T:=T) (n:=N) ha hs (by lia) (by lia) λk q k1 k2 ha hs=> ?_)
  try dsimp only
  have tail: ∀(n:Nat) (q:Array Nat) (p:Array (Nat×Nat×Nat)) (g:Nat),1<=n->lo+n<=N->Al T q->q.size=N->Ch 0 p.toList lo->∀(f:SortSt->SortSt),(∀e,f (sst q p g e)=SortSt.mk' e.1 (ar q e) (p.push (lo,n,0)) g none)->Det cmp (λ_=>(modify f:StateT SortSt dl PUnit)>>=λ_=>pure (ForInStep.yield ((none,lo+n):Option Unit×Nat))) (sst q p g) λv st'=>(∃c,v=(λe=> .done (c e))/\∃(lo:Nat) (q:Array Nat) (p:Array (Nat×Nat×Nat)) (g:Nat),c=(λ_=>(none,lo))/\st'=sst q p g/\Al T q/\q.size=N/\Ch 0 p.toList lo/\lo<=N)\/∃c,v=(λe=> .yield (c e))/\∃(lo:Nat) (q:Array Nat) (p:Array (Nat×Nat×Nat)) (g:Nat),c=(λ_=>(none,lo))/\st'=sst q p g/\Al T q/\q.size=N/\Ch 0 p.toList lo/\lo<=N:=by
   intro n q p g n1 n2 ha hs hc f hf
   refine Z1 (z1h ?_)
   erw[hf]
   exact W6 ⟨lo+n,q,p.push (lo,n,0),g,rfl,rfl,ha,hs,by rw[Array.toList_push];exact z86 hc n1,n2⟩
  apply zfw (λn q=>1<=n/\lo+n<=N/\Al T q/\q.size=N)
  .intro key
   refine W0 (λc2=> ?_) λc2=> ?_
   rotate_left
   .have r:1<=k/\lo+k<=N/\Al T q/\q.size=N:=⟨by lia,by lia,ha,hs⟩
    revert r
    generalize q=z2
    generalize k=z1
    intro r
    exact key z1 z2 r
   .refine z2G ?_
    refine Z1 (zjf (T:=T) (N:=N) ha hs (by lia) λq ha hs=> ?_)
    try dsimp only
    refine W0 (λc=>by cases c) λ_=> ?_
    exact key _ _ ⟨by lia,by lia,ha,hs⟩
  .intro n q r
   obtain⟨n1,n2,ha,hs⟩:=r
   refine z3w ?_
   erw[z44]
   cases hb:p.back? with
   |none=>exact tail _ q p g (by lia) (by lia) ha hs hc _ λe=>rfl
   |some x=>
    obtain⟨s1,n1,w⟩:=x
    try dsimp only
    refine Z1 (z04 (P:=λv st'=> ∃(q:Array Nat) (p:Array (Nat×Nat×Nat)) (g:Nat),v=(λ_=>(none,()))/\st'=sst q p g/\Al T q/\q.size=N/\Ch 0 p.toList lo) (z24 (I:=λ_ v st'=> ∃(q:Array Nat) (p:Array (Nat×Nat×Nat)) (g:Nat),v=(λ_=>(none,()))/\st'=sst q p g/\Al T q/\q.size=N/\Ch 0 p.toList lo) ⟨q,p,g,rfl,rfl,ha,hs,hc⟩ ?_ λ_ _ h=>h) ?_)
    .rintro _ _ b st ⟨q,p,g,rfl,rfl,ha,hs,hc⟩
     refine z3w ?_
     erw[z44]
     by_cases hp:p.size>1
     .have hp':(p.size>1)=True:=eq_true hp
      erw[hp',if_true]
      obtain⟨x,hx⟩: ∃x,p[p.size - 2]? =some x:=⟨p[p.size - 2],Array.getElem?_eq_getElem (by lia)⟩
      obtain⟨s1,n1,w⟩:=x
      erw[hx]
      refine W0 (λ_=>W5 ⟨q,p,g,rfl,rfl,ha,hs,hc⟩) λ_=> ?_
      refine Z1 (zfL (T:=T) (N:=N) ha hs hc hl (by lia) λq p g ha hs hc=> ?_)
      try dsimp only
      exact W0 (λc=>by cases c) λ_=>W6 ⟨q,p,g,rfl,rfl,ha,hs,hc⟩
     .have hp':(p.size>1)=False:=eq_false hp
      erw[hp',if_false]
      exact W5 ⟨q,p,g,rfl,rfl,ha,hs,hc⟩
    .rintro v st ⟨q,p,g,rfl,rfl,ha,hs,hc⟩
     try dsimp only
     refine Z1 (z1h ?_)
     exact tail _ q (p.modify (p.size - 1) λx=>(x.1,x.2.1,_)) g (by lia) (by lia) ha hs (by rw[Array.toList_modify];refine zbz ?_ _ hc;exact λx=>⟨rfl,rfl⟩) _ λe=>rfl
 .rintro v st ⟨lo,q,p,g,rfl,rfl,ha,hs,hc,hl⟩
  try dsimp only
  refine Z1 (z04 (P:=λv st'=> ∃(q:Array Nat) (p:Array (Nat×Nat×Nat)) (g:Nat),v=(λ_=>(none,()))/\st'=sst q p g/\Al T q/\q.size=N/\Ch 0 p.toList lo) (z24 (I:=λ_ v st'=> ∃(q:Array Nat) (p:Array (Nat×Nat×Nat)) (g:Nat),v=(λ_=>(none,()))/\st'=sst q p g/\Al T q/\q.size=N/\Ch 0 p.toList lo) ⟨q,p,g,rfl,rfl,ha,hs,hc⟩ ?_ λ_ _ h=>h) ?_)
  .rintro _ _ b st ⟨q,p,g,rfl,rfl,ha,hs,hc⟩
   refine z3w ?_
   erw[z44]
   refine W0 (λ_=>W5 ⟨q,p,g,rfl,rfl,ha,hs,hc⟩) λc1=> ?_
   refine Z1 (zfN (T:=T) (N:=N) (λ_ _=>rfl) ha hs hc hl (λe=> ?_) λq p g ha hs hc=> ?_)
   .exact zfM (by lia)
   try dsimp only
   exact W0 (λc=>by cases c) λ_=>W6 ⟨q,p,g,rfl,rfl,ha,hs,hc⟩
  .rintro v st ⟨q,p,g,rfl,rfl,ha,hs,hc⟩
   exact G6 (h q p g ha hs)
open PySem.SeqAt
open AutoSeq1 (wpAny_loadPart')
def zbA(A:bu)(s:be)(y x:bb)(b:Bool):Prop:=
 ∀(prog:bp) (w:br) (E:bb->be->Prop) (Q:bb->be->Prop),Q (.bool b) s->bm (bo prog w) A (richCompare .Lt y x) Q E s
def z5T(A:bu)(s:be):List bb->List bb->Bool->Prop
 |v::vs,u::us,r=> ∃e,EqAt A s v u e/\if e=true then z5T A s vs us r else zbA A s v u r
 |[],us,r=>r=decide (0<us.length)
 |_::_,[],r=>r=false
def zcZ: ∀{vs us:List bb} {r:Bool},vs.zip us=[]->z5T A s vs us r->r=decide (vs.length<us.length)
 |[],us,r,_,h=>h
 |v::vs,[],r,_,h=>by rw[show r=false from h];simp
def z73 l b items items2 n n2 dd dd2 sl sl2(r:Bool):
 Meets (Builtin.«tuple.__lt__» ⟨[.ref l, .ref b],[]⟩)
  (λA R s=>s.heap.get? l=some {cls:= .type "tuple",dict:=dd,data:= .seq items n,slots:=sl}/\s.heap.get? b=some {cls:= .type "tuple",dict:=dd2,data:= .seq items2 n2,slots:=sl2}/\
   z5T A.in1 s items.toList items2.toList r/\R (.ok (.ret (.bool r))) s):=
 .of_wp λprog w A R s h=>by
  obtain⟨hp,g,d,tk,os⟩:=s;obtain⟨hl,hb,he,h⟩:=h
  have f2:=AutoSeq1.sub_tuple_tuple
  wp_walk using wpAny_loadPart' hl,wpAny_loadPart' hb,cP _ (λrest b s'=>b.1=none/\s'=⟨hp,g,d,tk,os⟩/\∃vs us,rest=vs.zip us/\z5T A.in1 ⟨hp,g,d,tk,os⟩ vs us r/\(vs.length<us.length↔items.size<items2.size)) _
  case turn=>
   rintro ⟨y,x⟩ rest b s' ⟨hb',rfl,vs,us,hz,hR,hs⟩
   match vs,us,hz,hR with
   |v::vs,u::us,hz,hR=>
    rw[O3] at hz
    injection hz with h1 h2
    injection h1 with h3 h4
    subst h2 h3 h4
    obtain⟨e,q1,q2⟩:=hR
    refine ba (q1 prog w _ _ ?_)
    cases e with
    |true=>
     wp_walk
     exact⟨rfl,rfl,vs,us,rfl,q2,by simpa using hs⟩
    |false=>
     erw[C5,if_false] at q2
     erw[I0,if_true]
     refine ba (cC (ba (q2 prog w _ _ ?_)))
     exact ba (bf (bf (bf ⟨_,rfl,h⟩)))
   |[],_,hz,_=>simp at hz
   |_::_,[],hz,_=>simp at hz
  case fin=>
   rintro ⟨b1,b2⟩ s' ⟨hb',rfl,vs,us,hz,hR,hs⟩
   simp only at hb'
   subst hb'
   have:=zcZ hz.symm hR
   wp_walk
   refine⟨_,rfl, ?_⟩
   have e:r=decide (items.size<items2.size):=by rw[this];exact decide_eq_decide.mpr hs
   rw[e] at h
   exact h
  case h=>
   exact⟨rfl,rfl,_,_,rfl,he,by simp⟩
def zbA.int a b(t u:Tok):zbA A s (.int a t) (.int b u) (decide (a<b)):=λprog w E Q h=>wpAny_lt_int h
def zbA.tuples{A:bu}{s:be}{items items2:Array bb}{r:Bool}(hl:s.heap.IsTuple l items)(hb:s.heap.IsTuple b items2)(hu:A.units<cLine)(he:z5T A.in1 s items.toList items2.toList r):zbA A s (.ref l) (.ref b) r:=λprog w E Q h=>by
 obtain⟨⟨cls,dd,data,sl⟩,ho,hc,n,hd⟩:=id hl
 obtain⟨⟨cls2,dd2,data2,sl2⟩,ho2,hc2,n2,hd2⟩:=id hb
 simp only at hc hd hc2 hd2
 subst hc hd hc2 hd2
 exact richCompare_meets_room (op:= .Lt) ⟨_,ho,rfl⟩ ⟨_,ho2,rfl⟩ F.slot_tuple_lt F.entry_tuple_lt (F.args_tuple_lt_2 _ _) (z73 l b items items2 n n2 dd dd2 sl sl2 r)
  ⟨ho,ho2,he,show Value.bool r≠Value.notImplemented/\Q (.bool r) s from⟨(λx=>nomatch x),h⟩⟩ hu
mutual
noncomputable def ltD:bX->bX->Option Bool
 | .int a, .int b=>some (decide (a<b))
 | .tuple xs, .tuple ys=>ltL xs ys
 |_,_=>none
noncomputable def ltL:List bX->List bX->Option Bool
 |x::xs,y::ys=>if PyData.eqv x y=true then ltL xs ys else ltD x y
 |[],ys=>some (decide (0<ys.length))
 |_::_,[]=>some false
end
mutual
theorem zap: ∀(da db:bX) (A:bu) (s:be) (a b:bb) (as bs:List Addr) (r:Bool),gm s.heap a da as->gm s.heap b db bs->da.canLay0=true->db.canLay0=true->A.units+min da.depth db.depth<cLine->ltD da db=some r->zbA A s a b r
 | .int x,_,A,s,_,_,_,_,r,ra,rb,_,_,_,h=>by
  cases ra with
  |int _ t=>
   cases rb with
   |int y u=>
    erw[ltD,Option.some.injEq] at h
    subst h
    exact zbA.int _ _ _ _
   |_=>simp[ltD] at h
 | .tuple xs,_,A,s,_,_,_,_,r,ra,rb,ha,hb,hu,h=>by
  cases ra with
  | @tuple l o vs n _ as₁ h1 h2 h3 h4=>
   cases rb with
   | @tuple l' o' vs' n' ys as' k1 k2 k3 k4=>
    have ha:PyData.canLayAll0 xs=true:=by simpa[PyData.canLay0] using ha
    have hb:PyData.canLayAll0 ys=true:=by simpa[PyData.canLay0] using hb
    erw[ltD] at h
    exact zbA.tuples ⟨_,h1,h2,_,h3⟩ ⟨_,k1,k2,_,k3⟩ (room_here hu) (lex_reads xs ys A.in1 s _ _ _ _ r h4 k4 ha hb (room_in hu) h)
   |_=>simp[ltD] at h
 | .none,_,A,s,_,_,_,_,r,ra,rb,ha,hb,hu,h=>by simp[ltD] at h
 | .bool _,_,A,s,_,_,_,_,r,ra,rb,ha,hb,hu,h=>by simp[ltD] at h
 | .str _,_,A,s,_,_,_,_,r,ra,rb,ha,hb,hu,h=>by simp[ltD] at h
 | .list _,_,A,s,_,_,_,_,r,ra,rb,ha,hb,hu,h=>by simp[ltD] at h
 | .dict _,_,A,s,_,_,_,_,r,ra,rb,ha,hb,hu,h=>by simp[ltD] at h
theorem lex_reads: ∀(xs ys:List bX) (A:bu) (s:be) (vs ws:List bb) (as bs:List Addr) (r:Bool),dt s.heap vs xs as->dt s.heap ws ys bs->PyData.canLayAll0 xs=true->PyData.canLayAll0 ys=true->
 A.units+min (PyData.depthAll xs) (PyData.depthAll ys)<cLine->ltL xs ys=some r->z5T A s vs ws r
 |[],ys,A,s,vs,ws,_,_,r,ra,rb,_,_,_,h=>by
  cases ra
  erw[ltL,Option.some.injEq] at h
  subst h
  show _=decide (0<ws.length)
  have e: ∀{ws:List bb} {ys:List bX} {bs:List Addr},dt s.heap ws ys bs->ws.length=ys.length:=λ{ws}=>by
   induction ws with
   |nil=>intro ys bs q;cases q;rfl
   |cons v vs ih=>intro ys bs q;cases q with|cons q1 q2=>rw[l8,l8,ih q2]
  rw[e rb]
 |_::_,[],A,s,vs,ws,_,_,r,ra,rb,_,_,_,h=>by
  cases rb
  cases ra
  erw[ltL,Option.some.injEq] at h
  exact h.symm
 |x::xs,y::ys,A,s,_,_,_,_,r,ra,rb,ha,hb,hu,h=>by
  have ha':x.canLay0=true/\PyData.canLayAll0 xs=true:=by simpa[PyData.canLayAll0] using ha
  have hb':y.canLay0=true/\PyData.canLayAll0 ys=true:=by simpa[PyData.canLayAll0] using hb
  cases ra with
  |cons r1 rs=>
  cases rb with
  |cons r1' rs'=>
   refine⟨PyData.eqv x y,eqAt_reads x y A s _ _ _ _ r1 r1' ha'.1 hb'.1 (room_head hu), ?_⟩
   rw[ltL] at h
   split
   .rename_i e
    rw[qy e] at h
    exact lex_reads xs ys A s _ _ _ _ r rs rs' ha'.2 hb'.2 (room_tail hu) h
   .rename_i e
    rw[qh e] at h
    exact zap x y A s _ _ _ _ r r1 r1' ha'.1 hb'.1 (room_head hu) h
end
def hdI:bX->Bool
 | .tuple (.int _::_)=>true
 |_=>false
def hd_int(h:hdI d=true): ∃i xs,d= .tuple (.int i::xs):=by
 cases d with
 |tuple xs=>
  cases xs with
  |nil=>simp[hdI] at h
  |cons x xs=>cases x<;>first|exact⟨_,_,rfl⟩|simp[hdI] at h
 |_=>simp[hdI] at h
theorem zbB{b fin:Bool}{Q:Bool->be->Prop}: ∀(vs us:List bb) (i:Nat) (r:Bool),0<i->z5T A s vs us r->fin=decide (vs.length<us.length)->Q r s->KatLex prog w A b fin Q (vs.zip us) i s
 |[],us,i,r,hi,h,hf,q=>by
  have:r=decide (0<us.length):=h
  subst hf
  rw[List.zip_nil_left]
  exact kat_nil (by rw[this] at q;exact q)
 |_::_,[],i,r,hi,h,hf,q=>by
  have:r=false:=h
  subst hf
  rw[List.zip_nil_right]
  exact kat_nil (by rw[this] at q;simpa using q)
 |v::vs,u::us,i,r,hi,h,hf,q=>by
  rw[O3]
  obtain⟨e,h1,h2⟩:=h
  refine kat_cons (h1 prog w _ _ ?_)
  cases e with
  |true=>exact kat_yes (zbB vs us (i+1) r (by lia) h2 (by simpa using hf) q)
  |false=>
   refine kat_no ?_
   rw[show(b&&i==0)=false by simp;lia]
   exact kat_one v u (h2 prog w _ _ q)
def key_lt{prog:bp}{w:br}{A:bu}{E:bb->be->Prop}{Q:Bool->be->Prop}{s:be}{dx dy:bX}{r:Bool}(rx:gm s.heap x dx as)(ry:gm s.heap y dy bs)(hx:dx.canLay0=true)(hy:dy.canLay0=true)(ix:hdI dx=true)(iy:hdI dy=true)(hu:A.units+min dx.depth dy.depth<cLine)(hr:ltD dx dy=some r)(q:Q r s):
 bm (bo prog w) A (keyLt' (tuples' true) x y) Q E s:=by
 obtain⟨i,xs,rfl⟩:=hd_int ix
 obtain⟨j,ys,rfl⟩:=hd_int iy
 .skip
  cases rx with
  | @tuple l o vs n _ as₁ h1 h2 h3 h4=>
  cases ry with
  | @tuple l' o' vs' n' _ as' k1 k2 k3 k4=>
   have ha:PyData.canLayAll0 (.int i::xs)=true:=by simpa[PyData.canLay0] using hx
   have hb:PyData.canLayAll0 (.int j::ys)=true:=by simpa[PyData.canLay0] using hy
   refine kat_lt h1 h3 k1 k3 ?_
   generalize hv:vs.toList=us at h4
   generalize hv':vs'.toList=us' at k4
   have sz:decide (vs.size<vs'.size)=decide (us.length<us'.length):=by rw[<-hv,<-hv'];simp
   rw[sz]
   erw[ltD] at hr
   cases h4 with
   |cons r1 r2=>
   cases k4 with
   |cons q1 q2=>
    cases r1 with|int _ t=>
    cases q1 with|int _ t'=>
    rw[O3]
    refine kat_cons ((eqAt_reads (.int i) (.int j) A s _ _ _ _ (.int i t) (.int j t') rfl rfl (room_here hu)) prog w _ _ ?_)
    rw[ltL] at hr
    split at hr
    .rename_i e
     rw[e]
     refine kat_yes (zbB _ _ 1 r (by lia) (lex_reads xs ys A s _ _ _ _ r r2 q2 (by simpa[PyData.canLayAll0,PyData.canLay0] using ha) (by simpa[PyData.canLayAll0,PyData.canLay0] using hb) ?_ hr) (by simp) q)
     erw[PyData.depth,PyData.depthAll] at hu
     lia
    .rename_i e
     rw[Bool.not_eq_true] at e
     rw[e]
     refine kat_no ?_
     erw[C0,beq_self_eq_true]
     erw[ltD,Option.some.injEq] at hr
     subst hr
     exact oneLt_int q
variable{cmp:Nat->Nat->Bool}{n:Nat}{α β:Type}
noncomputable def ev(cmp:Nat->Nat->Bool):KasT α->α
 | .ret a=>a
 | .ask i j k=>ev cmp (k (cmp i j))
def KW(cmp:Nat->Nat->Bool)(n:Nat):KasT α->(α->Prop)->Prop
 | .ret a,P=>P a
 | .ask i j k,P=>i<n/\j<n/\KW cmp n (k (cmp i j)) P
theorem KW.ev{P:α->Prop}: ∀{t:KasT α},KW cmp n t P->P (So.ev cmp t)
 | .ret _,h=>h
 | .ask i j k,h=>KW.ev (t:=k (cmp i j)) h.2.2
theorem KW.bind{P:β->Prop}: ∀{t:KasT α},KW cmp n t (λa=>KW cmp n (f a) P)->KW cmp n (t.bind f) P
 | .ret _,h=>h
 | .ask i j k,h=>⟨h.1,h.2.1,KW.bind (t:=k (cmp i j)) h.2.2⟩
theorem KW.mono{P P':α->Prop}(hp: ∀a,P a->P' a): ∀{t:KasT α},KW cmp n t P->KW cmp n t P'
 | .ret _,h=>hp _ h
 | .ask i j k,h=>⟨h.1,h.2.1,KW.mono hp (t:=k (cmp i j)) h.2.2⟩
def Pm(n:Nat)(p:Array Nat):Prop:=p.Perm (B3 n).toArray
def Pm.size{p:Array Nat}(h:Pm n p):p.size=n:=by have:=h.size_eq;simpa using this
def Pm.lt{p:Array Nat}(h:Pm n p){i:Nat}(hi:i<n):p.getD i 0<n:=by
 have hs:=h.size
 have hi':i<p.size:=by lia
 have e:p.getD i 0=p[i]:=by simp[Array.getD,hi']
 rw[e]
 have:=(h.mem_iff (a:=p[i])).mp (Array.getElem_mem hi')
 simpa using this
def Pm.rev{p:Array Nat}(h:Pm n p)(i j:Nat):Pm n (kas_rev p i j):=(mirror_perm _ _ _ _).trans h
def Pm.bub{p:Array Nat}(h:Pm n p)(i j:Nat):Pm n (de p i j):=(bubble_perm _ _ _).trans h
theorem zd0{p:Array Nat}(hp:Pm n p): ∀(f m:Nat),1<=m->m+f<=n->KW cmp n (kas_asc p f m) λr=>m<=r/\r<=m+f
 |0,m,_,_=>⟨b9 _,b9 _⟩
 |f+1,m,h1,h2=>by
  refine⟨hp.lt (by lia),hp.lt (by lia), ?_⟩
  dsimp only
  split
  .exact⟨b9 _,by lia⟩
  .exact KW.mono (λr hr=>⟨by lia,by lia⟩) (zd0 hp f (m+1) (by lia) (by lia))
theorem zbC: ∀(f:Nat) (p:Array Nat) (m q:Nat),Pm n p->q+1<=m->m+f<=n->
 KW cmp n (kas_desc f p m q) λr=>Pm n r.1/\m<=r.2.1/\r.2.1<=m+f
 |0,p,m,q,hp,hq,hm=>⟨hp,b9 _,b9 _⟩
 |f+1,p,m,q,hp,hq,hm=>by
  have go: ∀(p:Array Nat) (q:Nat),Pm n p->q+1<=m+1->KW cmp n (kas_desc f p (m+1) q) λr=>Pm n r.1/\m<=r.2.1/\r.2.1<=m+(f+1):=λp q hp hq=>
   KW.mono (λr hr=>⟨hr.1,by lia,by lia⟩) (zbC f p (m+1) q hp (by lia) (by lia))
  refine⟨hp.lt (by lia),hp.lt (by lia), ?_⟩
  dsimp only
  split
  .split
   .exact go _ _ (hp.rev _ _) (by lia)
   .exact go _ _ hp (by lia)
  .refine⟨hp.lt (by lia),hp.lt (by lia), ?_⟩
   dsimp only
   split
   .exact⟨hp,b9 _,T4 _ _⟩
   .exact go _ _ hp (by lia)
def Cnt(n:Nat)(r:Nat×Array Nat):Prop:=Pm n r.2/\1<=r.1/\r.1<=n
def zbD{p:Array Nat}{m:Nat}(hp:Pm n p)(h1:1<=m)(hm:m<=n):KW cmp n (kas_tail3 m n p) (Cnt n):=by
 refine KW.bind (KW.mono (λr hr=> ?_) (zd0 (hp.rev 0 m) (n -m) m h1 (by lia)))
 exact⟨hp.rev _ _,by show 1<=r;lia,by show r<=n;lia⟩
def z89{p:Array Nat}{m:Nat}(hp:Pm n p)(h1:1<=m)(hm:m+1<=n):KW cmp n (kas_descPart m n p) (Cnt n):=by
 refine KW.bind (KW.mono (λr hr=> ?_) (zbC (n -(m+1)) p (m+1) 0 hp (by lia) (by lia)))
 obtain⟨a,b,c⟩:=hr
 split
 .exact zbD (a.rev _ _) (by lia) (by lia)
 .exact zbD a (by lia) (by lia)
def zd1{p:Array Nat}(hp:Pm n p)(h1:1<=n):KW cmp n (kas_count n p) (Cnt n):=by
 refine KW.bind (KW.mono (λr hr=> ?_) (zd0 hp (n - 1) 1 (b9 _) (by lia)))
 obtain⟨a,b⟩:=hr
 by_cases hn:r=n
 .rw[qy (by simpa using hn)]
  exact⟨hp,a,by lia⟩
 .rw[qh (by simpa using hn)]
  by_cases h2:r>1
  .rw[qy h2]
   refine⟨hp.lt (by lia),hp.lt (by lia), ?_⟩
   dsimp only
   split
   .exact⟨hp,a,by lia⟩
   .exact z89 (hp.rev _ _) a (by lia)
  .rw[qh h2]
   exact z89 hp a (by lia)
theorem z5U{p:Array Nat}{k:Nat}(hp:Pm n p)(hk:k<n): ∀(f l r:Nat),l<=r->r<=k->KW cmp n (kas_place p k f l r) λ_=>True
 |0,l,r,_,_=>trivial
 |f+1,l,r,hlr,hrk=>by
  unfold kas_place
  split
  .exact trivial
  .refine⟨hp.lt hk,hp.lt (by lia), ?_⟩
   dsimp only
   split
   .exact z5U hp hk f l ((l+r)/2) (by lia) (by lia)
   .exact z5U hp hk f ((l+r)/2+1) r (by lia) hrk
theorem zfP: ∀(f:Nat) (p:Array Nat) (k:Nat),Pm n p->k+f<=n->KW cmp n (kas_bin f p k) (Pm n)
 |0,p,k,hp,_=>hp
 |f+1,p,k,hp,hk=>KW.bind (KW.mono (λ_ _=>zfP f _ (k+1) (hp.bub _ _) (by lia)) (z5U hp (by lia) k 0 k (B6 _) (b9 _)))
def zbE(h:1<=n):KW cmp n (fc n) λq=>Pm n q/\True:=by
 refine KW.bind (KW.mono (λr hr=> ?_) (zd1 (Array.Perm.refl _) h))
 obtain⟨a,b,c⟩:=hr
 split
 .exact KW.mono (λq hq=>⟨hq,trivial⟩) (zfP _ _ _ a (by lia))
 .exact⟨a,trivial⟩
theorem zfQ{α:Type}{n:Nat}{G:be->Prop}{P:α->Prop}(hc: ∀i j C s,i<n->j<n->G s->(∀s',G s'->C (cmp i j) s')->gj prog w A κ it i j C s): ∀{t:KasT α} {s:be},KW cmp n t P->G s->t.kasWp (gj prog w A κ it) (λa s'=>a=ev cmp t/\G s') s
 | .ret _,_,_,hs=>⟨rfl,hs⟩
 | .ask i j k,s,hw,hs=>hc i j _ s hw.1 hw.2.1 hs λs' h'=>zfQ hc (t:=k (cmp i j)) hw.2.2 h'
def zfR{q:Array Nat}{e:En}(h: ∀i∈q,i<e.2.size):q.map (kas_item e.2)=ar q e:=by
 delta ar im
 apply Array.ext_getElem?
 intro i
 rw[Array.getElem?_map,Array.getElem?_map]
 by_cases hi:i<q.size
 .rw[Array.getElem?_eq_getElem hi]
  erw[i9]
  rw[L6 (h _ (Array.getElem_mem hi))]
 .rw[Array.getElem?_eq_none (by lia)];rfl
def z0O n(cmp:Nat->Nat->Bool): ∃q:Array Nat,(q.size=n/\Al (· <n) q/\(2<=n->n<64->q=ev cmp (fc n)))/\∀prog w A (E:bb->be->Prop) (e:En) (G:be->Prop) (Q:Unit->SortSt->be->Prop) s,e.2.size=n->Cmp prog w A cmp G e->G s->(∀st' s',fF st'=ar q e->dZ st'=none->G s'->Q () st' s')->kasC (bo prog w) A E sortRuns' Q (sst (B3 n).toArray #[] 7 e) s:=by
 by_cases h:2<=n/\n<64
 .have hw:=zbE (cmp:=cmp) (n:=n) (by lia)
  have hp:=hw.ev.1
  refine⟨ev cmp (fc n),⟨hp.size,λi hi=> ?_,λ_ _=>rfl⟩,λprog w A E e G Q s he hc hs hQ=> ?_⟩
  .have:=(hp.mem_iff (a:=i)).mp hi
   simpa using this
  .have e0:sst (B3 n).toArray #[] 7 e=kas_st e.1 e.2 (B3 n).toArray:=by
    delta sst kas_st
    rw[zfR λi hi=>by rw[he];simpa using hi]
   rw[e0]
   refine kas_runs h.1 h.2 (G:=λp' s'=>p'=ev cmp (fc n)/\G s') (λp' st' s' h1 h2 h3 h4=> ?_) (zfQ (n:=n) (λi j C s hi hj hg hC=> ?_) hw hs)
   .obtain⟨rfl,h4⟩:=h4
    refine hQ st' s' ?_ h3 h4
    rw[h2,zfR λi hi=> ?_]
    have:=(hp.mem_iff (a:=i)).mp hi
    rw[he];simpa using this
   .have:=hc i j C s hg hC
    rw[he,L6 hi,L6 hj] at this
    exact this
 .obtain⟨v,st',⟨q,p,g,rfl,h1,h2⟩,hr⟩:=zfO (cmp:=cmp) (T:=(· <n)) (q:=(B3 n).toArray) (g:=7) (N:=n) (P:=λ_ st'=> ∃q p g,st'=sst q p g/\q.size=n/\Al (· <n) q) (λi hi=>by simpa using hi) (by simp) λq' p' g' a b=>⟨q',p',g',rfl,b,a⟩
  exact⟨q,⟨h1,h2,λa b=>absurd ⟨a,b⟩ h⟩,λprog w A E e G Q s _ hc hs hQ=>hr prog w A E e G Q s hc hs λs' hg=>hQ _ s' rfl rfl hg⟩
open Classical in
def perm(n:Nat)(cmp:Nat->Nat->Bool):List Nat:=if n<2 then B3 n else(z0O n λi j=>cmp (i %n) (j %n)).choose.toList
def perm_len{n:Nat}:(perm n cmp).length=n:=by
 delta perm
 split
 .simp
 .rw[Array.length_toList];exact(z0O n λi j=>cmp (i %n) (j %n)).choose_spec.1.1
def perm_lt{n:Nat}: ∀i∈perm n cmp,i<n:=by
 delta perm
 split
 .intro i hi;simpa using hi
 .intro i hi;exact(z0O n λi j=>cmp (i %n) (j %n)).choose_spec.1.2.1 i (by simpa using hi)
def zd2{vs:List bb}:(vs.toArray.zip vs.toArray).map (·.2)=vs.toArray:=by
 apply Array.ext_getElem?
 intro i
 by_cases hi:i<vs.length<;>simp[hi]
def z74{vs:List bb}:(B3 vs.length).map (λi=>vs.getD i Value.none)=vs:=by
 apply List.ext_getElem?
 intro i
 by_cases hi:i<vs.length<;>simp[hi]
section
variable{prog:bp}{w:br}{A:bu}{E:bb->be->Prop}{s:be}
theorem z45{vs:List bb}{n:Nat}{cmp:Nat->Nat->Bool}{P:PySem.Fin->be->Prop}(ho:s.heap.get? a=some (bP "list" vs.toArray n))(hz:vs.length<=qg)
 (hk: ∀h',(∀b o,b≠a->s.heap.get? b=some o->h'.get? b=some o)->2<=vs.length->∃κ,(∀(Q:fW->be->Prop) E,Q κ {s with heap:=h'}->bm (bo prog w) A (keyKind' vs.toArray) Q E {s with heap:=h'})/\
  ∀i j (hi:i<vs.length) (hj:j<vs.length) (C:Bool->be->Prop),C (cmp i j) {s with heap:=h'}->bm (bo prog w) A (keyLt' κ vs[i] vs[j]) C (λ_ _=>False) {s with heap:=h'})
 (h: ∀h' e1,(∀b o,b≠a->s.heap.get? b=some o->h'.get? b=some o)->h'.get? a=some (bP "list" ((perm vs.length cmp).map λi=>vs.getD i Value.none).toArray e1)->P (.done (.ret .none)) {s with heap:=h'}):
 bm (bo prog w) A (Builtin.«list.sort» ⟨[.ref a],[]⟩) P E s:=by
 have ha:a<s.heap.objs.size:=Heap.lt_size ho
 obtain⟨e1,ho1⟩: ∃e1,(s.heap.update a (Obj.mapSeq λ_=>(#[]:Array bb))).get? a=some (bP "list" #[] e1):=⟨_,get?_update_seq ho λ_=> #[]⟩
 have ho3:(((s.heap.update a (Obj.mapSeq λ_=>(#[]:Array bb))).push (bP "tuple" vs.toArray 0)).push (bP "list" #[] 0)).get? a=some (bP "list" #[] e1):=Heap.get?_push_of_some _ (Heap.get?_push_of_some _ ho1)
 have kept: ∀b o,b≠a->s.heap.get? b=some o->(((s.heap.update a (Obj.mapSeq λ_=>(#[]:Array bb))).push (bP "tuple" vs.toArray 0)).push (bP "list" #[] 0)).get? b=some o:=λb o hb q=>
  Heap.get?_push_of_some _ (Heap.get?_push_of_some _ ((Heap.get?_update_ne _ _ _ _ hb).trans q))
 rw[list_sort_plain]
 refine ba (listItems_at ho rfl ?_)
 refine ba (listUpdate_at ho rfl ?_ (by rw[i8];exact hz) (B6 _))
 refine ba (seqEpoch_at ho1 rfl ?_)
 refine ba (wpAny_newTuple ?_ (by show vs.length<=_;exact hz))
 refine ba (wpAny_newList ?_ (B6 _))
 refine bw ?_
 show bm (bo prog w) A _ P E {s with heap:=((s.heap.update a (Obj.mapSeq λ_=>(#[]:Array bb))).push (bP "tuple" vs.toArray 0)).push (bP "list" #[] 0)}
 dsimp only
 generalize ((s.heap.update a (Obj.mapSeq λ_=>(#[]:Array bb))).push (bP "tuple" vs.toArray 0)).push (bP "list" #[] 0)=h1 at ho3 kept⊢
 have fin: ∀st':SortSt,(fF st').map (·.2)=((perm vs.length cmp).map λi=>vs.getD i Value.none).toArray->dZ st'=none->bm (bo prog w) A (do
  let touched<-seqEpoch a
  Builtin.List.listUpdate (.ref a) λ_=>(fF st').map (·.2)
  if let some e:=dZ st' then rule "list.sort.comparison-raised";throw e
  if(touched !=e1)=true then rule "list.sort.modified";raiseError "ValueError" "list modified during sort"
  ret .none) P E {s with heap:=h1}:=by
  intro st' har hf
  refine ba (seqEpoch_at ho3 rfl ?_)
  rw[har]
  have hsz:((perm vs.length cmp).map λi=>vs.getD i Value.none).toArray.size=vs.length:=by rw[i8,i5,perm_len]
  refine ba (listUpdate_at ho3 rfl ?_ (B6 _) (C1 (S5 hsz) (by lia)))
  rw[hf]
  erw[bne_self_eq_false,C5,if_false]
  obtain⟨c2,hc2⟩: ∃c2,(h1.update a (Obj.mapSeq λ_=>((perm vs.length cmp).map λi=>vs.getD i Value.none).toArray)).get? a=some (bP "list" ((perm vs.length cmp).map λi=>vs.getD i Value.none).toArray c2):=⟨_,get?_update_seq ho3 λ_=>_⟩
  exact bf (h _ c2 (λb o hb q=>(Heap.get?_update_ne _ _ _ _ hb).trans (kept b o hb q)) hc2)
 by_cases h2:vs.length<2
 .have h2':vs.toArray.size<2:=by simpa using h2
  rw[qy h2',qy h2']
  refine ba (bf ?_)
  rw[StateT.run_pure]
  refine ba (bf ?_)
  refine fin _ ?_ rfl
  show(vs.toArray.zip vs.toArray).map (·.2)=_
  delta perm
  rw[qy h2,zd2,z74]
 .have h2': ¬vs.toArray.size<2:=by simpa using h2
  rw[qh h2',qh h2']
  obtain⟨κ,k1,k2⟩:=hk h1 kept (by lia)
  refine ba (k1 _ _ ?_)
  have sz:(vs.toArray.zip vs.toArray).size=vs.length:=by simp
  have im_eq: ∀i,i<vs.length->im i (κ,vs.toArray.zip vs.toArray)=(vs.getD i Value.none,vs.getD i Value.none):=λi hi=>by
   delta im
   rw[sz,L6 hi,kat_item rfl]
  have est:SortSt.mk' κ (vs.toArray.zip vs.toArray) #[] 7 none=sst (B3 vs.length).toArray #[] 7 (κ,vs.toArray.zip vs.toArray):=by
   delta sst ar
   have e:(B3 vs.length).toArray.map (λi=>im i (κ,vs.toArray.zip vs.toArray))=vs.toArray.zip vs.toArray:=by
    apply Array.ext_getElem?
    intro i
    by_cases hi:i<vs.length
    .rw[Array.getElem?_map]
     have:=im_eq i hi
     erw[List.getElem?_toArray,List.getElem?_range hi,i9,this]
     simp[hi]
    .simp[hi]
   rw[e]
  have run:=(z0O vs.length λi j=>cmp (i %vs.length) (j %vs.length)).choose_spec.2
  have hpe:perm vs.length cmp=(z0O vs.length λi j=>cmp (i %vs.length) (j %vs.length)).choose.toList:=by delta perm;rw[qh h2]
  have hlt:=(z0O vs.length λi j=>cmp (i %vs.length) (j %vs.length)).choose_spec.1.2.1
  generalize (z0O vs.length λi j=>cmp (i %vs.length) (j %vs.length)).choose=q at run hpe hlt
  rw[est]
  have go:=run prog w A E (κ,vs.toArray.zip vs.toArray) (λs'=>s'={s with heap:=h1}) (λ_ st' s'=>fF st'=ar q (κ,vs.toArray.zip vs.toArray)/\dZ st'=none/\s'={s with heap:=h1}) {s with heap:=h1} sz (λi j C s' hs hc=>by
   subst hs
   have l1:i %vs.length<vs.length:=Nat.mod_lt _ (by lia)
   have l2:j %vs.length<vs.length:=Nat.mod_lt _ (by lia)
   have hq:=k2 (i %vs.length) (j %vs.length) l1 l2 C (hc _ rfl)
   delta gj
   erw[sz,kat_item rfl]
   rw[show vs.getD (i %vs.length) Value.none=vs[i %vs.length] by simp[l1],show vs.getD (j %vs.length) Value.none=vs[j %vs.length] by simp[l2]]
   exact hq) rfl λst' s' ha hf hs=>⟨ha,hf,hs⟩
  refine ba (bz go ?_ λ_ _ e=>e)
  rintro ⟨⟨⟩,st'⟩ s' ⟨hst,hfa,hs⟩
  dsimp only at hst hfa⊢
  subst hs
  refine fin _ ?_ hfa
  rw[hpe,hst]
  apply Array.toList_inj.mp
  show((ar q (κ,vs.toArray.zip vs.toArray)).map (·.2)).toList=_
  delta ar
  rw[Array.map_map,Array.toList_map]
  exact A7 λi hi=>by show(im i (κ,vs.toArray.zip vs.toArray)).2=_;rw[im_eq i (hlt i (by simpa using hi))]
def call_sorted{vs:List bb}{cmp:Nat->Nat->Bool}{Q:bb->be->Prop}(hl:s.heap.IsList l vs.toArray)(hz:vs.length<=qg)
 (hk: ∀h',(∀b o,s.heap.get? b=some o->h'.get? b=some o)->2<=vs.length->∃κ,(∀(Q:fW->be->Prop) E,Q κ {s with heap:=h'}->bm (bo prog w) A.in1.in1 (keyKind' vs.toArray) Q E {s with heap:=h'})/\
  ∀i j (hi:i<vs.length) (hj:j<vs.length) (C:Bool->be->Prop),C (cmp i j) {s with heap:=h'}->bm (bo prog w) A.in1.in1 (keyLt' κ vs[i] vs[j]) C (λ_ _=>False) {s with heap:=h'})
 (h: ∀h' D e1,(∀b o,s.heap.get? b=some o->h'.get? b=some o)->s.heap.objs.size<=D->h'.get? D=some (bP "list" ((perm vs.length cmp).map λi=>vs.getD i Value.none).toArray e1)->Q (.ref D) {s with heap:=h'}):
 bm (bo prog w) A (call (.builtin "sorted") [.ref l]) Q E s:=by
 refine Calls.call_function_entry kind_sorted plain_sorted entry_sorted (args_sorted1 _) ?_
 delta Builtin.«sorted»
 refine ba (m:=checkCount "sorted" 1 1 _) (bf ?_)
 refine ba (collect_list hl ?_ hz)
 refine ba (wpAny_newList ?_ hz)
 have hsz:((s.heap.push (bP "list" #[] 0)).update s.heap.objs.size (Obj.mapSeq (· ++vs.toArray))).objs.size=s.heap.objs.size+1:=by
  rw[Heap.size_update,size_push']
 have hoL:(((s.heap.push (bP "list" #[] 0)).update s.heap.objs.size (Obj.mapSeq (· ++vs.toArray))).push (bP "list" vs.toArray 0)).get? (s.heap.objs.size+1)=some (bP "list" vs.toArray 0):=by
  rw[<-hsz];exact Heap.get?_push_size _ rfl
 have keep: ∀b o,s.heap.get? b=some o->(((s.heap.push (bP "list" #[] 0)).update s.heap.objs.size (Obj.mapSeq (· ++vs.toArray))).push (bP "list" vs.toArray 0)).get? b=some o:=λb o q=>by
  have hlt:b<s.heap.objs.size:=Heap.lt_size q
  rw[Heap.get?_push_ne _ _ _ (by rw[hsz];exact m5 (C6 hlt)),Heap.get?_update_ne _ _ _ _ (m5 hlt),Heap.get?_push_ne _ _ _ (m5 hlt)]
  exact q
 show bm _ _ _ _ _ {s with heap:=((s.heap.push (bP "list" #[] 0)).update s.heap.objs.size (Obj.mapSeq (· ++vs.toArray))).push (bP "list" vs.toArray 0)}
 rw[hsz]
 have ne: ∀{b o},s.heap.get? b=some o->b≠s.heap.objs.size+1:=λq=>m5 (C6 (Heap.lt_size q))
 refine ba (bw (bD slot_list_sort ⟨_,hoL,rfl⟩ entry_list_sort ?body (args_list_sort _)))
 case body=>
  refine z45 (s:={s with heap:=((s.heap.push (bP "list" #[] 0)).update s.heap.objs.size (Obj.mapSeq (· ++vs.toArray))).push (bP "list" vs.toArray 0)}) (cmp:=cmp) hoL hz (λh' kp h2=> ?_) λh' e1 kp hD=> ?_
  .exact hk h' (λb o q=>kp b o (ne q) (keep b o q)) h2
  .exact⟨_,rfl,bf ⟨_,rfl,h h' _ e1 (λb o q=>kp b o (ne q) (keep b o q)) (T8 _) hD⟩⟩
end
end So
namespace L2
open PySem PySem.Spec PyProof.Rows
mutual
def Dp(K:W.Frag)(H:Hp):bX->V->Prop
 | .none,v=>v= .non
 | .bool b,v=>v= .bl b
 | .int i,v=>v= .int i
 | .str x,v=>v= .str x
 | .list ds,v=> ∃a xs,v= .ref a/\SqL K H a xs/\DpAll K H ds xs
 | .tuple ds,v=> ∃a xs,v= .ref a/\SqT K H a xs/\DpAll K H ds xs
 | .dict _,_=>False
def DpAll(K:W.Frag)(H:Hp):List bX->List V->Prop
 |[],xs=>xs=[]
 |d::ds,xs=> ∃x r,xs=x::r/\Dp K H d x/\DpAll K H ds r
end
section
variable{X:Cx}{qz:List (Addr×bJ)}{σ:St}{H:Hp}{s:be}
mutual
theorem Dp.reads(I:Inv X qz σ H s): ∀(d:bX) (v:V) (u:bb),Dp X.K H d v->RelV v u->∃as,gm s.heap u d as
 | .none,v,u,h,r=>by
  erw[Dp] at h;subst h;cases r;exact⟨_, .none⟩
 | .bool b,v,u,h,r=>by
  erw[Dp] at h;subst h;cases r;exact⟨_, .bool b⟩
 | .int i,v,u,h,r=>by
  erw[Dp] at h;subst h;obtain⟨t,rfl⟩:=r;exact⟨_, .int i t⟩
 | .str x,v,u,h,r=>by
  erw[Dp] at h;subst h;obtain⟨t,rfl⟩:=r;exact⟨_, .str x t⟩
 | .list ds,v,u,h,r=>by
  erw[Dp] at h
  obtain⟨a,xs,rfl,hs,hd⟩:=h
  cases r
  obtain⟨its,rv,⟨o,n,e,c,_,dd⟩,_⟩:=I.list hs
  obtain⟨as,ra⟩:=DpAll.reads I ds xs its hd rv
  exact⟨_, .list e c dd (by simpa using ra)⟩
 | .tuple ds,v,u,h,r=>by
  erw[Dp] at h
  obtain⟨a,xs,rfl,hs,hd⟩:=h
  cases r
  obtain⟨its,rv,⟨o,e,c,n,dd⟩,_⟩:=I.tuple hs
  obtain⟨as,ra⟩:=DpAll.reads I ds xs its hd rv
  exact⟨_, .tuple e c dd (by simpa using ra)⟩
 | .dict _,v,u,h,r=>by
  erw[Dp] at h
theorem DpAll.reads(I:Inv X qz σ H s): ∀(ds:List bX) (vs:List V) (us:List bb),DpAll X.K H ds vs->g7 vs us->∃as,dt s.heap us ds as
 |[],vs,us,h,r=>by
  erw[DpAll] at h;subst h
  cases r
  exact⟨_, .nil⟩
 |d::ds,vs,us,h,r=>by
  erw[DpAll] at h
  obtain⟨x,q,rfl,h1,h2⟩:=h
  cases r with
  |cons r1 r2=>
   obtain⟨as,ra⟩:=Dp.reads I d _ _ h1 r1
   obtain⟨bs,rb⟩:=DpAll.reads I ds _ _ h2 r2
   exact⟨_, .cons ra rb⟩
end
def zit(K:W.Frag)(neg:Bool):R2:=λx y H Q=> ∃d e,Dp K H d x/\Dp K H e y/\d.canLay0=true/\e.canLay0=true/\min d.depth e.depth<=60/\
 Q (.bl (if neg then !PyData.eqv d e else PyData.eqv d e)) H
def zfS(hu:X.A.units+64<cLine):OpR X (bE .Eq) (zit X.K false):=by
 intro qz s σ H x y v u Q I rx ry h
 obtain⟨d,e,hx,hy,c1,c2,hd,q⟩:=h
 obtain⟨as,ra⟩:=hx.reads I _ _ _ rx
 obtain⟨bs,rb⟩:=hy.reads I _ _ _ ry
 exact SeqAt.compareEq_reads ra rb c1 c2 (by lia) ⟨.bl _,H,I,rfl,q⟩
def zfT(hu:X.A.units+64<cLine):OpR X (bE .NotEq) (zit X.K true):=by
 intro qz s σ H x y v u Q I rx ry h
 obtain⟨d,e,hx,hy,c1,c2,hd,q⟩:=h
 obtain⟨as,ra⟩:=hx.reads I _ _ _ rx
 obtain⟨bs,rb⟩:=hy.reads I _ _ _ ry
 exact SeqAt.compareNe_reads ra rb c1 c2 (by lia) ⟨.bl _,H,I,rfl,q⟩
def ziu(K:W.Frag)(neg:Bool):R2:=λx y H Q=> ∃d ds,Dp K H d x/\(Dp K H (.list ds) y\/Dp K H (.tuple ds) y)/\d.canLay0=true/\PyData.canLayAll0 ds=true/\min (PyData.depthAll ds) d.depth<=60/\
 Q (.bl (if neg then !(ds.any λy=>PyData.eqv y d) else ds.any λy=>PyData.eqv y d)) H
def zfU(hu:X.A.units+64<cLine):OpR X (bE .In) (ziu X.K false):=by
 intro qz s σ H x y v u Q I rx ry h
 obtain⟨d,ds,hx,hy,c1,c2,hd,q⟩:=h
 obtain⟨as,ra⟩:=hx.reads I _ _ _ rx
 rcases hy with hy|hy
 .obtain⟨bs,rb⟩:=hy.reads I _ _ _ ry
  exact SeqAt.in_list_reads rb ra c2 c1 (by lia) ⟨.bl _,H,I,rfl,q⟩
 .obtain⟨bs,rb⟩:=hy.reads I _ _ _ ry
  exact SeqAt.in_tuple_reads rb ra c2 c1 (by lia) ⟨.bl _,H,I,rfl,q⟩
def z8a(hu:X.A.units+64<cLine):OpR X (bE .NotIn) (ziu X.K true):=by
 intro qz s σ H x y v u Q I rx ry h
 obtain⟨d,ds,hx,hy,c1,c2,hd,q⟩:=h
 obtain⟨as,ra⟩:=hx.reads I _ _ _ rx
 rcases hy with hy|hy
 .obtain⟨bs,rb⟩:=hy.reads I _ _ _ ry
  exact SeqAt.notIn_list_reads rb ra c2 c1 (by lia) ⟨.bl _,H,I,rfl,q⟩
 .obtain⟨bs,rb⟩:=hy.reads I _ _ _ ry
  exact SeqAt.notIn_tuple_reads rb ra c2 c1 (by lia) ⟨.bl _,H,I,rfl,q⟩
theorem z1n: ∀{bs:List Bool} {us:List bb},g7 (bs.map V.bl) us->LSm.BoolsAre us bs
 |[],_, .nil=> .nil
 |b::bs,_, .cons r t=>by
  cases r
  exact .cons b (z1n t)
def z8b(hc:X.A.handled=none):CallR X (.builtin "all") (λxs H Q=> ∃(p:Addr) (bs:List Bool),xs=[.ref p]/\SqL X.K H p (bs.map V.bl)/\Q (.bl (bs.all id)) H):=by
 intro qz s σ H xs us Q I r h
 obtain⟨p,bs,rfl,hs,q⟩:=h
 obtain⟨u,rfl,ru⟩:=z3V r
 cases ru
 obtain⟨its,rv,pl,_⟩:=I.list hs
 have hb:=z1n rv
 have hl:=pl.isList
 have hlt:p<s.heap.objs.size:=by obtain⟨_,e,_⟩:=hl;exact Heap.lt_size e
 refine call_all_walk (cB hl ?_)
 refine⟨s.heap.objs.size,[s.heap.objs.size,p],[s.heap.objs.size],its.toArray.size,_,_,λi=>(bs[i]?).getD true,rfl,Walks.list (A:=X.A.in1) hc _ p (m5 hlt) its.toArray,
  ⟨⟨_,Heap.get?_push_size _ rfl,rfl,rfl⟩,hl.push _⟩,λi v s' Q' E' hP hQ=> ?_,λh' tk hk=> ?_⟩
 .obtain⟨b,e,rfl⟩:=hb.get i v (by simpa using hP)
  erw[e,l7] at hQ
  exact bB hQ
 .have e:((B3 its.toArray.size).all λi=>(bs[i]?).getD true)=bs.all id:=by
   rw[i8,hb.length];exact LSm.range_all bs
  rw[e]
  exact⟨.bl _,H,I.kept (LSm.kept_iter hk),rfl,q⟩
def z8c(hc:X.A.handled=none):CallR X (.builtin "any") (λxs H Q=> ∃(p:Addr) (bs:List Bool),xs=[.ref p]/\SqL X.K H p (bs.map V.bl)/\Q (.bl (bs.any id)) H):=by
 intro qz s σ H xs us Q I r h
 obtain⟨p,bs,rfl,hs,q⟩:=h
 obtain⟨u,rfl,ru⟩:=z3V r
 cases ru
 obtain⟨its,rv,pl,_⟩:=I.list hs
 have hb:=z1n rv
 have hl:=pl.isList
 have hlt:p<s.heap.objs.size:=by obtain⟨_,e,_⟩:=hl;exact Heap.lt_size e
 refine call_any_walk (cB hl ?_)
 refine⟨s.heap.objs.size,[s.heap.objs.size,p],[s.heap.objs.size],its.toArray.size,_,_,λi=>(bs[i]?).getD false,rfl,Walks.list (A:=X.A.in1) hc _ p (m5 hlt) its.toArray,
  ⟨⟨_,Heap.get?_push_size _ rfl,rfl,rfl⟩,hl.push _⟩,λi v s' Q' E' hP hQ=> ?_,λh' tk hk=> ?_⟩
 .obtain⟨b,e,rfl⟩:=hb.get i v (by simpa using hP)
  erw[e,l7] at hQ
  exact bB hQ
 .have e:((B3 its.toArray.size).any λi=>(bs[i]?).getD false)=bs.any id:=by
   rw[i8,hb.length];exact LSm.range_any bs
  rw[e]
  exact⟨.bl _,H,I.kept (LSm.kept_iter hk),rfl,q⟩
end
end L2
namespace HT
open PySem PyProof.Rows
section
variable{prog:bp}{w:br}{A:bu}{E:bb->be->Prop}{s:be}
def getItem_tuple_whole{t sl:Addr}{items:Array bb}{vl vu:bb}{lo hi:Option Int}{Q:bb->be->Prop}(ht:gl s.heap t items)(hs:s.heap.IsSliceOf sl vl vu .none)(pl:cU vl lo)(pu:cU vu hi)
 (hw:sIx items.size 0 lo=0/\sIx items.size items.size hi=items.size) (h:Q (.ref t) s):bm (bo prog w) A (cG (.ref t) (.ref sl)) Q E s:=by
 obtain⟨os,hos,hcs,hds⟩:=id hs
 have hTs:s.TypeIs (.ref sl) "slice" :=⟨os,hos,hcs⟩
 delta cG
 try with_reducible refine bw ?_
 first|refine ba (bf ?_)|skip
 refine ba (dX ht.typeIs (by decide) ?_)
 refine ba (wpAny_callSpecial?_slot (name:=Str.ofString "__getitem__") ht.typeIs PyProof.Rows.slot_tuple_getitem
  (bD PyProof.Rows.slot_tuple_getitem ht.typeIs dE ?_ (dN _ _)))
 show bm _ _ (Builtin.Tuple.tupleItemsOf (.ref t)>>=_) _ _ s
 refine ba (tupleItemsOf_ ht ?_)
 refine ba (dY hTs ?_)
 rw[qy (by decide)]
 refine ba (z0F hs pl pu ?_)
 have hyes:((((sIx items.size 0 lo:Nat):Int)==0&&(1:Int)==1&&(sIx items.size items.size hi -sIx items.size 0 lo)==items.size)=true):=by
  rw[hw.1,hw.2]
  simp
 show bm _ _ (if(((sIx items.size 0 lo:Nat):Int)==0&&(1:Int)==1&&(sIx items.size items.size hi -sIx items.size 0 lo)==items.size)=true then _ else _) _ _ s
 rw[qy hyes]
 obtain⟨o,ho,hc,n,hd⟩:=id ht
 have ex:Builtin.Tuple.tupleIsExact (.ref t)=(typeOf (.ref t)>>=λT=>pure (T== .type "tuple")):=rfl
 refine ba (m:=Builtin.Tuple.tupleIsExact (.ref t)) ?_
 rw[ex]
 refine ba (dY ht.typeIs (bf ?_))
 rw[qy (by decide)]
 exact ba (cC (bf ⟨_,rfl,bf h⟩))
end
end HT
namespace L2
open PySem PySem.Spec PyProof.Rows
section
variable{X:Cx}
def z75{xs:List V}{lo hi:Option Int}(h:HT.sIx xs.length 0 lo=0/\HT.sIx xs.length xs.length hi=xs.length):z7V xs lo hi=xs:=by
 delta z7V
 rw[h.1,h.2]
 simp
def zfV(K:W.Frag):V->List V->Hp->VK->Prop:=λx vs H Q=> ∃l b xs zs,x= .ref l/\vs=[.ref b]/\H l=some (.lst xs)/\(SqT K H b zs\/SqL K H b zs)/\xs.length+zs.length<=qg/\Q .non (upd H l (.lst (xs++zs)))
def z8d l items n b items2 n2 dd2 sl2(hs0: ¬(!items.isEmpty&&Builtin.List.listTooLong (items.size+items2.size))=true)(hs1:items.size<=qg)(hs2:items.size+items2.size<=qg+1):
 Meets (Builtin.«list.extend» ⟨[.ref l, .ref b],[]⟩) (λ_ R s=>s.heap.get? l=some {cls:= .type "list",dict:=none,data:= .seq items n,slots:= #[]}/\s.heap.get? b=some {cls:= .type "tuple",dict:=dd2,data:= .seq items2 n2,slots:=sl2}/\R (.ok (.ret Value.none)) {s with heap:=s.heap.update l (Obj.mapSeq λx=>x++items2),toks:=s.toks}):=
 .of_wp λprog w A R s h=>by
  obtain⟨hp,g,d,tk,os⟩:=s;obtain⟨hl,hb,h⟩:=h;have f1:=AutoSeq1.idx_int;have f2:=AutoSeq1.sub_tuple_tuple;have f3:=AutoSeq1.sub_list_list;have f4:=AutoSeq1.sub_tuple_list;have f5:=AutoSeq1.sub_list_tuple
  have hz':(items++items2).size<=qg+1:=by rw[Array.size_append];exact hs2
  wp_walk using(wpAny_updateSeq hl rfl (hz:=hs1) (_hz':=hz')),AutoSeq1.wpAny_loadPart' hl,AutoSeq1.wpAny_loadPart' hb;exact⟨_,rfl,h⟩
def z8e l items n b items2 n2 dd2 sl2(hs0: ¬(!items.isEmpty&&Builtin.List.listTooLong (items.size+items2.size))=true)(hs1:items.size<=qg)(hs2:items.size+items2.size<=qg+1):
 Meets (Builtin.«list.extend» ⟨[.ref l, .ref b],[]⟩) (λ_ R s=>s.heap.get? l=some {cls:= .type "list",dict:=none,data:= .seq items n,slots:= #[]}/\s.heap.get? b=some {cls:= .type "list",dict:=dd2,data:= .seq items2 n2,slots:=sl2}/\R (.ok (.ret Value.none)) {s with heap:=s.heap.update l (Obj.mapSeq λx=>x++items2),toks:=s.toks}):=
 .of_wp λprog w A R s h=>by
  obtain⟨hp,g,d,tk,os⟩:=s;obtain⟨hl,hb,h⟩:=h;have f1:=AutoSeq1.idx_int;have f2:=AutoSeq1.sub_tuple_tuple;have f3:=AutoSeq1.sub_list_list;have f4:=AutoSeq1.sub_tuple_list;have f5:=AutoSeq1.sub_list_tuple
  have hz':(items++items2).size<=qg+1:=by rw[Array.size_append];exact hs2
  wp_walk using(wpAny_updateSeq hl rfl (hz:=hs1) (_hz':=hz')),AutoSeq1.wpAny_loadPart' hl,AutoSeq1.wpAny_loadPart' hb;exact⟨_,rfl,h⟩
def zd3:MtM X "list.extend" (zfV X.K):=by
 intro qz s σ H x vs v us Q I rx rv h
 obtain⟨l,b,xs,zs,rfl,rfl,hH,hB,hz,q⟩:=h
 cases rx
 obtain⟨u,rfl,ru⟩:=rv.one
 cases ru
 obtain⟨z,its,n,r,hl,e⟩:=I.lstM hH
 have key: ∃its2:List bb,g7 zs its2/\((∃dd2 n2 sl2,s.heap.get? b=some {cls:= .type "tuple",dict:=dd2,data:= .seq its2.toArray n2,slots:=sl2})\/(∃dd2 n2 sl2,s.heap.get? b=some {cls:= .type "list",dict:=dd2,data:= .seq its2.toArray n2,slots:=sl2})):=by
  rcases hB with hB|hB
  .obtain⟨its2,r2,⟨⟨cls,dd,data,sl⟩,e2,c,n2,d2⟩,_⟩:=I.tuple hB
   simp only at c d2
   subst c d2
   exact⟨its2,r2, .inl ⟨_,_,_,e2⟩⟩
  .obtain⟨its2,r2,⟨⟨cls,dd,data,sl⟩,n2,e2,c,_,d2⟩,_⟩:=I.list hB
   simp only at c d2
   subst c d2
   exact⟨its2,r2, .inr ⟨_,_,_,e2⟩⟩
 obtain⟨its2,r2,k⟩:=key
 have hl2:=r2.length
 have hsz:its.toArray.size+its2.toArray.size<=qg:=by rw[i8,i8];lia
 have hlong: ¬(!its.toArray.isEmpty&&Builtin.List.listTooLong (its.toArray.size+its2.toArray.size))=true:=by
  rw[zae hsz,L1]
  exact n9
 have fin:EP X qz σ Q .none {s with heap:=s.heap.update l (Obj.mapSeq λx=>x++its2.toArray),toks:=s.toks}:=by
  refine⟨.non,_,I.lset (its':=its++its2) hH e (by simp) (r.append r2) ?_,rfl,q⟩
  rw[n8]
  lia
 rcases k with⟨dd2,n2,sl2,e2⟩|⟨dd2,n2,sl2,e2⟩
 .exact dO F.slot_list_extend ⟨_,e,rfl⟩ F.entry_list_extend (F.args_list_extend_2 _ _) (z8d l its.toArray n b its2.toArray n2 dd2 sl2 hlong (by rw[i8];lia) (by lia)) ⟨e,e2,fin⟩
 .exact dO F.slot_list_extend ⟨_,e,rfl⟩ F.entry_list_extend (F.args_list_extend_2 _ _) (z8e l its.toArray n b its2.toArray n2 dd2 sl2 hlong (by rw[i8];lia) (by lia)) ⟨e,e2,fin⟩
end
noncomputable def z2H(env:dw):List (Str×bZ)->List (Str×Addr)->List (Str×Addr)
 |[],cs=>cs
 |(n,k)::r,cs=>z2H env r (if k== .free then(match env.cells.lookup n with|some a=>(n,a)::cs|none=>cs) else cs)
theorem z6v{env:dw}: ∀(names:List (Str×bZ)) (cs:List (Str×Addr)),(∀y∈names,y.2= .free->∃a,env.cells.lookup y.1=some a)->
 (forIn names cs λ(x:Str×bZ) (r:List (Str×Addr))=>if(x.2==NameKind.free)=true then cellOf env x.1>>=λa=>pure (ForInStep.yield ((x.1,a)::r)) else pure (ForInStep.yield r))=(pure (z2H env names cs):dl _)
 |[],cs,_=>rfl
 |(n,k)::r,cs,h=>by
  have ih:=λcs=>z6v (env:=env) r cs λy hy=>h y (b7 _ hy)
  rw[List.forIn_cons]
  show((if(k==NameKind.free)=true then cellOf env n>>=λa=>pure (ForInStep.yield ((n,a)::cs)) else pure (ForInStep.yield cs))>>=_)=pure (z2H env r (if k== .free then(match env.cells.lookup n with|some a=>(n,a)::cs|none=>cs) else cs))
  by_cases hk:(k==NameKind.free)=true
  .obtain⟨a,e⟩:=h (n,k) c9 (by simpa using hk)
   have e:env.cells.lookup n=some a:=e
   rw[qy hk,qy hk,e]
   have e2:cellOf env n=pure a:=by delta cellOf;rw[e]
   rw[e2]
   exact ih _
  .rw[qh hk,qh hk]
   exact ih _
def z46{env:dw}{scope:Scope}(h: ∀y∈scope.names,y.2= .free->∃a,env.cells.lookup y.1=some a):closureFor scope env=pure (z2H env scope.names []):=by
 have e:=z6v (env:=env) scope.names [] h
 exact congrArg (λ(m:dl (List (Str×Addr)))=>m>>=λcs=>pure cs) e
theorem z47: ∀(names:List (Str×bZ)) (cs:List (Str×Addr)),(z2H env names cs).lookup x=some c->
 cs.lookup x=some c\/(env.cells.lookup x=some c/\(x,NameKind.free)∈names)
 |[],cs,h=> .inl h
 |(n,k)::r,cs,h=>by
  rcases z47 r _ h with q|⟨q,m⟩
  .by_cases hk:(k==NameKind.free)=true
   .rw[qy hk] at q
    cases e:env.cells.lookup n with
    |none=>rw[e] at q;exact .inl q
    |some a=>
     rw[e] at q
     have q:((n,a)::cs).lookup x=some c:=q
     rw[r8] at q
     by_cases hx:(x==n)=true
     .rw[hx] at q
      have q:some a=some c:=q
      cases q
      have hx:x=n:=eq_of_beq hx
      subst hx
      have hk:k= .free:=eq_of_beq hk
      subst hk
      exact .inr ⟨e,c9⟩
     .have hx:(x==n)=false:=by simpa using hx
      rw[hx] at q
      exact .inl q
   .rw[qh hk] at q
    exact .inl q
  .exact .inr ⟨q,b7 _ m⟩
theorem z2I{env:dw}: ∀(names:List (Str×bZ)) (cs:List (Str×Addr)),(((∃c,cs.lookup x=some c))\/((x,NameKind.free)∈names/\∃c,env.cells.lookup x=some c))->
 ∃c,(z2H env names cs).lookup x=some c
 |[],cs,h=>by
  rcases h with h|⟨m,_⟩
  .exact h
  .cases m
 |(n,k)::r,cs,h=>by
  refine z2I r _ ?_
  rcases h with⟨c,hc⟩|⟨m,c,hc⟩
  .left
   by_cases hk:(k==NameKind.free)=true
   .rw[qy hk]
    cases e:env.cells.lookup n with
    |none=>exact⟨c,hc⟩
    |some a=>
     by_cases hx:(x==n)=true
     .exact⟨a,by show((n,a)::cs).lookup x=some a;rw[r8,hx]⟩
     .have hx:(x==n)=false:=by simpa using hx
      exact⟨c,by show((n,a)::cs).lookup x=some c;rw[r8,hx];exact hc⟩
   .rw[qh hk]
    exact⟨c,hc⟩
  .rcases c8.mp m with e|m
   .left
    cases e
    rw[qy (by decide),hc]
    exact⟨c,by show((x,c)::cs).lookup x=some c;rw[r8,beq_self_eq_true]⟩
   .exact .inr ⟨m,c,hc⟩
theorem K6{env:dw}: ∀{names:List (Str×bZ)} {x:Str},names.lookup x=some .free->
 (names.map λ(n,k)=>if(k==NameKind.free&&env.scope.kind== .function&&env.kindOf n==some .cell) then(n,NameKind.cell) else(n,k)).lookup x=some .cell\/
 (names.map λ(n,k)=>if(k==NameKind.free&&env.scope.kind== .function&&env.kindOf n==some .cell) then(n,NameKind.cell) else(n,k)).lookup x=some .free
 |[],_,h=>by simp at h
 |(n,k)::r,x,h=>by
  have ih:= @K6 env r x
  rw[b8]
  show R5 x ((if(k==NameKind.free&&env.scope.kind== .function&&env.kindOf n==some .cell)=true then(n,NameKind.cell) else(n,k))::_)=_\/R5 x ((if(k==NameKind.free&&env.scope.kind== .function&&env.kindOf n==some .cell)=true then(n,NameKind.cell) else(n,k))::_)=_
  cases hx:x==n with
  |true=>
   erw[r8,hx] at h
   cases h
   by_cases hc:(NameKind.free==NameKind.free&&env.scope.kind== .function&&env.kindOf n==some .cell)=true
   .rw[qy hc];left;erw[r8,hx]
   .rw[qh hc];right;erw[r8,hx]
  |false=>
   erw[r8,hx] at h
   by_cases hc:(k==NameKind.free&&env.scope.kind== .function&&env.kindOf n==some .cell)=true
   .rw[qy hc];erw[r8,hx];exact ih h
   .rw[qh hc];erw[r8,hx];exact ih h
theorem z0f{env:dw}: ∀{names:List (Str×bZ)} {x:Str},((names.map λ(n,k)=>if(k==NameKind.free&&env.scope.kind== .function&&env.kindOf n==some .cell) then(n,NameKind.cell) else(n,k)).lookup x=some .cell\/
 (names.map λ(n,k)=>if(k==NameKind.free&&env.scope.kind== .function&&env.kindOf n==some .cell) then(n,NameKind.cell) else(n,k)).lookup x=some .free)->names.lookup x=some .free\/names.lookup x=some .cell
 |[],_,h=>by simp at h
 |(n,k)::r,x,h=>by
  have ih:= @z0f env r x
  rw[b8] at h
  have h:R5 x ((if(k==NameKind.free&&env.scope.kind== .function&&env.kindOf n==some .cell)=true then(n,NameKind.cell) else(n,k))::_)=_\/R5 x ((if(k==NameKind.free&&env.scope.kind== .function&&env.kindOf n==some .cell)=true then(n,NameKind.cell) else(n,k))::_)=_:=h
  cases hx:x==n with
  |true=>
   erw[r8,hx]
   by_cases hc:(k==NameKind.free&&env.scope.kind== .function&&env.kindOf n==some .cell)=true
   .have:k= .free:=by
     erw[l9,beq_iff_eq] at hc
     exact hc.1.1
    subst this
    exact .inl rfl
   .rw[qh hc] at h
    erw[r8,hx] at h
    exact h.symm
  |false=>
   erw[r8,hx]
   refine ih ?_
   by_cases hc:(k==NameKind.free&&env.scope.kind== .function&&env.kindOf n==some .cell)=true
   .rw[qy hc] at h;erw[r8,hx] at h;exact h
   .rw[qh hc] at h;erw[r8,hx] at h;exact h
def compCx(X:Cx)(scope:Scope)(own qk:List Str)(cl:List (Str×Addr))(C:Addr)(s₀:be)(H₀:Hp)(fp:List Addr)(pn:List (Addr×bJ)):Cx:=
 {X with N:=own++qk,s₀:=s₀,H₀:=H₀,env:=compEnvC scope cl C X.env,outer:=X.stack,stack:=X.stack,ex:=fp,fn:=λ_=>false,pn:=pn,xe:=λ_ _=>False}
noncomputable def z05(k:Nat)(ix:List Nat)(σ:St):St:=m7 k none++ix.map λi=>(σ[i]?).getD none
section
variable{X:Cx}{tg iter elt:bn}{pos:bN}{scope:Scope}{own qk:List Str}{ix:List Nat}{wi:TI}{g:TG}{te:TE}
def z76 k ix σ:(z05 k ix σ).length=k+ix.length:=by
 delta z05
 simp
def zaq{qz pins':List (Addr×bJ)}{σ σ':St}{H H':Hp}{s s':be}{h':Heap}{cl:List (Str×Addr)}(I:Inv X qz σ H s)(hf: ∀b∈fp,z5N X qz H b)(hC:s.heap.objs.size<=C)
 (J:Inv (compCx X scope own qk cl C s H fp (X.pn++qz)) pins' σ' H' s') (hs:Heap.SameBut C s'.heap h'):Inv X qz σ H' {s' with heap:=h'}:=by
 have nC: ∀b,b<s.heap.objs.size->b≠C:=λb q e=>by subst e;exact absurd q (L7.mpr hC)
 refine I.call' (ch:=fp) J.os ⟨λb o e n hb hx=> ?_,λb o e n hb hx=> ?_,J.base.free,λb o e hx=> ?_,J.base.tups,J.base.frzs,J.base.tbls⟩ ?_ J.bare λb z=>⟨(hf b z).2.2.2.1,(hf b z).2.1,(hf b z).2.2.2.2.1,(hf b z).2.2.2.2.2⟩
 .exact(hs.2 b (nC b (Heap.lt_size e))).trans (J.base.keep b o e n hb hx)
 .obtain⟨sl,q⟩:=J.base.slot b o e n hb hx
  exact⟨sl,(hs.2 b (nC b (Heap.lt_size e))).trans q⟩
 .obtain⟨o',q⟩:=J.base.there b o e hx
  exact⟨o',(hs.2 b (nC b (Heap.lt_size e))).trans q⟩
 .intro a o e
  refine(J.hok a o e).stay (λb u hbu q=> ?_) (λ_ q=>q) λ_ _ q=>q
  refine(hs.2 b ?_).trans q
  intro eb
  subst eb
  have hfree:H' b=none:=J.free
  rcases hbu with rfl|z
  .rw[e] at hfree;cases hfree
  .rw[z] at hfree;cases hfree
end
end L2
namespace PySem
section
variable{prog:bp}{w:br}{A:bu}{E:bb->be->Prop}{s:be}
def z2J{o:bJ}{ep:Nat}{Q:bb->be->Prop}(hd:(d==bF)=false)(ho:s.heap.get? d=some o)(hc:o.ExactDict)(hdat:o.data= .dict es ep)
 (hQ:Q (.ref s.heap.objs.size) {s with heap:=s.heap.push {cls:= .type "dict_keyiterator",data:= .fields #[.ref d, .int 0 0, .int es.size 0, .int ep 0]}}):
 bm (bo prog w) A (ft (.ref d)) Q E s:=by
 have hT:s.TypeIs (.ref d) "dict" :=⟨o,ho,hc.1⟩
 refine fe hT F.slot_dict_iter (bD F.slot_dict_iter hT F.entry_dict_iter ?_ (F.args_dict_iter_1 _))
 delta Builtin.«dict.__iter__»
 refine ba ?_
 delta Builtin.Dict.dictSlotNone
 refine ba (dj hT ?_)
 show bm _ _ (pure (Value.ref d)) _ _ s
 refine bf ?_
 show bm _ _ (Builtin.Dict.showsAll d>>=_) _ _ s
 delta Builtin.Dict.showsAll
 rw[qh (by rw[hd];exact n9)]
 refine ba (bf ?_)
 refine ba (bU ho hdat ?_)
 refine ba (cj ho hdat ?_)
 refine ba (bt (bf ⟨_,rfl, "dict_keyiterator",_,⟨_,Heap.get?_push_size _ rfl,rfl⟩,F.slot_dict_keyiterator_next.lookup, ?_⟩))
 simpa[bO] using hQ
def z2K{i ep:Nat}{od:bJ}{es:Array bR}{en:bR}{Q:Option bb->be->Prop}(hit:s.heap.IsKeyIter it d i es.size ep)
 (hod:s.heap.get? d=some od) (hdd:od.data= .dict es ep) (hx:es[i]? =some en)
 (hQ: ∀h',h'.IsKeyIter it d (i+1) es.size ep->Heap.SameBut it s.heap h'->Q (some en.key) {s with heap:=h'}):
 bm (bo prog w) A (cu (.ref it)) Q E s:=by
 obtain⟨o,ho,hc,hd⟩:=id hit
 delta cu
 refine ba (cH (wpAny_callSpecial?_slot (name:=Str.ofString "__next__") hit.typeIs F.slot_dict_keyiterator_next
  (bD F.slot_dict_keyiterator_next hit.typeIs F.entry_dict_keyiterator_next ?_ (F.args_dict_keyiterator_next_1 _))))
 refine ba (bf ?_)
 refine ba ?_
 refine ba ?_
 first|refine ba (bL hit.typeIs (bf ?_))|refine ba (bY hit.typeIs (bf ?_))
 refine ba (cp ho hd ?_)
 have hown:Builtin.Dict_items.ownsTuple "dict_keyiterator" =false:=by decide
 erw[hown,C5,if_false]
 show bm _ _ (if(Value.ref d==Value.none)=true then _ else _) _ _ s
 rw[qh (show ¬((Value.ref d==Value.none)=true) from n9)]
 refine ba (bf ?_)
 refine ba (bU hod hdd ?_)
 rw[qh (by simp)]
 refine ba (bf ?_)
 refine ba (cj hod hdd ?_)
 rw[qh (by simp)]
 refine bf ?_
 have hlt':i<es.size:=by
  rcases S6 i es.size with h|h
  .exact h
  .simp[Array.getElem?_eq_none h] at hx
 have hkey:es[i]=en:=by
  rw[Array.getElem?_eq_getElem hlt'] at hx
  exact Option.some.inj hx
 erw[show ¬((i:Int)<0) from by lia,if_false,t9,Array.getElem?_eq_getElem hlt']
 refine ba ?_
 first|refine ba (bL hit.typeIs (bf ?_))|refine ba (bY hit.typeIs (bf ?_))
 refine ba (dk hit.typeIs ?_)
 show bm _ _ (fY (.ref it) 1 (bO ((i:Int)+1))>>=_) _ _ s
 refine ba (du ho hd (by simp) ?_)
 have hit':(s.heap.update it (Obj.mapFields (·.setIfInBounds 1 (bO ((i:Int)+1))))).IsKeyIter it d (i+1) es.size ep:=
  ⟨_,Heap.get?_update_self _ ho (Obj.isFreed_of_fields (Obj.data_mapFields hd _)),(Obj.cls_mapFields ..).trans hc,by rw[Obj.data_mapFields hd];simp[bO]⟩
 refine ba (bw ?_)
 refine ba (dk (s:={s with heap:=s.heap.update it (Obj.mapFields (·.setIfInBounds 1 (bO ((i:Int)+1))))}) hit'.typeIs ?_)
 show bm _ _ (pure es[i].key) _ _ _
 rw[hkey]
 exact bf (bf ⟨_,rfl,bf (hQ _ hit' (Heap.SameBut.update ..))⟩)
def z3q{i ep:Nat}{od:bJ}{es:Array bR}{Q:Option bb->be->Prop}(hh:A.handled=none)(hit:s.heap.IsKeyIter it d i es.size ep)
 (hod:s.heap.get? d=some od) (hdd:od.data= .dict es ep) (hge:es.size<=i)
 (hQ: ∀h',Heap.ExtBut it s.heap h'->Q none {s with heap:=h'}):bm (bo prog w) A (cu (.ref it)) Q E s:=by
 obtain⟨o,ho,hc,hd⟩:=id hit
 delta cu
 refine ba (cH (wpAny_callSpecial?_slot (name:=Str.ofString "__next__") hit.typeIs F.slot_dict_keyiterator_next
  (bD F.slot_dict_keyiterator_next hit.typeIs F.entry_dict_keyiterator_next ?_ (F.args_dict_keyiterator_next_1 _))))
 refine ba (bf ?_)
 refine ba ?_
 refine ba ?_
 first|refine ba (bL hit.typeIs (bf ?_))|refine ba (bY hit.typeIs (bf ?_))
 refine ba (cp ho hd ?_)
 have hown:Builtin.Dict_items.ownsTuple "dict_keyiterator" =false:=by decide
 erw[hown,C5,if_false]
 show bm _ _ (if(Value.ref d==Value.none)=true then _ else _) _ _ s
 rw[qh (show ¬((Value.ref d==Value.none)=true) from n9)]
 refine ba (bf ?_)
 refine ba (bU hod hdd ?_)
 rw[qh (by simp)]
 refine ba (bf ?_)
 refine ba (cj hod hdd ?_)
 rw[qh (by simp)]
 refine bf ?_
 erw[show ¬((i:Int)<0) from by lia,if_false,t9,Array.getElem?_eq_none hge]
 refine ba ?_
 first|refine ba (bL hit.typeIs (bf ?_))|refine ba (bY hit.typeIs (bf ?_))
 show bm _ _ (fY (.ref it) 0 .none>>=_) _ _ s
 refine ba (du ho hd (by simp) ?_)
 show bm _ _ (newExc (.type "StopIteration") []>>=_) _ _ _
 refine ba ?_
 erw[newExc,newTuple]
 refine ba (bt ?_ (by size_fits))
 refine ba (m:=cK _ _) (dv (a:=Value.none) (by first|rfl|(erw[cK];rfl)) ?_)
 refine bt ?_ (by size_fits)
 erw[raiseNew]
 refine ba (wpAny_handled ?_)
 rw[show A.in1.handled=none from hh]
 refine ba (bf (wpAny_throw ?_))
 refine ba (cO (T:= "StopIteration") (b:=true) ⟨_,Heap.get?_push_size _ rfl,rfl⟩ isSubtype_stop ?_)
 exact bf (hQ _ (((Heap.SameBut.update ..).extBut.push _).push _))
end
end PySem
namespace L2
open PySem PySem.Spec PyProof.Rows
noncomputable def ItD(a:Addr)(o:bJ)(kvs:List (NK×V)):It:=
 ⟨λi H=>i<kvs.length/\H a=some (.frz o (.dT kvs)),λi H x H'=>H'=H/\∃b k v,x= .ref b/\kvs[i]? =some (k,v)/\TK H k b,λi H=>kvs.length<=i/\H a=some (.frz o (.dT kvs))⟩
def zbF{P:bp}{w:br}{H:Hp}{h:Heap}{a:Addr}{o:bJ}{kvs:List (NK×V)}(ok:HOk P w H h)(e:H a=some (.frz o (.dT kvs))):
 h.get? a=some o/\(a==bF)=false/\o.ExactDict/\∃es ep,o.data= .dict es ep/\es.size=kvs.length/\
  ∀(i:Nat) (k:NK) (v:V),kvs[i]? =some (k,v)->∃en b,es[i]? =some en/\en.key= .ref b/\TK H k b:=by
 obtain⟨ho,z,y,xs,r,o',es,ep,e',c,d,l,nd⟩:=ok a _ e
 rw[ho] at e'
 cases e'
 have hl:kvs.length=xs.length:=Paired.length r
 have hs:es.size=xs.length:=size_of_entries l
 refine⟨ho,y,c,es,ep,d,by lia,λi k v q=> ?_⟩
 have key: ∀{kvs:List (NK×V)} {xs:List (NK×Addr×bb)},bH (λ(p:NK×V) (q:NK×Addr×bb)=>p.1=q.1/\TK H p.1 q.2.1/\RelV p.2 q.2.2) kvs xs->
  ∀(i:Nat),kvs[i]? =some (k,v)->∃b u,xs[i]? =some (k,b,u)/\TK H k b:=by
  intro kvs xs r
  induction r with
  |nil=>intro i q;simp at q
  | @cons p x l1 l2 h1 h2 ih=>
   intro i q
   cases i with
   |zero=>
    erw[List.getElem?_cons_zero,Option.some.injEq] at q
    subst q
    obtain⟨e1,e2,_⟩:=h1
    obtain⟨x1,x2,x3⟩:=x
    have e1:k=x1:=e1
    subst e1
    exact⟨x2,x3,rfl,e2⟩
   |succ j=>
    erw[List.getElem?_cons_succ] at q
    obtain⟨b,u,q1,q2⟩:=ih j q
    exact⟨b,u,by simpa using q1,q2⟩
 obtain⟨b,u,q1,q2⟩:=key r i q
 have hi:=entry_at l i
 rw[q1] at hi
 exact⟨_,b,hi,rfl,q2⟩
def z8f{P:bp}{w:br}{K:W.Frag}{tg:bn}(a it:Addr)(o:bJ)(es:Array bR)(ep:Nat)(hd:o.data= .dict es ep)(kvs:List (NK×V)):
 z9X P w K tg (ItD a o kvs) [it] it (λi h=>h.IsKeyIter it a i es.size ep) where
 mem:=by simp
 obj:=λi h st b hb=>by
  have e:b=it:=by simpa using hb
  subst e
  obtain⟨o,e,c,d⟩:=st
  exact⟨o,e,λv z=>by rw[d] at z;cases z⟩
 keep:=λi h h' st k=>st.at λo e=>k it (by simp) o e
 item:=by
  intro X hP hw hK hc i qz s σ H E I hf st hg
  subst hP hw hK
  obtain⟨hi,hq⟩:=hg
  obtain⟨ho,_,_,es',ep',hd',hsz,hat⟩:=zbF I.hok hq
  rw[hd] at hd'
  cases hd'
  obtain⟨f0,f1,f2,f3,f4,f5⟩:=hf it (by simp)
  obtain⟨⟨k,v⟩,hk⟩: ∃p,kvs[i]? =some p:=⟨kvs[i],by simp[hi]⟩
  obtain⟨en,b,he,hb,hB⟩:=hat i k v hk
  refine z2K st ho hd he λh' st' sb=> ?_
  have I1:Inv X qz σ H {s with heap:=h'}:=I.turned (t':=s.toks) (λb o hb e=>(sb.2 b hb).trans e) f0 f1 f3 f4 f5
  obtain⟨o2,e2,c2,d2⟩:=id st'
  exact⟨_,rfl,go_of (s:={s with heap:=h'}) e2 c2 d2 (by decide) ⟨.ref b,H,I1,hb,⟨rfl,b,k,v,rfl,hk,hB⟩,st',λb hb=>(hf b hb).1⟩⟩
 done:=by
  intro X hP hw hK hc i qz s σ H E I hf st hg
  subst hP hw hK
  obtain⟨hi,hq⟩:=hg
  obtain⟨ho,_,_,es',ep',hd',hsz,hat⟩:=zbF I.hok hq
  rw[hd] at hd'
  cases hd'
  obtain⟨f0,f1,f2,f3,f4,f5⟩:=hf it (by simp)
  exact z3q (I.ok.hd hc) st ho hd (by lia) λh' eb=>⟨rfl,I.turned (t':=s.toks) (λb o hb e=>eb b o hb e) f0 f1 f3 f4 f5⟩
 self:=λ_ _ _ _ _ st h=>wpAny_pyIter_keyiter st h
section
variable{X:Cx}{tg:bn}
def Inv.freeze{qz:List (Addr×bJ)}{σ:St}{H:Hp}{s:be}{a:Addr}{kvs:List (NK×V)}(I:Inv X qz σ H s)(h:H a=some (.dT kvs)):
 ∃o es ep,s.heap.get? a=some o/\o.ExactDict/\o.data= .dict es ep/\(a==bF)=false/\es.size=kvs.length/\Inv X qz σ (upd H a (.frz o (.dT kvs))) s:=by
 obtain⟨z,y,xs,r,o,es,ep,e,c,d,l,nd⟩:=I.hok a _ h
 have hs:es.size=xs.length:=size_of_entries l
 have hl:kvs.length=xs.length:=Paired.length r
 refine⟨o,es,ep,e,c,d,y,by lia, ?_⟩
 have tn: ∀b xs,H b=some (.tup xs)->(upd H a (.frz o (.dT kvs))) b=some (.tup xs):=λb xs q=>by
  rw[y3 (z0o q h (by intro z;cases z))];exact q
 have hw:=I.write (x:=a) (e:=a) (o:= .frz o (.dT kvs)) (h':=s.heap) (t':=s.toks) (by rw[h];trivial) (.inl rfl) (λb u _ q=>q) ⟨o,e⟩
  ⟨e,z,y,xs,Paired.mapP r λp q z=>⟨z.1,z.2.1.stay tn,z.2.2⟩,o,es,ep,e,c,d,l,nd⟩
 exact hw
end
def z0K.new(o:HO)(h:H p=none):z0K H (upd H p o):=λx u e=>by rw[y3 (j0 e h)];exact e
theorem Paired.get{α β:Type}{F:α->β->Prop}: ∀{l₁:List α} {l₂:List β},bH F l₁ l₂->∀(i:Nat) (a:α),l₁[i]? =some a->∃b,l₂[i]? =some b/\F a b
 |_,_, .nil,i,a,e=>by simp at e
 |_,_, .cons r t,0,a,e=>by simp at e;subst e;exact⟨_,rfl,r⟩
 |_,_, .cons r t,i+1,a,e=>by
  obtain⟨b,h1,h2⟩:=Paired.get t i a (by simpa using e)
  exact⟨b,by simpa using h1,h2⟩
def z9Y(K:W.Frag)(H:Hp)(xs:List V)(Q:VK):Prop:= ∀p H',(H'=H/\H p=some (.tup xs))\/(H p=none/\H'=upd H p (.tup xs))->Q (.ref p) H'
def z9Y.intro{K:W.Frag}{H:Hp}{xs:List V}{Q:VK}(h: ∀p H',H' p=some (.tup xs)->z0K H H'->Q (.ref p) H'):z9Y K H xs Q:=by
 intro p H' e
 rcases e with⟨rfl,s⟩|⟨n,rfl⟩
 .exact h p H' s (z0K.refl _)
 .exact h p _ y6 (z0K.new _ n)
section
variable{X:Cx}
def zjg(K:W.Frag):V->Option Int->Option Int->Hp->VK->Prop:=λx lo hi H Q=> ∃a xs,x= .ref a/\H a=some (.tup xs)/\z9Y K H (z7V xs lo hi) Q
def zd4:SlR X (zjg X.K):=by
 intro qz s σ H x v vl vu lo hi sl Q I rx hs pl pu h
 obtain⟨a,xs,rfl,hx0,q⟩:=h
 have hx:SqT X.K H a xs:=SqT.of hx0
 by_cases hw:HT.sIx xs.length 0 lo=0/\HT.sIx xs.length xs.length hi=xs.length
 .cases rx
  obtain⟨its,r,ht,hz⟩:=I.tuple hx
  have hlen:its.toArray.size=xs.length:=by rw[i8];exact r.length.symm
  refine⟨"tuple",_,PyProof.Rows.slot_tuple_getitem.lookup,ht.typeIs, ?_⟩
  refine HT.getItem_tuple_whole ht hs pl pu (by rw[hlen];exact hw) ⟨.ref a,H,I,rfl,q a H (.inl ⟨rfl, ?_⟩)⟩
  rw[z75 hw]
  exact hx0
 .exact zfm qz s σ H _ v vl vu lo hi sl Q I rx hs pl pu ⟨a,xs,rfl,hx,hw,λp hp=>q p _ (.inr ⟨hp,rfl⟩)⟩
def zar(K:W.Frag):R2:=λx y H Q=> ∃a b xs ys,x= .ref a/\y= .ref b/\H a=some (.tup xs)/\H b=some (.tup ys)/\xs.length+ys.length<=qg/\z9Y K H (xs++ys) Q
def z8g:OpR X (cg .Add) (zar X.K):=by
 intro qz s σ H x y v u Q I rx ry h
 obtain⟨a,b,xs,ys,rfl,rfl,ha0,hb0,hz,q⟩:=h
 have ha:SqT X.K H a xs:=SqT.of ha0
 have hb:SqT X.K H b ys:=SqT.of hb0
 by_cases hx:xs=[]
 .subst hx
  cases rx
  cases ry
  obtain⟨its,r1,p1,_⟩:=I.tuple ha
  obtain⟨its2,r2,p2,_⟩:=I.tuple hb
  have e0:its=[]:=(g7.nil_iff r1).mpr rfl
  subst e0
  obtain⟨⟨cls,dd,data,sl⟩,ho,hc,n,hd⟩:=id p1
  obtain⟨⟨cls2,dd2,data2,sl2⟩,ho2,hc2,n2,hd2⟩:=id p2
  simp only at hc hd hc2 hd2
  subst hc hd hc2 hd2
  exact dW ⟨_,ho,rfl⟩ ⟨_,ho2,rfl⟩ cQ dG PySem.F.slot_tuple_add PySem.F.entry_tuple_add (PySem.F.args_tuple_add_2 _ _)
   (tuple_addW0 a b _ _ n n2 dd dd2 sl sl2 (by simp)) ⟨ho,ho2, .ref b,H,I,rfl,q b H (.inl ⟨rfl,hb0⟩)⟩
 .refine zcL qz s σ H _ _ v u Q I rx ry ⟨a,b,xs,ys,rfl,rfl,ha,hb,hx,hz,λe=> ?_,λ_ p hp=>q p _ (.inr ⟨hp,rfl⟩)⟩
  refine q a H (.inl ⟨rfl, ?_⟩)
  rw[e,e8]
  exact ha0
def z8h:CallR X (.type "tuple") (λxs H Q=> ∃(p:Addr) (ys:List V),xs=[.ref p]/\(SqL X.K H p ys\/H p=some (.tup ys))/\z9Y X.K H ys Q):=by
 intro qz s σ H xs us Q I r h
 obtain⟨p,ys,rfl,hs,q⟩:=h
 refine z3X qz s σ H _ us Q I r ⟨p,ys,rfl, ?_⟩
 rcases hs with hs|hs
 .exact .inl ⟨hs,λl hl=>q l _ (.inr ⟨hl,rfl⟩)⟩
 .exact .inr ⟨SqT.of hs,q p H (.inl ⟨rfl,hs⟩)⟩
end
end L2
namespace PyProof.Rows
open PySem
section
variable{prog:bp}{w:br}{A:bu}{E:bb->be->Prop}{s:be}
def z2L{h h':Heap}(hl:h.IsList t items)(k: ∀o,h.get? t=some o->h'.get? t=some o):h'.IsList t items:=by
 obtain⟨o,ho,hc,n,hd⟩:=hl
 exact⟨o,k o ho,hc,n,hd⟩
theorem z4Q{items:Array bb}(hne:t≠it): ∀(n i:Nat) (s:be) (Q:List bb->be->Prop),s.heap.IsListIter it t i->s.heap.IsList t items->i+n<=items.size->
 (∀h',h'.IsListIter it t (i+n)->Heap.SameBut it s.heap h'->Q ((items.toList.drop i).take n) {s with heap:=h'})->bm (bo prog w) A (draw (.ref it) n) Q E s
 |0,i,s,Q,hit,_,_,hQ=>by
  show bm _ _ (pure []) Q E s
  exact bf (by simpa using hQ s.heap hit (Heap.SameBut.refl ..))
 |n+1,i,s,Q,hit,ht,hle,hQ=>by
  have hlt:i<items.size:=by lia
  show bm _ _ (cu (.ref it)>>=_) Q E s
  refine ba (cS hit ht (x:=items[i]) (by simp[hlt]) λh₁ hit₁ hs₁=> ?_)
  refine ba (bw (z4Q hne n (i+1) _ _ hit₁ (z2L ht λo e=>(hs₁.2 t hne).trans e) (by lia) λh₂ hit₂ hs₂=>bf ?_))
  have hd:items.toList.drop i=items[i]::items.toList.drop (i+1):=by simp[D0,hlt]
  have:=hQ h₂ (by rw[show i+(n+1)=i+1+n by lia];exact hit₂) (hs₁.trans hs₂)
  rw[hd,E9] at this
  exact this
def z2u{Q:List bb->be->Prop}(hh:A.handled=none)(ht:s.heap.IsList t items)
 (hQ: ∀h',Heap.ExtBut s.heap.objs.size s.heap h'->Q items.toList {s with heap:=h'}):bm (bo prog w) A (fx (.ref t) items.size none) Q E s:=by
 have hlt:t≠s.heap.objs.size:=by obtain⟨o,ho,_⟩:=ht;exact m5 (Heap.lt_size ho)
 have hT:s.TypeIs (.ref t) "list" :=by obtain⟨o,ho,hc,_⟩:=ht;exact⟨o,ho,hc⟩
 delta fx
 refine ba ?_
 .delta notIterableAtAll
  refine ba (cf hT PySem.F.slot_list_iter.lookup ?_)
  refine bf ?_
  erw[C5,if_false]
  refine ba (bw (cB ht ?_))
  refine ba (bw (z4Q hlt items.size 0 _ _ ⟨_,Heap.get?_push_size _ rfl,rfl,rfl⟩ (z2L ht λo e=>Heap.get?_push_of_some _ e) (by lia) λh₁ hit₁ hs₁=> ?_))
  have hall:List.take items.size (List.drop 0 items.toList)=items.toList:=by
   rw[D9];exact D3 (by simp)
  rw[hall]
  rw[qh (by simp)]
  have ht₁:h₁.IsList t items:=z2L ht λo e=>(hs₁.2 t hlt).trans (Heap.get?_push_of_some _ e)
  refine ba (bw (di hh hit₁ ht₁ (by simp) λh₂ he₂=> ?_))
  erw[Option.isSome_none,C5,if_false]
  refine bf (hQ h₂ λb o hb e=>he₂ b o hb (hs₁.extBut b o hb (Heap.get?_push_of_some _ e)))
def z25{env:dw}{elts:List bn}{x1}{pos:bN}{Q:Unit->be->Prop}(hh:A.handled=none)(ht:s.heap.IsList t items)
 (hn:(bG elts env).length=items.size) (hstar:(bG elts env).findIdx? (·.1)=none)
 (h: ∀h',Heap.ExtBut s.heap.objs.size s.heap h'->bm (bo prog w) A (cN ((bG elts env).map (·.2)) items.toList) Q E {s with heap:=h'}):
 bm (bo prog w) A (cz (.Tuple elts x1 pos) env (.ref t)) Q E s:=by
 rw[assign_Tuple]
 refine ba (bV ?_)
 delta unpack
 rw[hn,hstar]
 exact ba (bw (z2u hh ht h))
end
end PyProof.Rows
namespace L2
open PySem PySem.Spec PyProof.Rows
section
variable{X:Cx}{pos:bN}
def zl7(K:W.Frag)(n:Nat)(t:TGs):TG:=λv σ H Q=> ∃a xs,v= .ref a/\(SqT K H a xs\/SqL K H a xs)/\xs.length=n/\t xs σ H Q
def zfW{k:Nat}{n:Nat}(hc:X.calm=true)(h:PGs X es t)
 (hn:(bG es X.env).length=n:=by rfl) (hst:(bG es X.env).findIdx? (·.1)=none:=by rfl):PG X (.Tuple es k pos) (zl7 X.K n t):=by
 intro qz s σ H v u Q I r hw
 obtain⟨a,xs,e1,hq|hq,hl,hw⟩:=hw
 .exact zf6 hc h hn hst qz s σ H v u Q I r ⟨a,xs,e1,hq,hl,hw⟩
 .subst e1
  cases r
  obtain⟨its,rv,ht,hz⟩:=I.list hq
  refine z25 (I.ok.hd hc) ht.isList (by simp[hn,<-hl,rv.length]) hst λh' hx=> ?_
  have I1:Inv X qz σ H {s with heap:=h'}:=I.kept (t':=s.toks) λb o e=>hx b o (m5 (Heap.lt_size e)) e
  exact h qz _ σ H xs _ Q I1 (by simpa using rv) hw
end
noncomputable abbrev z8i(ifs:List bn)(env:dw):dl Bool:=forIn ifs true λc r=>if r=true then do let ok<-gg c env (bA c env);pure (ForInStep.yield ok) else pure (ForInStep.yield r)
def z1j{prog:bp}{w:br}{A:bu}{R:gi->be->Prop}{s:be}{elt qw iter:bn}{ifs:List bn}{scope:Scope}{pos:bN}{it acc:bb}{env:dw}(I:Nat->be->Prop)
 (turn: ∀n s,I n s->bm (bo prog w) A (cu it) (λr s₁=>match r with
  |none=>R (.ok .next) s₁
  |some v=>bm (bo prog w) A (bS qw it v) (λ_ s₁=>bm (bo prog w) A (cz qw env v) (λ_ s₂=>bm (bo prog w) A (z8i ifs env) (λok s₃=>
   if ok=true then bm (bo prog w) A (bA elt env) (λx s₃=>
   bm (bo prog w) A (call (.builtin "list.append") [acc,x]) (λ_ s₄=> ∃m,m<n/\I m s₄) (λ_ _=>False) s₃)
   (λ_ _=>False) s₃ else ∃m,m<n/\I m s₃) (λ_ _=>False) s₂) (λ_ _=>False) s₁) (λ_ _=>False) s₁) (λ_ _=>False) s)
 (n:Nat) (h:I n s):
 cn (bo prog w) A (.compLoop (.ListComp elt [⟨qw,iter,ifs,0⟩] scope pos) 0 it acc env) R s:=by
 refine codeAny_loop rfl I (λn s hI=> ?_) n h
 show bm _ _ ((compTurn (.ListComp elt [⟨qw,iter,ifs,0⟩] scope pos) 0 it acc env).onRaise (λx=>do ge x env;theTreesLotGoes x)) _ _ s
 refine wpAny_noted ?_
 rw[compTurn_list]
 refine ba (bV (ba (bz (turn n s hI) (λr s₁ h₁=> ?_) λ_ _ h'=>h'.elim)))
 cases r with
 |none=>exact bf h₁
 |some v=>
  refine ba (bz h₁ (λ_ s₁ h₁=> ?_) λ_ _ h'=>h'.elim)
  refine ba (bz h₁ (λ_ s₂ h₂=>ba (bz h₂ (λok s₃ h₃=> ?_) λ_ _ h'=>h'.elim)) λ_ _ h'=>h'.elim)
  cases ok with
  |false=>exact bf ⟨rfl,h₃⟩
  |true=>
   exact ba (ba (bz h₃ (λx s₄ h₄=>ba (bz h₄ (λ_ s₅ h₅=>bf (bf ⟨rfl,h₅⟩)) λ_ _ h'=>h'.elim)) λ_ _ h'=>h'.elim))
def PTs(X:Cx)(ifs:List bn)(t:TT):Prop:=
 ∀(qz:List (Addr×bJ)) (s:be) (σ:St) (H:Hp) (Q:Bool->Hp->Prop),Inv X qz σ H s->t σ H Q->bm (bo X.prog X.w) X.A (z8i ifs X.env) (TP X qz σ Q) X.xe s
def z8j:PTs X [] (λ_ H Q=>Q true H):=λqz s σ H Q I h=>wpAny_tests_nil ⟨H,I,h⟩
def zd5(h:PT X c t):PTs X [c] t:=λqz s σ H Q I q=>wpAny_tests_one (h qz s σ H Q I q)
section
variable{X:Cx}{tg iter elt:bn}{ifs:List bn}{pos:bN}{scope:Scope}{own qk:List Str}{ix:List Nat}{wi:TI}{g:TG}{tt:TT}{te:TE}
def z8k(K:W.Frag)(wi:TI)(g:TG)(tt:TT)(te:TE)(k:Nat)(ix:List Nat):TE:=λ σ H Q=>wi σ H λJ H1=> ∀D,H1 D=none->(∀a o,K.lookup a=some o->upd H1 D (.lst []) a=none)->
 ∃W:Nat->Nat->List V->St->Hp->Prop,(∃m,W 0 m [] (z05 k ix σ) (upd H1 D (.lst [])))/\
  ∀i m ys σ' H',W i m ys σ' H'->H' D=some (.lst ys)/\((J.stop i H'/\Q (.ref D) H')\/
   (J.go i H'/\∀x H2,J.yld i H' x H2->g x σ' H2 λ σ2 H3=>tt σ2 H3 λok H3=>if ok=true then te σ2 H3 λy H4=>H4 D=some (.lst ys)/\ys.length<qg/\∃m',m'<m/\W (i+1) m' (ys++[y]) σ2 (upd H4 D (.lst (ys++[y])))
    else ∃m',m'<m/\W (i+1) m' ys σ2 H3))
end
structure K4(osc sc:Scope)(own qk N:List Str)(ix:List Nat):Prop where
 kind:sc.kind= .function
 names: ∀y∈sc.names,y.2= .local->sc.names.lookup y.1=some .local
 fr: ∀y∈sc.names,y.2= .free->osc.names.lookup y.1=some .cell\/osc.names.lookup y.1=some .free
 nd:(own++qk).Nodup
 frl: ∀x∈qk,sc.names.lookup x=some .free
 ixs:ix.map (λi=>N[i]?)=qk.map some
 frc: ∀y∈sc.names,y.2= .cell->y.1∉qk
 owf: ∀y∈sc.names,y.2= .free->y.1∉own
noncomputable def K7(osc sc:Scope)(own qk N:List Str)(ix:List Nat):Bool:=
 decide (sc.kind= .function)&&sc.names.all (λy=>decide (y.2= .local->sc.names.lookup y.1=some .local))&&
  sc.names.all (λy=>decide (y.2= .free->osc.names.lookup y.1=some .cell\/osc.names.lookup y.1=some .free))&&decide (own++qk).Nodup&&qk.all (λx=>decide (sc.names.lookup x=some .free))&&
  decide (ix.map (λi=>N[i]?)=qk.map some)&&sc.names.all (λy=>decide (y.2= .cell->y.1∉qk))&&sc.names.all (λy=>decide (y.2= .free->y.1∉own))
def K7.sc{osc sc:Scope}{own qk N:List Str}{ix:List Nat}(h:K7 osc sc own qk N ix=true):K4 osc sc own qk N ix:=by
 delta K7 at h
 erw[l9,B2,decide_eq_true_eq] at h
 obtain⟨⟨⟨⟨⟨⟨⟨h1,h3⟩,h4⟩,h5⟩,h6⟩,h7⟩,h8⟩,h9⟩:=h
 exact⟨h1,h3,h4,h5,h6,h7,h8,h9⟩
def compCxC(X:Cx)(scope:Scope)(own qk:List Str)(cl:List (Str×Addr))(C:Addr)(s₀:be)(H₀:Hp)(fp:List Addr)(pn:List (Addr×bJ)):Cx:=
 {compCx X scope own qk cl C s₀ H₀ fp pn with fn:=λx=>own.contains x}
theorem z0q: ∀(names:List (Str×bZ)) (n:Nat) (a b:List (Str×Addr)),bx n names (a++b)=bx n names a++b
 |[],_,_,_=>rfl
 |(name,kind)::r,n,a,b=>by
  unfold bx
  split
  .exact z0q r (n+1) ((name,n)::a) b
  .exact z0q r n a b
theorem z0r: ∀(names:List (Str×bZ)) (n:Nat) (a:List (Str×Addr)) (x:Str) (c:Addr),(x,c)∈bx n names a->(x,c)∈a\/(x,NameKind.cell)∈names
 |[],_,_,_,_,h=> .inl h
 |(name,kind)::r,n,a,x,c,h=>by
  unfold bx at h
  split at h
  .rename_i hk
   rcases z0r r (n+1) _ x c h with q|q
   .rcases c8.mp q with q|q
    .cases q;rw[eq_of_beq hk];exact .inr c9
    .exact .inl q
   .exact .inr (b7 _ q)
  .rcases z0r r n a x c h with q|q
   .exact .inl q
   .exact .inr (b7 _ q)
theorem z0s: ∀(names:List (Str×bZ)) (n:Nat) (a:List (Str×Addr)) (x:Str),((∃c,a.lookup x=some c)\/(x,NameKind.cell)∈names)->∃c,(bx n names a).lookup x=some c
 |[],_,_,_,h=>by rcases h with h|h;exact h;cases h
 |(name,kind)::r,n,a,x,h=>by
  unfold bx
  split
  .rename_i hk
   refine z0s r (n+1) _ x ?_
   by_cases hx:(x==name)=true
   .exact .inl ⟨n,by rw[r8,hx]⟩
   .have hx':(x==name)=false:=by simpa using hx
    rcases h with⟨c,h⟩|h
    .exact .inl ⟨c,by rw[r8,hx'];exact h⟩
    .rcases c8.mp h with q|q
     .cases q;simp at hx
     .exact .inr q
  .rename_i hk
   refine z0s r n a x ?_
   rcases h with h|h
   .exact .inl h
   .rcases c8.mp h with q|q
    .cases q;simp at hk
    .exact .inr q
def z0c{M:gk}{A:bu}{E:bb->be->Prop}{s:be}{scope:Scope}{globals:Addr}{cl:List (Str×Addr)}{qual:Str}{func:Option Addr}{code:bb}{env:dw}{builtins:Addr}{Q:dw->be->Prop}
 (hQ: ∀h',h'.Ns s.heap.objs.size (λ_=>none)->(∀b o,s.heap.get? b=some o->h'.get? b=some o)->CellsOk h' (s.heap.objs.size+1) (bx (s.heap.objs.size+1) scope.names [])->
  Q (newEnv scope s.heap.objs.size globals (bx (s.heap.objs.size+1) scope.names []++cl) qual func code (some env) builtins) {s with heap:=h'}):
 bm M A (newFunctionEnv scope globals cl [] qual func code (some env) builtins) Q E s:=by
 erw[newFunctionEnv,O2,if_true]
 refine ba (wpAny_alloc ?_)
 refine ba (wpAny_layCells _ (λname kind cells=>by cases hkc:kind==NameKind.cell<;>simp[hkc]) _ _ _ _ ?_)
 have ok:=cellsFrom_ok scope.names (s.heap.push {cls:= .type "dict",data:= .dict #[]}) (s.heap.objs.size+1) [] ⟨λ_ _ hm=>(nomatch hm),List.Pairwise.nil⟩ (by rw[Heap.size_push];exact b9 _)
 rw[Heap.size_push] at ok
 rw[show({s with heap:=s.heap.push {cls:= .type "dict",data:= .dict #[]}}:be).heap.objs.size=s.heap.objs.size+1 from Heap.size_push ..]
 rw[show bx (s.heap.objs.size+1) scope.names cl=bx (s.heap.objs.size+1) scope.names []++cl from z0q scope.names _ [] cl]
 refine ba ?_
 rw[List.forIn_nil]
 refine bf (bf ?_)
 exact hQ _ ((Heap.Ns.new s.heap (.type "dict")).keeps (pushCells_keeps _ _)) (λb o e=>pushCells_keeps _ _ b o (Heap.get?_push_of_some _ e)) ok
section
variable{X:Cx}{tg iter elt:bn}{ifs:List bn}{pos:bN}{scope:Scope}{own qk:List Str}{ix:List Nat}{wi:TI}{g:TG}{tt:TT}{te:TE}
def z06(X:Cx)(scope:Scope)(n:Nat):List (Str×Addr):=bx n scope.names []++z2H X.env scope.names []
def K8{n:Nat}(h:(z06 X scope n).lookup x=some c):(bx n scope.names []).lookup x=some c\/((bx n scope.names []).lookup x=none/\(z2H X.env scope.names []).lookup x=some c):=by
 delta z06 at h
 rw[O4] at h
 cases e:(bx n scope.names []).lookup x with
 |some d=>rw[e] at h;exact .inl h
 |none=>rw[e] at h;exact .inr ⟨rfl,h⟩
def z3A{n:Nat}(h:(bx n scope.names []).lookup x=some c):(z06 X scope n).lookup x=some c:=by
 delta z06
 rw[O4,h];rfl
def z3B{n:Nat}(h:(bx n scope.names []).lookup x=none)(h2:(z2H X.env scope.names []).lookup x=some c):(z06 X scope n).lookup x=some c:=by
 delta z06
 rw[O4,h,h2];rfl
def Inv.ofC(I:Inv (compCxC X scope own qk cl C s₀ H₀ fp pn) qz σ H s):Inv (compCx X scope own qk cl C s₀ H₀ fp pn) qz σ H s:=
 ⟨⟨I.ok.mod,I.ok.kind,I.ok.glob,I.ok.blt,I.ok.above,I.ok.inj,I.ok.has,λ_ _ z=>T5 z,I.ok.hd,I.ok.frames,I.ok.stk,I.ok.exf,I.ok.bs,I.ok.bsz,I.ok.noex,I.ok.exfs,I.ok.funs,I.ok.frf⟩,I.os,I.bare,I.base,I.loc,I.cell,I.free,I.freeC,I.pin,I.hok,I.len⟩
def z5V{s s1:be}(S:K4 X.env.scope scope own qk X.N ix)(I:Inv X qz σ H s)(hf: ∀b∈fp,z5N X qz H b)(hb: ∀b∈fp,b<s.heap.objs.size)
 (ho:s1.os=s.os) (hg:s1.gens=s.gens) (hk: ∀b o,s.heap.get? b=some o->s1.heap.get? b=some o) (hn:s1.heap.Ns s.heap.objs.size (λ_=>none)) (hcl:CellsOk s1.heap (s.heap.objs.size+1) (bx (s.heap.objs.size+1) scope.names [])):
 Inv (compCxC X scope own qk (z06 X scope (s.heap.objs.size+1)) s.heap.objs.size s H fp (X.pn++qz)) [] (z05 own.length ix σ) H s1:=by
 have clos: ∀x c,(z2H X.env scope.names []).lookup x=some c->X.env.cells.lookup x=some c/\(x,NameKind.free)∈scope.names:=λx c h=>by
  rcases z47 _ _ h with q|q
  .exact nomatch q
  .exact q
 have hlen:ix.length=qk.length:=by
  have:=congrArg O6 S.ixs
  simpa using this
 have cne: ∀x c,X.env.cells.lookup x=some c->c<s.heap.objs.size:=λx c e=>by
  obtain⟨v,o,q,_⟩:=I.cell x c e
  exact Heap.lt_size q
 have nw: ∀x c,(bx (s.heap.objs.size+1) scope.names []).lookup x=some c->s1.heap.IsCell c none/\s.heap.objs.size+1<=c:=λx c e=>hcl.empty x c (PySem.mem_of_lookup e)
 have dis: ∀x y c,(z06 X scope (s.heap.objs.size+1)).lookup x=some c->(z06 X scope (s.heap.objs.size+1)).lookup y=some c->x=y:=λx y c h1 h2=>by
  rcases K8 h1 with q1|⟨_,q1⟩<;>rcases K8 h2 with q2|⟨_,q2⟩
  .exact PySem.name_of_addr hcl.apart (PySem.mem_of_lookup q1) (PySem.mem_of_lookup q2)
  .exact absurd (l4 (cne _ _ (clos _ _ q2).1) (D6 (nw _ _ q1).2)) (A8 _)
  .exact absurd (l4 (cne _ _ (clos _ _ q1).1) (D6 (nw _ _ q2).2)) (A8 _)
  .exact I.ok.inj x y c (clos _ _ q1).1 (clos _ _ q2).1
 refine⟨⟨I.ok.mod,S.kind,I.ok.glob,I.ok.blt,b9 _,dis,λx hx=> ?_,λx c z e=> ?_,I.ok.hd,I.ok.frames, .inl rfl,λb z=>⟨m5 (hb b z),λx c e=> ?_⟩,I.bs,
  C1 I.ok.bsz I.sz,λb o e z=> ?_,λb z=> ?_,I.stack,I.stkFree⟩,ho, ?_,Un.kept hk,⟨_,hn,λi x v h1 h2 h3=> ?_⟩,λx c e=> ?_,I.fresh,λx c e=> ?_,λp hp=> ?_,I.hok.kept hk, ?_⟩
 .have hx:(relabel scope X.env).names.lookup x=some .cell\/(relabel scope X.env).names.lookup x=some .free:=hx
  rcases z0f hx with q|q
  .have m:(x,NameKind.free)∈scope.names:=PySem.mem_of_lookup q
   obtain⟨c,hc⟩:=I.ok.has x (S.fr _ m rfl)
   obtain⟨c',hc'⟩:=z2I (env:=X.env) scope.names [] (.inr ⟨m,c,hc⟩)
   cases e:(bx (s.heap.objs.size+1) scope.names []).lookup x with
   |some d=>exact⟨d,z3A e⟩
   |none=>exact⟨c',z3B e hc'⟩
  .obtain⟨c,hc⟩:=z0s scope.names (s.heap.objs.size+1) [] x (.inr (PySem.mem_of_lookup q))
   exact⟨c,z3A hc⟩
 .have e:(z06 X scope (s.heap.objs.size+1)).lookup x=some c:=e
  have z:x∈own:=by
   have z:own.contains x=true:=z
   simpa using z
  rcases K8 e with q|⟨_,q⟩
  .exact D6 (nw _ _ q).2
  .exact absurd z (S.owf _ (clos _ _ q).2 rfl)
 .have e:(z06 X scope (s.heap.objs.size+1)).lookup x=some c:=e
  rcases K8 e with q|⟨_,q⟩
  .exact F9 (l4 (hb b z) (D6 (nw _ _ q).2))
  .exact(hf b z).2.2.2.2.1 x c (clos x c q).1
 .rcases(hf b z).2.2.2.1 with q|q
  .exact I.ok.noex b o e q
  .exact absurd (Heap.lt_size (I.ok.bs b o e).1) (L7.mpr q)
 .intro q
  rcases c8.mp (I.stkSub b q) with r|r
  .exact(hf b z).2.1 r
  .exact(hf b z).2.2.1 r
 .rw[hg];exact I.bare
 .have h2:(z05 own.length ix σ)[i]? =some (some v):=h2
  have h1:(own++qk)[i]? =some x:=h1
  delta z05 at h2
  by_cases hi:i<own.length
  .rw[List.getElem?_append_left (by simpa using hi),List.getElem?_replicate] at h2
   rw[qy hi] at h2
   cases h2
  .have hi:own.length<=i:=L7.mp hi
   rw[List.getElem?_append_right (by simpa using hi),R1,List.getElem?_map] at h2
   rw[List.getElem?_append_right hi] at h1
   cases e:ix[i -own.length]? with
   |none=>rw[e] at h2;cases h2
   |some j=>
    rw[e] at h2
    have h2:some ((σ[j]?).getD none)=some (some v):=h2
    have hσ:σ[j]? =some (some v):=by
     cases q:σ[j]? with
     |none=>rw[q] at h2;cases h2
     |some z=>rw[q] at h2;exact h2
    have hN:X.N[j]? =some x:=by
     have:=congrArg (λl:List (Option Str)=>l[i -own.length]?) S.ixs
     erw[List.getElem?_map,e,h1,i9] at this
     exact Option.some.inj this
    have mf:x∈qk:=List.mem_of_getElem? h1
    have lf:=S.frl x mf
    have m:(x,NameKind.free)∈scope.names:=PySem.mem_of_lookup lf
    have hos:=S.fr _ m rfl
    obtain⟨mm,hns,hl⟩:=I.loc
    obtain⟨u,ru,look⟩:=hl j x v hN hσ (hos.elim (λq=> .inr (.inl q)) λq=> .inr (.inr q))
    refine⟨u,ru, ?_⟩
    rcases look with⟨kk,_⟩|⟨kk,c,hc,ic⟩
    .have kk:X.env.scope.names.lookup x=some .local:=kk
     have hos:X.env.scope.names.lookup x=some .cell\/X.env.scope.names.lookup x=some .free:=hos
     rw[kk] at hos
     rcases hos with q|q<;>cases q
    .obtain⟨c',hc'⟩:=z2I (env:=X.env) scope.names [] (.inr ⟨m,c,hc⟩)
     have e2:=(clos x c' hc').1
     rw[hc] at e2
     cases e2
     have e3:(bx (s.heap.objs.size+1) scope.names []).lookup x=none:=by
      cases e4:(bx (s.heap.objs.size+1) scope.names []).lookup x with
      |none=>rfl
      |some d=>
       rcases z0r _ _ _ _ _ (PySem.mem_of_lookup e4) with q|q
       .cases q
       .exact absurd mf (S.frc _ q rfl)
     refine .inr ⟨K6 lf,c,z3B e3 hc', ?_⟩
     obtain⟨o,q1,q2⟩:=ic
     exact⟨o,hk _ _ q1,q2⟩
 .have e:(z06 X scope (s.heap.objs.size+1)).lookup x=some c:=e
  rcases K8 e with q|⟨_,q⟩
  .exact⟨none,(nw _ _ q).1⟩
  .obtain⟨v,o,q1,q2⟩:=I.cell x c (clos x c q).1
   exact⟨v,o,hk _ _ q1,q2⟩
 .have e:(z06 X scope (s.heap.objs.size+1)).lookup x=some c:=e
  rcases K8 e with q|⟨_,q⟩
  .exact I.hok.fresh (D6 (nw _ _ q).2)
  .exact I.freeC x c (clos x c q).1
 .have hp:p∈(X.pn++qz)++[]:=hp
  rw[e8] at hp
  obtain⟨e,n,ne,nf,d⟩:=I.pin p hp
  refine⟨hk _ _ e,n,m5 (Heap.lt_size e),λq=> ?_,d⟩
  rcases c8.mp (I.stkSub p.1 q) with r|r
  .exact ne r
  .exact nf r
 .show(z05 own.length ix σ).length=(own++qk).length
  rw[z76,hlen,n8]
end
def Inv.turnedL{X:Cx}{qz:List (Addr×bJ)}{σ:List (Option V)}{H:Hp}{s:be}{h':Heap}{t':Nat}{fp:List Addr}(I:Inv X qz σ H s)(k: ∀b o,b∉fp->s.heap.get? b=some o->h'.get? b=some o)(hf: ∀b∈fp,z5N X qz H b):Inv X qz σ H {s with heap:=h',toks:=t'}:=by
 have nit: ∀b u,H b=some u->b∉fp:=λb u e z=>by rw[(hf b z).1] at e;cases e
 refine I.step (g':=s.gens) (d':=s.drawn) (ch:=fp) (λb hb=> ?_) (λb o _ _ hc e _=>k b o hc e) (λb o _ _ hc e _=>⟨o.slots,k b o hc e⟩) (λ_ _ _ _ n=>n)
  (λb o hc e=>⟨o,k b o hc e⟩) (λ_ _ e=>e) (λ_ _ _ e=>e) (λb ps e=>⟨#[],by rw[e];simp⟩) (λm hm=> ?_) (λb u e=> ?_) I.bare
 .obtain⟨f0,f1,f2,f3,f4,f5⟩:=hf b hb
  exact⟨f3,f1,f4,f5⟩
 .obtain⟨o,es,ep,ho,r⟩:=hm
  exact⟨o,es,ep,k _ o (λz=>(hf _ z).2.1 rfl) ho,r⟩
 .refine(I.hok b u e).stay (λc v hc q=>k c v ?_ q) (λ_ q=>q) λ_ _ q=>q
  rcases hc with z|z
  .rw[z];exact nit b u e
  .exact nit c _ z
def Ite(K:W.Frag)(a:Addr):It:=
 ⟨λi H=> ∃xs x,SqL K H a xs/\xs[i]? =some x,λi H v H'=> ∃p x,H p=none/\v= .ref p/\H'=upd H p (.tup [.int i,x])/\(∀xs,SqL K H a xs->xs[i]? =some x)/\∀b o,K.lookup b=some o->H' b=none,λi H=> ∃xs,SqL K H a xs/\xs.length<=i⟩
def z8l{P:bp}{w:br}{K:W.Frag}{elts:List bn}{x1:Nat}{tpos:bN}(a e it:Addr)(hne:e≠it):z9X P w K (.Tuple elts x1 tpos) (Ite K a) [e,it] e (λi h=> ∃old,IsEnum h e it i old/\h.IsListIter it a i) where
 mem:=by simp
 obj:=λi h st b hb=>by
  obtain⟨old,h1,h2⟩:=st
  have hb:b=e\/b=it:=by simpa using hb
  rcases hb with rfl|rfl
  .exact⟨_,h1,λv z=>by
    have z':Data.fields _=Data.cell v:=z
    cases z'⟩
  .obtain⟨o,e,c,d⟩:=h2
   exact⟨o,e,λv z=>by rw[d] at z;cases z⟩
 keep:=λi h h' st k=>by
  obtain⟨old,h1,h2⟩:=st
  exact⟨old,k e (by simp) _ h1,h2.at λo q=>k it (by simp) o q⟩
 item:=by
  intro X hP hw hK hc i qz s σ H E I hf st hg
  subst hP hw hK
  obtain⟨old,st1,st2⟩:=st
  obtain⟨xs,x,hq,hx⟩:=hg
  obtain⟨its,rv,p,hz⟩:=I.list hq
  obtain⟨u,hu,ru⟩:=rv.get hx
  refine wpAny_pyNext_enum_item st1 st2 p.isList (x:=u) (by simpa using hu) hne λh1 heo hit ht hsz hk=> ?_
  refine⟨_,rfl,wpAny_letOwnedTupleGo_enum heo λh2 he2 hs2=> ?_⟩
  have hs2:Heap.SameBut e h1 h2:=hs2
  have hel:e<s.heap.objs.size:=Heap.lt_size st1
  have ht2:h2.get? s.heap.objs.size=some {cls:= .type "tuple",data:= .seq #[.int i s.toks,u]}:=(hs2.2 _ (F9 hel)).trans ht
  have fr: ∀b∈[e,it],b≠s.heap.objs.size:=λb hb=>by
   have hb:b=e\/b=it:=by simpa using hb
   rcases hb with rfl|rfl
   .exact m5 hel
   .obtain⟨o,q,_⟩:=st2
    exact m5 (Heap.lt_size q)
  have I1:Inv X qz σ (upd H s.heap.objs.size (.tup [.int i,x])) {s with heap:=s.heap.push {cls:= .type "tuple",data:= .seq #[.int i s.toks,u]},toks:=s.toks}:=I.laid (t':=s.toks) (o:= .tup [.int i,x]) (λb ob q=>Heap.get?_push_of_some _ q) (b9 _) ⟨by show 2<=qg;decide,[.int i s.toks,u], .cons ⟨_,rfl⟩ (.cons ru .nil),IsTup.new _ _⟩
  have f1: ∀b∈[e,it],z5N X qz (upd H s.heap.objs.size (.tup [.int i,x])) b:=λb hb=>⟨by rw[y3 (fr b hb)];exact(hf b hb).1,(hf b hb).2⟩
  have I2:=I1.turnedL (h':=h2) (t':=s.toks+1) (λb o hb q=>by
   have hb:b≠e/\b≠it:=by simpa using hb
   rcases Heap.get?_push_cases (show(s.heap.push {cls:= .type "tuple",data:= .seq #[.int i s.toks,u]}).get? b=some o from q) with⟨rfl,rfl⟩|q'
   .exact ht2
   .exact(hs2.2 b hb.1).trans (hk b o hb.1 hb.2 q')) f1
  refine⟨.ref s.heap.objs.size,_,I2,rfl,⟨_,x,I.hok.fresh (b9 _),rfl,rfl,λys hy=>by rw[I.list_inj hy hq];exact hx,λb o q=>(I2.bs b o (I2.ok.mod.kin b o q)).2⟩,⟨u, ?_, ?_⟩,λb hb=>(f1 b hb).1⟩
  .have:((i+1:Nat):Int)=(i:Int)+1:=by push_cast;rfl
   rw[this];exact he2
  .obtain⟨o,q,r⟩:=hit
   exact⟨o,(hs2.2 it (Ne.symm hne)).trans q,r⟩
 done:=by
  intro X hP hw hK hc i qz s σ H E I hf st hg
  subst hP hw hK
  obtain⟨old,st1,st2⟩:=st
  obtain⟨xs,hq,hx⟩:=hg
  obtain⟨its,rv,p,hz⟩:=I.list hq
  have hl:=rv.length
  exact wpAny_pyNext_enum_end (I.ok.hd hc) st1 st2 p.isList (by simp;lia) λh' eb=>⟨rfl,I.turnedL (t':=s.toks) (λb o hb q=>eb b o (λz=>hb (by simp[z])) q) hf⟩
 self:=λA i s Q E st h=>by
  obtain⟨old,st1,_⟩:=st
  exact fg st1 h
section
variable{X:Cx}
def zl8(K:W.Frag)(ta:TA):TI:=λ σ H R=>ta σ H λvs H1=> ∃a,vs=[.ref a]/\(∃xs,SqL K H1 a xs)/\R (Ite K a) H1
def zd6{p pos tpos:bN}{elts:List bn}{x1:Nat}(hg:Gl X "enumerate")(hm:X.mg "enumerate" =none)(ha:PA X [a] ta)(hs:bi [a] X.env=[(false,bA a X.env)]:=by rfl):PI X (.Tuple elts x1 tpos) (.Call (.Name "enumerate" p) [a] [] pos) (zl8 X.K ta):=by
 intro qz s σ H R I h
 refine fR (z1l I hg hm PyProof.Rows.Boot.«enumerate» (PyProof.Rows.callWith_type1 (thn (ha pos qz s σ H _ I h) λus s1 ⟨vs,H1,I1,r1,q1⟩=> ?_) hs rfl))
 obtain⟨l,e,⟨xs,hq⟩,q⟩:=q1
 subst e
 cases r1 with
 |cons r rr=>
  cases rr
  cases r
  obtain⟨its,rv,p,hz⟩:=I1.list hq
  refine call_enumerate_list p.isList λh' he hit hsz hk=> ?_
  refine fg he ?_
  have I2:Inv X qz σ H1 {s1 with heap:=h'}:=I1.kept (t':=s1.toks) hk
  refine⟨s1.heap.objs.size+1,[s1.heap.objs.size+1,s1.heap.objs.size],_,_,H1,rfl,I2,z8l l _ _ (by show ¬(s1.heap.objs.size+1=s1.heap.objs.size);lia),⟨_,he,hit⟩,λb hb=> ?_,q⟩
  have hb:b=s1.heap.objs.size+1\/b=s1.heap.objs.size:=by simpa using hb
  rcases hb with rfl|rfl
  .exact I1.fpOk (T8 _) (I1.hok.fresh (T8 _))
  .exact I1.fpOk (b9 _) (I1.hok.fresh (b9 _))
end
noncomputable def z77(lo:Int)(n:Nat):List V:=(B3 n).map λ(k:Nat)=>V.int (lo+(k:Int))
def z2M{lo:Int}{n:Nat}:(z77 lo n).length=n:=by simp[z77]
theorem z8m: ∀{vs:List V} {us:List bb},vs.length=us.length->(∀(i:Nat) (v:V) (u:bb),vs[i]? =some v->us[i]? =some u->RelV v u)->g7 vs us
 |[],[],_,_=> .nil
 |v::vs,u::us,hl,h=> .cons (h 0 v u rfl rfl) (z8m (by simpa using hl) λi v u h1 h2=>h (i+1) v u (by simpa using h1) (by simpa using h2))
section
variable{X:Cx}
def tLR(ta:TA):TE:=λ σ H Q=>ta σ H λvs H1=> ∃i j:Int,vs=[.int i, .int j]/\(-(2^62)<=i/\i<2^62/\-(2^62)<=j/\j<2^62)/\(j -i).toNat<=qg/\∀l,H1 l=none->Q (.ref l) (upd H1 l (.lst (z77 i (j -i).toNat)))
def z4R{p p2 pos pos2:bN}(hc:X.calm=true)(hgl:Gl X "list")(hml:X.mg "list" =none)(hgr:Gl X "range")(hmr:X.mg "range" =none)(ha:PA X [a,b] ta)(hs:bi [a,b] X.env=[(false,bA a X.env),(false,bA b X.env)]:=by rfl)(hs2:bi [b] X.env=[(false,bA b X.env)]:=by rfl)
 (hso:bi [.Call (.Name "range" p2) [a,b] [] pos2] X.env=[(false,bA (.Call (.Name "range" p2) [a,b] [] pos2) X.env)]:=by rfl):
 PE X (.Call (.Name "list" p) [.Call (.Name "range" p2) [a,b] [] pos2] [] pos) (tLR ta):=by
 intro qz s σ H Q I h
 refine fR (z1l I hgl hml PyProof.Rows.Boot.«list» (PyProof.Rows.callWith_type1 ?_ hso rfl))
 rw[hso]
 show bm _ _ (gh ((false,bA (.Call (.Name "range" p2) [a,b] [] pos2) X.env)::bM pos [])) _ _ s
 refine Calls.spliced_cons ?_
 refine fR (z1l I hgr hmr dM (PyProof.Rows.callWith_type1 (thn (ha pos2 qz s σ H _ I h) λus s1 ⟨vs,H1,I1,r1,q1⟩=> ?_) (by rw[hs,hs2]) (by rw[hs2];rfl)))
 obtain⟨i,j,e,⟨q1,q2,q3,q4⟩,hz,q⟩:=q1
 subst e
 cases r1 with
 |cons r rr=>
  cases rr with
  |cons r' rr=>
   cases rr
   obtain⟨t,rfl⟩:=r
   obtain⟨t',rfl⟩:=r'
   refine call_range_2 (Calls.spliced_nil ?_)
   have hn:Builtin.Range.rangeSize i j 1=((j -i).toNat:Nat):=by rw[dF];split<;>lia
   have I2:Inv X qz σ H1 {s1 with heap:=s1.heap.push {cls:= .type "range",data:= .fields #[.int i t, .int j t', .int 1 s1.toks]},toks:=s1.toks+1}:=I1.kept λb o e=>Heap.get?_push_of_some _ e
   refine call_list_range (I1.ok.hd hc) (IsRange.new ..) (small_one q1 q2 q3 q4) hn hz λh' tk acc c hk hS hacc=> ?_
   have hv:g7 (z77 i (j -i).toNat) acc.toList:=by
    obtain⟨hsz,hit⟩:=hacc
    refine z8m (by rw[z2M];simpa using hsz.symm) λk v u h1 h2=> ?_
    have hk:k<(j -i).toNat:=by
     have:=(List.getElem?_eq_some_iff.mp h1).1
     rwa [z2M] at this
    have h1:v= .int (i+(k:Int)):=by
     erw[z77,List.getElem?_map,List.getElem?_range hk,i9,Option.some.injEq] at h1
     exact h1.symm
    subst h1
    have h2:acc[k]? =some u:=by simpa using h2
    obtain⟨t,ht⟩:=hit k u h2
    refine⟨t, ?_⟩
    rw[ht,Int.mul_one]
   exact⟨.ref _,_,I2.laid (t':=tk) (o:= .lst (z77 i (j -i).toNat)) hk (b9 _) ⟨by rw[z2M];exact hz,acc.toList,c,hv,by simpa using hS⟩,rfl,q _ (I2.hok.fresh (b9 _))⟩
end
noncomputable def zjh(lo c:Int)(n:Nat):It:=⟨λi _=>i<n,λi H x H'=>H'=H/\x= .int (lo+(i:Int)*c),λi _=>n<=i⟩
def z5W{P:bp}{w:br}{K:W.Frag}{tg:bn}(it:Addr)(lo c:Int)(n:Nat):z9X P w K tg (zjh lo c n) [it] it (λi h=>dm h it (lo+(i:Nat)*c) ((n:Int) -(i:Nat)) c) where
 mem:=by simp
 obj:=λi h st b hb=>by
  have e:b=it:=by simpa using hb
  subst e
  exact⟨_,st,λv z=>by
   have z':Data.fields _=Data.cell v:=z
   cases z'⟩
 keep:=λi h h' st k=>k it (by simp) _ st
 item:=by
  intro X hP hw hK hc i qz s σ H E I hf st hg
  subst hP hw hK
  obtain⟨f0,f1,f2,f3,f4,f5⟩:=hf it (by simp)
  have W:=Walks.range (prog:=X.prog) (w:=X.w) (I.ok.hd hc) it lo c n
  refine W.item i s _ _ hg st λv h' tk hv st' kk=> ?_
  obtain⟨t,rfl⟩:=hv
  have I1:Inv X qz σ H {s with heap:=h',toks:=tk}:=I.turned (λb o hb e=>kk b o (by simpa using hb) e) f0 f1 f3 f4 f5
  exact⟨_,rfl,go_of (s:={s with heap:=h',toks:=tk}) (n:= "range_iterator") st' rfl rfl (by decide) ⟨.int (lo+(i:Int)*c),H,I1,⟨t,rfl⟩,⟨rfl,rfl⟩,st',λb hb=>(hf b hb).1⟩⟩
 done:=by
  intro X hP hw hK hc i qz s σ H E I hf st hg
  subst hP hw hK
  obtain⟨f0,f1,f2,f3,f4,f5⟩:=hf it (by simp)
  exact cT (I.ok.hd hc) st (by have:n<=i:=hg;lia) λh' eb=>⟨rfl,I.turned (t':=s.toks) (λb o hb e=>eb b o hb e) f0 f1 f3 f4 f5⟩
 self:=λ_ _ _ _ _ st h=>cA st h
section
variable{X:Cx}
def zd7(ds:List bX)(i j:Nat):Bool:=(So.ltD (ds.getD i .none) (ds.getD j .none)).getD false
def z4S(ds:List bX):Bool:=ds.all (λd=>So.hdI d&&d.canLay0&&decide (d.depth<=60))&&ds.all λd=>ds.all λe=>(So.ltD d e).isSome
theorem z8n: ∀{its:List bb} {ds:List bX} {as:List Addr},dt h its ds as->(∀d∈ds,So.hdI d=true)->∃fs:List bb,W.KatTups h its fs/\fs.length=ds.length/\∀f∈fs,∃i t,f=Value.int i t
 |[],_,_, .nil,_=>⟨[], .nil,rfl,by simp⟩
 |v::its,d::ds,_, .cons r rs,hd=>by
  obtain⟨fs,t,hl,hf⟩:=z8n rs λd hd'=>hd d (b7 _ hd')
  obtain⟨i,xs,rfl⟩:=So.hd_int (hd _ c9)
  cases r with
  | @tuple l o vs n _ as₁ h1 h2 h3 h4=>
   generalize hv:vs.toList=us at h4
   cases h4 with
   |cons r1 r2=>
    cases r1 with
    |int _ tk=>
     refine⟨Value.int i tk::fs, .cons h1 h2 h3 ?_ t,by simp[hl],λf hf'=> ?_⟩
     .rw[<-Array.getElem?_toList,hv];rfl
     .rcases c8.mp hf' with rfl|hf'
      .exact⟨_,_,rfl⟩
      .exact hf f hf'
theorem z0P: ∀{its:List bb} {ds:List bX} {as:List Addr},dt h its ds as->∀i (hi:i<its.length),∃bs,gm h its[i] (ds.getD i .none) bs/\ds.getD i .none∈ds
 |v::its,d::ds,_, .cons r rs,0,_=>⟨_,r,by simp⟩
 |v::its,d::ds,_, .cons r rs,i+1,hi=>by
  obtain⟨bs,h1,h2⟩:=z0P rs i (by simpa using hi)
  exact⟨bs,by simpa using h1,by simpa using Or.inr h2⟩
def zfX(K:W.Frag):List V->Hp->VK->Prop:=λxs H Q=> ∃p ys ds,xs=[.ref p]/\SqL K H p ys/\DpAll K H ds ys/\z4S ds=true/\∀l,H l=none->Q (.ref l) (upd H l (.lst ((So.perm ys.length (zd7 ds)).map λi=>ys.getD i .non)))
theorem z4T{ys:List V}{its:List bb}(h:g7 ys its): ∀(q:List Nat),(∀i∈q,i<its.length)->g7 (q.map λi=>ys.getD i .non) (q.map λi=>its.getD i Value.none)
 |[],_=> .nil
 |i::q,hq=>by
  refine .cons ?_ (z4T h q λj hj=>hq j (b7 _ hj))
  have hi:=hq i c9
  clear hq
  induction h generalizing i with
  |nil=>simp at hi
  |cons r t ih=>
   cases i with
   |zero=>simpa using r
   |succ i=>simpa using ih i (by simpa using hi)
def zas(hu:X.A.units+64<cLine):CallR X (.builtin "sorted") (zfX X.K):=by
 intro qz s σ H xs us Q I r h
 obtain⟨p,ys,ds,rfl,hs,hd,ok,q⟩:=h
 obtain⟨u,rfl,ru⟩:=z3V r
 cases ru
 obtain⟨its,rv,pl,hz⟩:=I.list hs
 have hl:its.length=ys.length:=(Paired.length rv).symm
 delta z4S at ok
 erw[l9,B2,decide_eq_true_eq] at ok
 obtain⟨ok1,ok2⟩:=ok
 refine So.call_sorted (cmp:=zd7 ds) pl.isList (by lia) (λh' kp h2=> ?_) λh' D e1 kp hD hget=> ?_
 .have I':Inv X qz σ H {s with heap:=h'}:=I.kept (t':=s.toks) kp
  obtain⟨as,ra⟩:=DpAll.reads I' ds ys its hd rv
  refine⟨tuples' true,λQ E hq=> ?_,λi j hi hj C hC=> ?_⟩
  .obtain⟨fs,t,hfl,hf⟩:=z8n ra λd hd'=>(ok1 d hd').1.1
   have hdl:=SeqAt.ReadsAll.length _ _ _ ra
   refine W.kat_kind (T:= .type "int") t (by lia) (λv hv=> ?_) rfl hq
   obtain⟨i,tk,rfl⟩:=hf v hv
   exact W.Looks.of_pure rfl
  .obtain⟨bs,r1,m1⟩:=z0P ra i hi
   obtain⟨cs,r2,m2⟩:=z0P ra j hj
   obtain⟨b,hb⟩:=O9.mp (ok2 _ m1 _ m2)
   have o1:=ok1 _ m1
   have o2:=ok1 _ m2
   refine So.key_lt r1 r2 o1.1.2 o2.1.2 o1.1.1 o2.1.1 ?_ hb ?_
   .show X.A.units+1+1+_<_
    have:=Nat.min_le_left (ds.getD i .none).depth (ds.getD j .none).depth
    lia
   .have:zd7 ds i j=b:=by delta zd7;rw[hb];rfl
    rw[<-this];exact hC
 .refine⟨.ref D,_,I.laid (t':=s.toks) (o:= .lst ((So.perm ys.length (zd7 ds)).map λi=>ys.getD i .non)) kp hD ⟨by rw[i5,So.perm_len];exact hz,_,e1,z4T rv _ λi hi=> ?_, ?_⟩,rfl,q _ (I.hok.fresh hD)⟩
  .rw[hl];exact So.perm_lt i hi
  .rw[hl] at hget;exact hget
def zat:zkA X (zj3 X.K):=by
 intro qz s σ H x y v u Q I rx ry h
 obtain⟨p,xs,i,z,rfl,rfl,hq,he,q⟩:=h
 cases rx
 obtain⟨t,rfl⟩:=ry
 obtain⟨its,r,pl,hz⟩:=I.list hq
 obtain⟨j,h1,h2,h3,h4,h5⟩:=z5P he
 obtain⟨w,ew,rw'⟩:=r.get h2
 have hl:=r.length
 have hn:=z4B
 have fin:EP X qz σ Q w s:=⟨z,H,I,rw',q⟩
 by_cases h0:0<=i
 .have hj:i.toNat=j:=by
   rw[dn h0 h5] at h1
   exact Option.some.inj h1
  exact wpAny_getItem_list pl.isList h0 (by lia) (by rw[hj];simpa using ew) fin
 .have hj:(i+(its.toArray.size:Int)).toNat=j:=by
   rw[cW (by lia) h4] at h1
   rw[i8,<-hl]
   exact Option.some.inj h1
  exact cY pl.isList (by lia) (by rw[i8]<;>lia) (by lia) (by rw[hj];simpa using ew) fin
end
def Itz(K:W.Frag)(a b:Addr):It:=
 ⟨λi H=> ∃xs ys x y,SqL K H a xs/\SqL K H b ys/\xs[i]? =some x/\ys[i]? =some y,
  λi H v H'=> ∃p x y,H p=none/\v= .ref p/\H'=upd H p (.tup [x,y])/\(∀xs,SqL K H a xs->xs[i]? =some x)/\(∀ys,SqL K H b ys->ys[i]? =some y)/\∀b o,K.lookup b=some o->H' b=none,
  λi H=> ∃xs ys,SqL K H a xs/\SqL K H b ys/\(xs.length<=i\/ys.length<=i)⟩
def zau{P:bp}{w:br}{K:W.Frag}{elts:List bn}{x1:Nat}{tpos:bN}{a b z TI TO i1 i2:Addr}(D:ZipApart z TI TO i1 i2 a b):z9X P w K (.Tuple elts x1 tpos) (Itz K a b) [z,TI,TO,i1,i2] z
 (λi h=>IsZip h z TI TO .none/\IsPair h TI (.ref i1) (.ref i2)/\(∃u v,IsPair h TO u v)/\h.IsListIter i1 a i/\h.IsListIter i2 b i) where
 mem:=by simp
 obj:=λi h st c hc=>by
  obtain⟨h1,h2,⟨u,v,h3⟩,h4,h5⟩:=st
  have hc:c=z\/c=TI\/c=TO\/c=i1\/c=i2:=by simpa using hc
  rcases hc with rfl|rfl|rfl|rfl|rfl
  .exact⟨_,h1,λv z=>by
    have z':Data.fields _=Data.cell v:=z
    cases z'⟩
  .exact⟨_,h2,λv z=>by
    have z':Data.seq _ _=Data.cell v:=z
    cases z'⟩
  .exact⟨_,h3,λv z=>by
    have z':Data.seq _ _=Data.cell v:=z
    cases z'⟩
  .obtain⟨o,e,c,d⟩:=h4
   exact⟨o,e,λv z=>by rw[d] at z;cases z⟩
  .obtain⟨o,e,c,d⟩:=h5
   exact⟨o,e,λv z=>by rw[d] at z;cases z⟩
 keep:=λi h h' st k=>by
  obtain⟨h1,h2,⟨u,v,h3⟩,h4,h5⟩:=st
  exact⟨k z (by simp) _ h1,k TI (by simp) _ h2,⟨u,v,k TO (by simp) _ h3⟩,h4.at λo q=>k i1 (by simp) o q,h5.at λo q=>k i2 (by simp) o q⟩
 item:=by
  intro X hP hw hK hc i qz s σ H E I hf st hg
  subst hP hw hK
  obtain⟨h1,h2,⟨u0,v0,h3⟩,h4,h5⟩:=st
  obtain⟨xs,ys,x,y,hq,hr,hx,hy⟩:=hg
  obtain⟨its,rv,p,hz⟩:=I.list hq
  obtain⟨jts,rw',p',hz'⟩:=I.list hr
  obtain⟨u,hu,ru⟩:=rv.get hx
  obtain⟨v,hv,rv'⟩:=rw'.get hy
  refine wpAny_pyNext_zip_item D h1 h2 h3 h4 h5 p.isList p'.isList (x:=u) (y:=v) (by simpa using hu) (by simpa using hv) λg1 z1 t1 l1 l2 t2 hsz hk=> ?_
  refine⟨_,rfl,wpAny_letOwnedTupleGo_zip z1 λg2 z2 hs2=> ?_⟩
  have hs2:Heap.SameBut z g1 g2:=hs2
  have fr: ∀c∈[z,TI,TO,i1,i2],c≠s.heap.objs.size:=λc hc=>by
   have hc:c=z\/c=TI\/c=TO\/c=i1\/c=i2:=by simpa using hc
   rcases hc with rfl|rfl|rfl|rfl|rfl
   .exact m5 (Heap.lt_size h1)
   .exact m5 (Heap.lt_size h2)
   .exact m5 (Heap.lt_size h3)
   .obtain⟨o,q,_⟩:=h4
    exact m5 (Heap.lt_size q)
   .obtain⟨o,q,_⟩:=h5
    exact m5 (Heap.lt_size q)
  have t3:g2.get? s.heap.objs.size=some {cls:= .type "tuple",data:= .seq #[u,v]}:=(hs2.2 _ (Ne.symm (fr z (by simp)))).trans t2
  have I1:Inv X qz σ (upd H s.heap.objs.size (.tup [x,y])) {s with heap:=s.heap.push {cls:= .type "tuple",data:= .seq #[u,v]},toks:=s.toks}:=I.laid (t':=s.toks) (o:= .tup [x,y]) (λb ob q=>Heap.get?_push_of_some _ q) (b9 _) ⟨by show 2<=qg;decide,[u,v], .cons ru (.cons rv' .nil),IsTup.new _ _⟩
  have f1: ∀c∈[z,TI,TO,i1,i2],z5N X qz (upd H s.heap.objs.size (.tup [x,y])) c:=λc hc=>⟨by rw[y3 (fr c hc)];exact(hf c hc).1,(hf c hc).2⟩
  have I2:=I1.turnedL (h':=g2) (t':=s.toks) (λc o hc q=>by
   have hc:c≠z/\c≠TI/\c≠TO/\c≠i1/\c≠i2:=by simpa using hc
   rcases Heap.get?_push_cases (show(s.heap.push {cls:= .type "tuple",data:= .seq #[u,v]}).get? c=some o from q) with⟨rfl,rfl⟩|q'
   .exact t3
   .exact(hs2.2 c hc.1).trans (hk c o hc.1 hc.2.2.1 hc.2.2.2.1 hc.2.2.2.2 q')) f1
  refine⟨.ref s.heap.objs.size,_,I2,rfl,⟨_,x,y,I.hok.fresh (b9 _),rfl,rfl,λws hw=>by rw[I.list_inj hw hq];exact hx,λws hw=>by rw[I.list_inj hw hr];exact hy,λb o q=>(I2.bs b o (I2.ok.mod.kin b o q)).2⟩,⟨z2, ?_,⟨u,v, ?_⟩, ?_, ?_⟩,λb hb=>(f1 b hb).1⟩
  .exact(hs2.2 TI D.TIz).trans (hk TI _ D.TIz D.TITO D.TIi1 D.TIi2 h2)
  .exact(hs2.2 TO D.TOz).trans t1
  .obtain⟨o,q,r⟩:=l1
   exact⟨o,(hs2.2 i1 D.i1z).trans q,r⟩
  .obtain⟨o,q,r⟩:=l2
   exact⟨o,(hs2.2 i2 D.i2z).trans q,r⟩
 done:=by
  intro X hP hw hK hc i qz s σ H E I hf st hg
  subst hP hw hK
  obtain⟨h1,h2,⟨u0,v0,h3⟩,h4,h5⟩:=st
  obtain⟨xs,ys,hq,hr,hx⟩:=hg
  obtain⟨its,rv,p,hz⟩:=I.list hq
  obtain⟨jts,rw',p',hz'⟩:=I.list hr
  have e1:=rv.length
  have e2:=rw'.length
  refine wpAny_pyNext_zip_end (I.ok.hd hc) D h1 h2 h3 h4 h5 p.isList p'.isList ?_ λh' eb=>⟨rfl,I.turnedL (t':=s.toks) (λc o hb q=> ?_) hf⟩
  .rcases hx with hx|hx
   .exact .inl (by simp;lia)
   .exact .inr (by simp;lia)
  .have hc:c≠z/\c≠TI/\c≠TO/\c≠i1/\c≠i2:=by simpa using hb
   exact eb c o hc.1 hc.2.2.1 hc.2.2.2.1 hc.2.2.2.2 q
 self:=λA i s Q E st h=>fw st.1 h
section
variable{X:Cx}
def zl9(K:W.Frag)(ta:TA):TI:=λ σ H R=>ta σ H λvs H1=> ∃a b,vs=[.ref a, .ref b]/\(∃xs,SqL K H1 a xs)/\(∃ys,SqL K H1 b ys)/\R (Itz K a b) H1
def zfY{p pos tpos:bN}{elts:List bn}{x1:Nat}(hg:Gl X "zip")(hm:X.mg "zip" =none)(ha:PA X [a,b] ta)(hs:bi [a,b] X.env=[(false,bA a X.env),(false,bA b X.env)]:=by rfl)(hs2:bi [b] X.env=[(false,bA b X.env)]:=by rfl):PI X (.Tuple elts x1 tpos) (.Call (.Name "zip" p) [a,b] [] pos) (zl9 X.K ta):=by
 intro qz s σ H R I h
 refine fR (z1l I hg hm PyProof.Rows.Boot.«zip» (PyProof.Rows.callWith_type1 (thn (ha pos qz s σ H _ I h) λus s1 ⟨vs,H1,I1,r1,q1⟩=> ?_) (by rw[hs,hs2]) (by rw[hs2];rfl)))
 obtain⟨l,m,e,⟨xs,hq⟩,⟨ys,hr⟩,q⟩:=q1
 subst e
 cases r1 with
 |cons r rr=>
  cases rr with
  |cons r' rr=>
   cases rr
   cases r
   cases r'
   obtain⟨its,rv,p,hz⟩:=I1.list hq
   obtain⟨jts,rw',p',hz'⟩:=I1.list hr
   refine call_zip_2 p.isList p'.isList λh' g1 g2 g3 g4 g5 hsz hk=> ?_
   refine fw g1 ?_
   have I2:Inv X qz σ H1 {s1 with heap:=h'}:=I1.kept (t':=s1.toks) hk
   have a1:l<s1.heap.objs.size:=by obtain⟨o,e,_⟩:=p.isList;exact Heap.lt_size e
   have a2:m<s1.heap.objs.size:=by obtain⟨o,e,_⟩:=p'.isList;exact Heap.lt_size e
   refine⟨s1.heap.objs.size+4,[s1.heap.objs.size+4,s1.heap.objs.size+2,s1.heap.objs.size+3,s1.heap.objs.size,s1.heap.objs.size+1],_,_,H1,rfl,I2,zau (zipApart_new a1 a2),⟨g1,g2,⟨_,_,g3⟩,g4,g5⟩,λc hc=> ?_,q⟩
   have hc:s1.heap.objs.size<=c:=by
    have hc:c=s1.heap.objs.size+4\/c=s1.heap.objs.size+2\/c=s1.heap.objs.size+3\/c=s1.heap.objs.size\/c=s1.heap.objs.size+1:=by simpa using hc
    rcases hc with rfl|rfl|rfl|rfl|rfl<;>simp
   exact I1.fpOk hc (I1.hok.fresh hc)
end
end L2
namespace PySem
section
variable{prog:bp}{w:br}{A:bu}{E:bb->be->Prop}{s:be}
def z8o{Q:bb->be->Prop}(hd:(d==bF)=false)(hT:s.TypeIs (.ref d) "dict")(hQ: ∀h',h'.IsItemsView s.heap.objs.size d->(∀b o,s.heap.get? b=some o->h'.get? b=some o)->Q (.ref s.heap.objs.size) {s with heap:=h'}):bm (bo prog w) A (call (.builtin "dict.items") [.ref d]) Q E s:=by
 refine bD F.slot_dict_items hT F.entry_dict_items ?_ (F.args_dict_items_1 _)
 delta Builtin.«dict.items» Builtin.Dict.noArgs
 refine ba (ba (dj hT (show bm _ _ (pure d) _ _ s from bf ?_)))
 delta Builtin.Dict.showsAll
 rw[qh (by rw[hd];exact n9)]
 exact ba (bf (ba (bt (bf ⟨_,rfl,hQ _ ⟨_,Heap.get?_push_size _ rfl,rfl,rfl⟩ λ_ _ q=>Heap.get?_push_of_some _ q⟩))))
def z8p{o:bJ}{ep:Nat}{Q:bb->be->Prop}(hv:s.heap.IsItemsView v d)(ho:s.heap.get? d=some o)(hdat:o.data= .dict es ep)
 (hQ: ∀h',ca h' s.heap.objs.size d 0 es.size ep .none .none->(∀b o,s.heap.get? b=some o->h'.get? b=some o)->Q (.ref s.heap.objs.size) {s with heap:=h'}):bm (bo prog w) A (ft (.ref v)) Q E s:=by
 obtain⟨ov,hov,hcv,hdv⟩:=id hv
 have hown:Builtin.Dict_items.ownsTuple "dict_itemiterator" =true:=by decide
 refine fe hv.typeIs F.slot_dict_items_iter (bD F.slot_dict_items_iter hv.typeIs F.entry_dict_items_iter ?_ (F.args_dict_items_iter_1 _))
 delta Builtin.«dict_items.__iter__» Builtin.Dict_items.dictOf Builtin.Dict_items.newIterator
 refine ba (bf (ba (ba (cw hov hdv (x:= .ref d) rfl ?_))))
 refine bf (ba (ba (bU ho hdat (ba (cj ho hdat ?_)))))
 erw[hown,if_true]
 refine bt (bf ?_) (by erw[sizeOk,Builtin.Dict_items.ownedTupleFields,i8,n8,l8,C2,fy];lia)
 refine⟨_,rfl, "dict_itemiterator",_,⟨_,Heap.get?_push_size _ rfl,rfl⟩,F.slot_dict_itemiterator_next.lookup,hQ _ ?_ λ_ _ q=>Heap.get?_push_of_some _ q⟩
 have:=Heap.get?_push_size s.heap (o:={cls:= .type "dict_itemiterator",data:= .fields #[.none, .bool false, .ref d, .int 0 0, .int es.size 0, .int ep 0, .none, .none]}) rfl
 delta ca
 simpa[bO,Builtin.Dict_items.ownedTupleFields] using this
def z8q{i ep:Nat}{od:bJ}{es:Array bR}{Q:Option bb->be->Prop}(hit:ca s.heap it d i es.size ep ok ov)(hod:s.heap.get? d=some od)(hdd:od.data= .dict es ep)(hx:es[i]? =some en)
 (hQ: ∀h',dI h' it d (i+1) es.size ep en.key en.val s.heap.objs.size->h'.get? s.heap.objs.size=some {cls:= .type "tuple",data:= .seq #[en.key,en.val]}->(∀b o,b≠it->s.heap.get? b=some o->h'.get? b=some o)->Q (some (.ref s.heap.objs.size)) {s with heap:=h'}):
 bm (bo prog w) A (cu (.ref it)) Q E s:=by
 obtain⟨hp,g,dr,tk,os⟩:=s
 have hT:Shared.TypeIs ⟨hp,g,dr,tk,os⟩ (.ref it) "dict_itemiterator" :=⟨_,hit,rfl⟩
 have hown:Builtin.Dict_items.ownsTuple "dict_itemiterator" =true:=by decide
 have hlt:i<es.size:=by
  rcases S6 i es.size with h|h
  .exact h
  .simp[Array.getElem?_eq_none h] at hx
 have hen:es[i]=en:=by rw[Array.getElem?_eq_getElem hlt] at hx;exact Option.some.inj hx
 delta cu
 refine ba (cH (wpAny_callSpecial?_slot (name:=Str.ofString "__next__") hT F.slot_dict_itemiterator_next (bD F.slot_dict_itemiterator_next hT F.entry_dict_itemiterator_next ?_ (F.args_dict_itemiterator_next_1 _))))
 refine ba (bf (ba (ba ?_)))
 first|refine ba (bK hT (bf (ba (cp hit rfl ?_))))|refine ba (bQ hT (bf (ba (cp hit rfl ?_))))
 erw[hown,if_true]
 show bm _ _ (if(Value.ref d==Value.none)=true then _ else _) _ _ _
 rw[qh (show ¬((Value.ref d==Value.none)=true) from n9)]
 refine ba (bf (ba (bU hod hdd ?_)))
 rw[qh (by simp)]
 refine ba (bf (ba (cj hod hdd ?_)))
 rw[qh (by simp)]
 refine bf ?_
 erw[show ¬((i:Int)<0) from by lia,if_false,t9,Array.getElem?_eq_getElem hlt,hen]
 refine ba ?_
 first|refine ba (bK hT (bf (ba (cb hT ?_))))|refine ba (bQ hT (bf (ba (cb hT ?_))))
 show bm _ _ (fY (.ref it) 3 (bO ((i:Int)+1))>>=_) _ _ ⟨hp,g,dr,tk,os⟩
 refine ba (cc hit (by simp) λk1 f1 t1=> ?_)
 have t1:Heap.SameBut it hp k1:=t1
 have f1:ca k1 it d (i+1) es.size ep ok ov:=by
  have e:((i+1:Nat):Int)=(i:Int)+1:=by lia
  delta ca;rw[e];simpa[bO] using f1
 have hT1:Shared.TypeIs ⟨k1,g,dr,tk,os⟩ (.ref it) "dict_itemiterator" :=⟨_,f1,rfl⟩
 refine ba (bw (ba (cb hT1 (ba (cb hT1 ?_)))))
 show bm _ _ (Builtin.Dict_items.pairFromOwner (.ref it) 6 en.key en.val) _ _ ⟨k1,g,dr,tk,os⟩
 delta Builtin.Dict_items.pairFromOwner
 refine ba (wpAny_newTuple ?_)
 have z1:k1.objs.size=hp.objs.size:=t1.1
 have hil:it<hp.objs.size:=Heap.lt_size hit
 have f2:ca (k1.push {cls:= .type "tuple",data:= .seq #[en.key,en.val]}) it d (i+1) es.size ep ok ov:=Heap.get?_push_of_some _ f1
 generalize hk2:k1.push {cls:= .type "tuple",data:= .seq #[en.key,en.val]}=k2 at f2
 have p2:k2.get? hp.objs.size=some {cls:= .type "tuple",data:= .seq #[en.key,en.val]}:=by rw[<-hk2,<-z1];exact Heap.get?_push_size _ rfl
 have o2: ∀b o,b≠it->hp.get? b=some o->k2.get? b=some o:=λb o hb e=>by rw[<-hk2];exact Heap.get?_push_of_some _ (t1.extBut b o hb e)
 show bm _ _ (Builtin.Dict_items.ownedTupleIsFree (.ref it)>>=_) _ _ ⟨k2,g,dr,tk,os⟩
 rw[z1]
 delta Builtin.Dict_items.ownedTupleIsFree
 refine ba (ba (cw f2 rfl (x:= .none) rfl (bf ?_)))
 erw[if_true]
 refine ba (cw f2 rfl (x:=ok) rfl (ba (cw f2 rfl (x:=ov) rfl (ba (cc f2 (by simp) λk3 f3 t3=> ?_)))))
 have t3:Heap.SameBut it k2 k3:=t3
 have f3:ca k3 it d (i+1) es.size ep en.key ov:=f3
 refine ba (cc f3 (by simp) λk4 f4 t4=> ?_)
 have t4:Heap.SameBut it k3 k4:=t4
 have f4:ca k4 it d (i+1) es.size ep en.key en.val:=f4
 refine ba (cc f4 (by simp) λk5 f5 t5=> ?_)
 have t5:Heap.SameBut it k4 k5:=t5
 have f5:dI k5 it d (i+1) es.size ep en.key en.val hp.objs.size:=f5
 refine ba (cc f5 (by simp) λk6 f6 t6=> ?_)
 have t6:Heap.SameBut it k5 k6:=t6
 have f6:dI k6 it d (i+1) es.size ep en.key en.val hp.objs.size:=f6
 have on: ∀b o,b≠it->k2.get? b=some o->k6.get? b=some o:=λb o hb e=>t6.extBut b o hb (t5.extBut b o hb (t4.extBut b o hb (t3.extBut b o hb e)))
 exact ba (wpAny_letGo (bf (bf ⟨_,rfl,bf (hQ k6 f6 (on _ _ (F9 hil) p2) λb o hb e=>on b o hb (o2 b o hb e))⟩)))
def zav{i ep:Nat}{od:bJ}{es:Array bR}{Q:Option bb->be->Prop}(hh:A.handled=none)(hit:ca s.heap it d i es.size ep ok ov)(hod:s.heap.get? d=some od)(hdd:od.data= .dict es ep)(hge:es.size<=i)
 (hQ: ∀h',Heap.ExtBut it s.heap h'->Q none {s with heap:=h'}):bm (bo prog w) A (cu (.ref it)) Q E s:=by
 have hT:s.TypeIs (.ref it) "dict_itemiterator" :=⟨_,hit,rfl⟩
 have hown:Builtin.Dict_items.ownsTuple "dict_itemiterator" =true:=by decide
 delta cu
 refine ba (cH (wpAny_callSpecial?_slot (name:=Str.ofString "__next__") hT F.slot_dict_itemiterator_next (bD F.slot_dict_itemiterator_next hT F.entry_dict_itemiterator_next ?_ (F.args_dict_itemiterator_next_1 _))))
 refine ba (bf (ba (ba ?_)))
 first|refine ba (bK hT (bf (ba (cp hit rfl ?_))))|refine ba (bQ hT (bf (ba (cp hit rfl ?_))))
 erw[hown,if_true]
 show bm _ _ (if(Value.ref d==Value.none)=true then _ else _) _ _ s
 rw[qh (show ¬((Value.ref d==Value.none)=true) from n9)]
 refine ba (bf (ba (bU hod hdd ?_)))
 rw[qh (by simp)]
 refine ba (bf (ba (cj hod hdd ?_)))
 rw[qh (by simp)]
 refine bf ?_
 erw[show ¬((i:Int)<0) from by lia,if_false,t9,Array.getElem?_eq_none hge]
 refine ba ?_
 first|refine ba (bK hT (bf ?_))|refine ba (bQ hT (bf ?_))
 show bm _ _ (fY (.ref it) 2 .none>>=_) _ _ s
 refine ba (du hit rfl (by simp) ?_)
 show bm _ _ (newExc (.type "StopIteration") []>>=_) _ _ _
 erw[newExc,newTuple]
 refine ba (ba (bt (ba (m:=cK _ _) (dv (a:=Value.none) (by first|rfl|(erw[cK];rfl)) (bt ?_ (by size_fits)))) (by size_fits)))
 erw[raiseNew]
 refine ba (wpAny_handled ?_)
 rw[show A.in1.handled=none from hh]
 refine ba (bf (wpAny_throw ?_))
 refine ba (cO (T:= "StopIteration") (b:=true) ⟨_,Heap.get?_push_size _ rfl,rfl⟩ isSubtype_stop (bf (hQ _ ?_)))
 exact((Heap.SameBut.update ..).extBut.push _).push _
end
end PySem
namespace L2
open PySem PySem.Spec PyProof.Rows
section
variable{X:Cx}
def NF(X:Cx)(a:Addr):Prop:= ∀o u,X.H₀ a≠some (.frz o u)
def NF.of(I:Inv X qz σ H s)(h:H a=some (.dT kvs)):NF X a:=λo u e=>by
 have:=I.base.frzs a o u e
 rw[h] at this;cases this
def Inv.thaw(I:Inv X qz σ H s)(n:NF X a)(h:H a=some (.frz o (.dT kvs))):Inv X qz σ (upd H a (.dT kvs)) s:=by
 have na: ∀{b},H b=none->b≠a:=λq z=>by rw[z,h] at q;cases q
 have ne: ∀{b u},H b=some u->u≠ .frz o (.dT kvs)->b≠a:=λq w z=>by rw[z,h] at q;cases q;exact w rfl
 have none': ∀{b},H b=none->(upd H a (.dT kvs)) b=none:=λq=>by rw[y3 (na q)];exact q
 refine⟨I.ok,I.os,I.bare,⟨I.base.keep,I.base.slot,λb o' e q hx=>none' (I.base.free b o' e q hx),I.base.there,λb xs e=> ?_,λb o' u e=> ?_,λb ps e=> ?_⟩,I.loc,I.cell,none' I.free,λx c e=>none' (I.freeC x c e),λp hp=> ?_, ?_,I.len⟩
 .have q:=I.base.tups b xs e
  rw[y3 (ne q (by intro z;cases z))];exact q
 .have q:=I.base.frzs b o' u e
  have hb:b≠a:=λz=>by subst z;exact n _ _ e
  rw[y3 hb];exact q
 .obtain⟨m,q⟩:=I.base.tbls b ps e
  exact⟨m,by rw[y3 (ne q (by intro z;cases z))];exact q⟩
 .obtain⟨e,q,r⟩:=I.pin p hp
  exact⟨e,none' q,r⟩
 .intro b u e
  by_cases hb:b=a
  .subst hb
   rw[y6] at e
   cases e
   have q:=(I.hok b _ h).2
   exact K0.stay q (λ_ _ _ z=>z) (λc z=>by rw[y3 (ne z (by intro z;cases z))];exact z) λc xs z=>by rw[y3 (ne z (by intro z;cases z))];exact z
  .rw[y3 hb] at e
   exact(I.hok b u e).stay (λ_ _ _ z=>z) (λc z=>by rw[y3 (ne z (by intro z;cases z))];exact z) λc xs z=>by rw[y3 (ne z (by intro z;cases z))];exact z
def PE.thaw(h:PE X e t):PE X e (λ σ H Q=>t σ H λv H'=> ∃a o kvs,NF X a/\H' a=some (.frz o (.dT kvs))/\Q v (upd H' a (.dT kvs))):=λqz s σ H Q I q=>
 thn (h qz s σ H _ I q) λu s' ⟨v,H',I',r,a,o,kvs,n,e1,k⟩=>⟨v,_,I'.thaw n e1,r,k⟩
def zji(N:Addr->Prop)(td:TE):TI:=λ σ H R=>td σ H λx H1=> ∃a kvs,x= .ref a/\H1 a=some (.dT kvs)/\∀o,N a->R (ItD a o kvs) (upd H1 a (.frz o (.dT kvs)))
def zd8(hl:PE X l tl):PI X tg l (zji (NF X) tl):=by
 intro qz s σ H R I h
 refine thn (hl qz s σ H _ I h) ?_
 rintro v s1 ⟨x,H1,I1,r1,a,kvs,e,ha,q⟩
 subst e
 cases r1
 obtain⟨o,es,ep,ho,hc,hd,hy,hsz,I2⟩:=I1.freeze ha
 refine z2J hy ho hc hd ?_
 have I3:Inv X qz σ (upd H1 a (.frz o (.dT kvs))) {s1 with heap:=s1.heap.push {cls:= .type "dict_keyiterator",data:= .fields #[.ref a, .int 0 0, .int es.size 0, .int ep 0]}}:=
  I2.kept (t':=s1.toks) λb u q=>Heap.get?_push_of_some _ q
 refine⟨s1.heap.objs.size,[s1.heap.objs.size],_,ItD a o kvs,_,rfl,I3,z8f a _ o es ep hd kvs,⟨_,Heap.get?_push_size _ rfl,rfl,rfl⟩,λb hb=> ?_,q o (NF.of I1 ha)⟩
 have e:b=s1.heap.objs.size:=by simpa using hb
 subst e
 exact I2.fpOk (b9 _) I2.fresh
def z6w(H:Hp)(kvs:List (NK×V))(vs:List V)(ps:List Addr):Prop:=ps.length=kvs.length/\∀(j:Nat) b q v,ps[j]? =some b->kvs[j]? =some q->vs[j]? =some v->∃xs,bH (TKi H) q.1 xs/\H b=some (.tup (xs++[v]))
theorem z3C{α β:Type}{F:α->β->Prop}: ∀{l:List α} {r:List β},bH F l r->l.length=r.length
 |_,_, .nil=>rfl
 |_,_, .cons _ h=>by rw[l8,l8,z3C h]
def TKi.same(h:z0K H H')(p:bH (TKi H) k xs):bH (TKi H') k xs:=Paired.mapP p λz x q=>by
 cases z with
 |inl k=>exact q
 |inr ks=>obtain⟨c,e1,e2⟩:=q;exact⟨c,e1,h _ _ e2⟩
def zjj(D:Addr)(H H':Hp):Prop:= ∀b o,b≠D->H b=some o->H' b=some o
end
def TKi.tups(h: ∀b xs,H b=some (.tup xs)->H' b=some (.tup xs))(p:bH (TKi H) k xs):bH (TKi H') k xs:=Paired.mapP p λz x q=>by
 cases z with
 |inl k=>exact q
 |inr ks=>obtain⟨c,e1,e2⟩:=q;exact⟨c,e1,h _ _ e2⟩
def RwW(D:Addr)(Hf:Hp)(kvs:List (NK×V))(vs:List V)(sh:St->Prop)(i m:Nat)(ys:List V)(σ':St)(H':Hp):Prop:=
 ∃ps:List Addr,ys=ps.map V.ref/\ps.length=i/\i+m=kvs.length/\sh σ'/\zjj D Hf H'/\H' D=some (.lst ys)/\∀(j:Nat) b q v,ps[j]? =some b->kvs[j]? =some q->vs[j]? =some v->∃xs,bH (TKi H') q.1 xs/\H' b=some (.tup (xs++[v]))
def RwW.next{D:Addr}{Hf:Hp}{kvs:List (NK×V)}{vs:List V}{sh:St->Prop}{i m:Nat}{ys:List V}{σ' σ2:St}{H' H4:Hp}{k:NK}{v w:V}{p:Addr}{xs:List V}(h:RwW D Hf kvs vs sh i m ys σ' H')(hi:i<kvs.length)(hk:kvs[i]? =some (k,v))(hw:vs[i]? =some w)(hx:bH (TKi H4) k xs)(e:H4 p=some (.tup (xs++[w])))(sm:z0K H' H4)(s2:sh σ2):
 H4 D=some (.lst ys)/\ys.length=i/\∃m',m'<m/\RwW D Hf kvs vs sh (i+1) m' (ys++[.ref p]) σ2 (upd H4 D (.lst (ys++[.ref p]))):=by
 obtain⟨ps,e1,e2,e3,s1,sx,hD,rw'⟩:=h
 have hD4:=sm _ _ hD
 have tn: ∀b xs,H4 b=some (.tup xs)->(upd H4 D (.lst (ys++[.ref p]))) b=some (.tup xs):=λb xs q=>by
  rw[y3 (z0o q hD4 (by intro z;cases z))];exact q
 refine⟨hD4,by rw[e1,i5,e2],m - 1,by lia,ps++[p],by rw[e1];simp,by simp[e2],by lia,s2,λb o hb q=> ?_,y6,λj b q u h1 h2 h3=> ?_⟩
 .rw[y3 hb];exact sm _ _ (sx b o hb q)
 .by_cases hj:j<ps.length
  .rw[List.getElem?_append_left hj] at h1
   obtain⟨zs,z1,z2⟩:=rw' j b q u h1 h2 h3
   exact⟨zs,TKi.tups (λc zs q=>tn _ _ (sm _ _ q)) z1,tn _ _ (sm _ _ z2)⟩
  .have hj':j=i:=by
    have:=(List.getElem?_eq_some_iff.mp h1).1
    erw[n8,l8,C2] at this
    lia
   subst hj'
   rw[<-e2] at h1
   erw[List.getElem?_append_right (b9 _),S7,List.getElem?_cons_zero,Option.some.injEq] at h1
   subst h1
   rw[hk] at h2;cases h2
   rw[hw] at h3;cases h3
   exact⟨xs,TKi.tups tn hx,tn _ _ e⟩
def RwW.fin{D a:Addr}{o:bJ}{H1:Hp}{kvs:List (NK×V)}{vs:List V}{sh:St->Prop}{i m:Nat}{ys:List V}{σ':St}{H':Hp}(ha:H1 a=some (.dT kvs))(hD:upd H1 a (.frz o (.dT kvs)) D=none)(h:RwW D (upd H1 a (.frz o (.dT kvs))) kvs vs sh i m ys σ' H')(hi:kvs.length<=i):
 H1 D=none/\H' a=some (.frz o (.dT kvs))/\∃ps:List Addr,(upd H' a (.dT kvs)) D=some (.lst (ps.map V.ref))/\z0K H1 (upd H' a (.dT kvs))/\z6w (upd H' a (.dT kvs)) kvs vs ps:=by
 obtain⟨ps,e1,e2,e3,s1,sx,hD',rw'⟩:=h
 have na:D≠a:=λz=>by rw[z,y6] at hD;cases hD
 have hf:H' a=some (.frz o (.dT kvs)):=sx a _ na.symm y6
 have tn: ∀b xs,H' b=some (.tup xs)->(upd H' a (.dT kvs)) b=some (.tup xs):=λb xs q=>by
  rw[y3 (z0o q hf (by intro z;cases z))];exact q
 refine⟨by rw[y3 na] at hD;exact hD,hf,ps,by rw[y3 na,hD',e1],λb u q=> ?_,by lia,λj b q v h1 h2 h3=> ?_⟩
 .by_cases hb:b=a
  .subst hb;rw[ha] at q;cases q;exact y6
  .rw[y3 hb]
   refine sx b u (λz=> ?_) (by rw[y3 hb];exact q)
   rw[z] at q hb
   rw[y3 hb,q] at hD;cases hD
 .obtain⟨zs,z1,z2⟩:=rw' j b q v h1 h2 h3
  exact⟨zs,TKi.tups tn z1,tn _ _ z2⟩
section
variable{X:Cx}{iter:bn}{td:TE}{pos:bN}{scope:Scope}{own qk:List Str}{ix:List Nat}
def zjk(K:W.Frag)(g:TG)(tt:TT)(te:TE)(k:Nat)(ix:List Nat)(σ:St)(Q:VK):It->Hp->Prop:=λJ H1=> ∀D,H1 D=none->(∀a o,K.lookup a=some o->upd H1 D (.lst []) a=none)->
 ∃W:Nat->Nat->List V->St->Hp->Prop,(∃m,W 0 m [] (z05 k ix σ) (upd H1 D (.lst [])))/\
  ∀i m ys σ' H',W i m ys σ' H'->H' D=some (.lst ys)/\((J.stop i H'/\Q (.ref D) H')\/
   (J.go i H'/\∀x H2,J.yld i H' x H2->g x σ' H2 λ σ2 H3=>tt σ2 H3 λok H3=>if ok=true then te σ2 H3 λy H4=>H4 D=some (.lst ys)/\ys.length<qg/\∃m',m'<m/\W (i+1) m' (ys++[y]) σ2 (upd H4 D (.lst (ys++[y])))
    else ∃m',m'<m/\W (i+1) m' ys σ2 H3))
def zjl(vs:List (NK×V)->List V)(Q:VK)(x:V)(H1:Hp):Prop:= ∃a kvs,x= .ref a/\H1 a=some (.dT kvs)/\(∀q∈kvs,q.1.length<1000)/\kvs.length<qg/\(vs kvs).length=kvs.length/\
 ∀D H2 ps,H1 D=none->H2 D=some (.lst (ps.map V.ref))->z0K H1 H2->z6w H2 kvs (vs kvs) ps->Q (.ref D) H2
def Thd(N:Addr->Prop)(Q:VK):VK:=λv H'=> ∃a o kvs,N a/\H' a=some (.frz o (.dT kvs))/\Q v (upd H' a (.dT kvs))
def zfZ{kvs:List (NK×V)}{sh:St->Prop}(hD:Hf D=none)(h:sh σ'):RwW D Hf kvs vs sh 0 kvs.length [] σ' (upd Hf D (.lst [])):=
 ⟨[],rfl,rfl,by lia,h,λb o hb q=>by rw[y3 hb];exact q,y6,λj b q v h1=>by simp at h1⟩
def zd9(K:W.Frag):TE:=tOp (zar K) (zcw 0) (zkD (zfi (zfr (zcw 1) (zcw 0)) zkC))
def z8r{N:Addr->Prop}{K:W.Frag}{σ:St}{H1:Hp}{Q:VK}{x:V}{ix:Nat}(h:zjl (λkvs=>kvs.map λq=>(valV kvs q.1).getD .non) Q x H1)(hσ:σ[ix]? =some (some x)):
 ∃a kvs,x= .ref a/\H1 a=some (.dT kvs)/\∀o,N a->zjk K (z5M 0) (λ_ H Q=>Q true H) (zd9 K) 1 [ix] σ (Thd N Q) (ItD a o kvs) (upd H1 a (.frz o (.dT kvs))):=by
 obtain⟨a,kvs,rfl,ha,hk,hz,hl,q⟩:=h
 have valv: ∀(l:List (NK×V)) (k:NK) (v:V),(k,v)∈l->∃w,valV l k=some w:=λl=>by
  induction l with
  |nil=>intro k v h;cases h
  |cons p l ih=>
   intro k v h
   by_cases hp:p.1=k
   .exact⟨_,z1g hp⟩
   .rw[z03 hp]
    rcases c8.mp h with e|h
    .exact absurd (by rw[<-e]) hp
    .exact ih k v h
 refine⟨a,kvs,rfl,ha,λo n D hD kd=>⟨RwW D (upd H1 a (.frz o (.dT kvs))) kvs (kvs.map λq=>(valV kvs q.1).getD .non) (λ σ:St=>σ.length=2/\σ[1]? =some (some (.ref a))),⟨_,zfZ hD ⟨rfl,by simp[z05,hσ]⟩⟩,λi m ys σ' H' w=> ?_⟩⟩
 have w0:=w
 obtain⟨ps,e1,e2,e3,⟨s1,s2⟩,sx,hD',rw'⟩:=w
 have na:D≠a:=λz=>by rw[z,y6] at hD;cases hD
 have hf:H' a=some (.frz o (.dT kvs)):=sx a _ na.symm y6
 refine⟨hD', ?_⟩
 by_cases hi:i<kvs.length
 .refine .inr ⟨⟨hi,hf⟩, ?_⟩
  rintro x H2 ⟨rfl,b,k,v,rfl,hk',hb⟩
  obtain⟨w,hw⟩:=valv kvs k v (List.mem_of_getElem? hk')
  delta z5M
  dsimp only
  rw[qy rfl]
  have z0:(List.set σ' 0 (some (V.ref b)))[0]? =some (some (V.ref b)):=by simp[s1]
  have z1:(List.set σ' 0 (some (V.ref b)))[1]? =some (some (V.ref a)):=by simp[s2]
  refine⟨.ref b,z0, .ref a,z1, .ref b,z0,a,w,rfl, .inr ⟨kvs,k,b, .inr ⟨o,hf⟩,rfl,hb,hw.symm⟩, ?_⟩
  refine⟨by show 1<=qg;decide,λp2 hp2=> ?_⟩
  have m2:=z0K.new (.tup [w]) hp2
  obtain⟨xs,t1,t2⟩:=hb
  have hxl:=z3C t2
  have hkl:k.length<1000:=hk _ (List.mem_of_getElem? hk')
  have zl:qg=16777216:=rfl
  refine⟨b,p2,xs,[w],rfl,rfl,m2 _ _ t1,y6,by erw[l8,C2];lia,z9Y.intro λp3 H4 h4 m3=> ?_⟩
  have m4:z0K H2 H4:=m2.trans m3
  obtain⟨g1,g2,g3⟩:=w0.next (σ2:=σ'.set 0 (some (.ref b))) hi hk' (w:=w) (by rw[List.getElem?_map,hk'];simp[hw]) (TKi.same m4 t2) h4 m4 ⟨by simpa using s1,z1⟩
  exact⟨g1,by lia,g3⟩
 .obtain⟨d1,d2,ps',d3,d4,d5⟩:=w0.fin ha hD (by lia)
  exact .inl ⟨⟨by lia,hf⟩,a,o,kvs,n,hf,q D _ ps' d1 d3 d4 d5⟩
end
end L2
namespace Se
open PySem PySem.SetTable
variable{α:Type}
end Se
namespace L2
open PySem PySem.Spec PyProof.Rows
noncomputable def zda(a b c:Int):Bool:=Builtin.Range.rangeFitsLong a&&Builtin.Range.rangeFitsLong b&&Builtin.Range.rangeFitsLong c&&Builtin.Range.rangeFitsLong (-c)&&Builtin.Range.rangeFitsLong (a -c)&&Builtin.Range.rangeFitsLong (Builtin.Range.rangeSize a b c)
def z8s r a b c(t u v:Tok)(hf:zda a b c=true):
 Meets (Builtin.«range.__reversed__» ⟨[.ref r],[]⟩) (λ_ R s=>IsRange s.heap r a b c t u v/\R (.ok (.ret (.ref s.heap.objs.size))) {s with heap:=s.heap.push {cls:= .type "range_iterator",data:= .fields #[bO (a+(Builtin.Range.rangeSize a b c - 1)*c),bO (Builtin.Range.rangeSize a b c),bO (-c)]}}):=by
 have hc0: ¬(!(Builtin.Range.rangeFitsLong a&&Builtin.Range.rangeFitsLong b&&Builtin.Range.rangeFitsLong c&&Builtin.Range.rangeFitsLong (-c)&&Builtin.Range.rangeFitsLong (a -c)&&Builtin.Range.rangeFitsLong (Builtin.Range.rangeSize a b c)))=true:=by
  show ¬(!zda a b c)=true
  simp[hf]
 refine .of_wp ?_
 rintro P W A R s ⟨hl,h⟩
 obtain⟨hp,g,d,tk,os⟩:=s
 wp_walk
 refine⟨_,rfl, ?_⟩
 have hf':=hf
 unfold zda at hf'
 erw[hf',if_true]
 exact h
section
variable{prog:bp}{w:br}{A:bu}{E:bb->be->Prop}{s:be}
def z8t{a b c:Int}{Q₁:bb->be->Prop}(hr:IsRange s.heap r a b c t u v)(hf:zda a b c=true)
 (h:Q₁ (.ref s.heap.objs.size) {s with heap:=s.heap.push {cls:= .type "range_iterator",data:= .fields #[bO (a+(Builtin.Range.rangeSize a b c - 1)*c),bO (Builtin.Range.rangeSize a b c),bO (-c)]}}):
 cn (bo prog w) A (.call (.builtin "reversed.__new__") ⟨[.type "reversed", .ref r],[]⟩) (wants Q₁ E) s:=by
 have hT:s.TypeIs (.ref r) "range" :=⟨_,hr,rfl⟩
 have hrev: ∀(B:bu) (Q:bb->be->Prop) (E:bb->be->Prop),Q (.ref s.heap.objs.size) {s with heap:=s.heap.push {cls:= .type "range_iterator",data:= .fields #[bO (a+(Builtin.Range.rangeSize a b c - 1)*c),bO (Builtin.Range.rangeSize a b c),bO (-c)]}}->bm (bo prog w) B (call (.builtin "range.__reversed__") [.ref r]) Q E s:=λB Q E q=>
  dO F.slot_range_reversed hT F.entry_range_reversed (F.args_range_reversed_1 _) (z8s r a b c t u v hf) ⟨hr,q⟩
 refine codeAny_call_builtin F.plain_reversed_new F.entry_reversed_new (dv (F.newCall_reversed_1 _) ?_)
 delta Builtin.«reversed.__new__»
 have e1:=newClass_reversed (.ref r)
 wp_walk using(cf hT F.slot_range_reversed.lookup)
 refine dv (F.slot_range_reversed.bind _) ?_
 refine ba (cC ?_)
 exact ba (hrev _ _ _ (bf h))
def z78:isSubtype (.type "range_iterator") (.type "reversed")=pure false:=by rw[isSubtype_type];kernel_rfl
def z8u{a b c:Int}{Q:bb->be->Prop}(hr:IsRange s.heap r a b c t u v)(hf:zda a b c=true)
 (h:Q (.ref s.heap.objs.size) {s with heap:=s.heap.push {cls:= .type "range_iterator",data:= .fields #[bO (a+(Builtin.Range.rangeSize a b c - 1)*c),bO (Builtin.Range.rangeSize a b c),bO (-c)]}}):
 bm (bo prog w) A (call (.type "reversed") [.ref r]) Q E s:=by
 refine callType_other (U:= "range_iterator") (Q₁:=λobj s₁=>obj= .ref s.heap.objs.size/\s₁={s with heap:=s.heap.push {cls:= .type "range_iterator",data:= .fields #[bO (a+(Builtin.Range.rangeSize a b c - 1)*c),bO (Builtin.Range.rangeSize a b c),bO (-c)]}}) (by decide+kernel) F.create_reversed ⟨_,_,F.mro_reversed⟩ F.made_reversed z78 (F.typeCall_reversed_1 _) (z8t hr hf ⟨rfl,rfl⟩) ?_
 rintro obj s₁ ⟨rfl,rfl⟩
 exact⟨⟨_,Heap.get?_push_size _ rfl,rfl⟩,h⟩
variable{X:Cx}{tg:bn}
def zjm(ta:TA):TI:=λ σ H R=>ta σ H λvs H1=> ∃j:Int,vs=[.int j]/\0<=j/\j<2^62/\R (zjh (j - 1) (-1) j.toNat) H1
def zdb{p p2 pos pos2:bN}(hgv:Gl X "reversed")(hmv:X.mg "reversed" =none)(hgr:Gl X "range")(hmr:X.mg "range" =none)(ha:PA X [b] ta)(hs2:bi [b] X.env=[(false,bA b X.env)]:=by rfl)
 (hso:bi [.Call (.Name "range" p2) [b] [] pos2] X.env=[(false,bA (.Call (.Name "range" p2) [b] [] pos2) X.env)]:=by rfl):
 PI X tg (.Call (.Name "reversed" p) [.Call (.Name "range" p2) [b] [] pos2] [] pos) (zjm ta):=by
 intro qz s σ H R I h
 refine fR (z1l I hgv hmv (u:= .type "reversed") (by kernel_rfl) (PyProof.Rows.callWith_type1 ?_ hso rfl))
 rw[hso]
 show bm _ _ (gh ((false,bA (.Call (.Name "range" p2) [b] [] pos2) X.env)::bM pos [])) _ _ s
 refine Calls.spliced_cons ?_
 refine fR (z1l I hgr hmr dM (PyProof.Rows.callWith_type1 (thn (ha pos2 qz s σ H _ I h) λus s1 ⟨vs,H1,I1,r1,q1⟩=> ?_) hs2 rfl))
 obtain⟨j,e,q3,q4,q⟩:=q1
 subst e
 obtain⟨u,rfl,t',rfl⟩:=r1.one
 refine call_range_1 (Calls.spliced_nil ?_)
 have hn:Builtin.Range.rangeSize 0 j 1=j:=by rw[dF];split<;>lia
 have hf:zda 0 j 1=true:=by
  delta zda Builtin.Range.rangeFitsLong
  rw[hn]
  erw[l9,decide_eq_true_eq]
  lia
 refine z8u (IsRange.new ..) hf ?_
 rw[hn]
 refine cA (Heap.get?_push_size _ rfl) ?_
 have I2:Inv X qz σ H1 {s1 with heap:=s1.heap.push {cls:= .type "range",data:= .fields #[.int 0 s1.toks, .int j t', .int 1 (s1.toks+1)]},toks:=s1.toks+2}:=I1.kept λb o e=>Heap.get?_push_of_some _ e
 refine⟨_,[(s1.heap.push {cls:= .type "range",data:= .fields #[.int 0 s1.toks, .int j t', .int 1 (s1.toks+1)]}).objs.size],_,_,H1,rfl,
  I2.kept (t':=s1.toks+2) λb o e=>Heap.get?_push_of_some _ e,z5W _ (j - 1) (-1) j.toNat, ?_,λb hb=> ?_,q⟩
 .have e1:j - 1+((0:Nat):Int)*(-1)=0+(j - 1)*1:=by lia
  have e2:((j.toNat:Nat):Int) -((0:Nat):Int)=j:=by lia
  show dm _ _ (j - 1+((0:Nat):Int)*(-1)) (((j.toNat:Nat):Int) -((0:Nat):Int)) (-1)
  rw[e1,e2]
  exact Heap.get?_push_size _ rfl
 .have e:b=(s1.heap.push {cls:= .type "range",data:= .fields #[.int 0 s1.toks, .int j t', .int 1 (s1.toks+1)]}).objs.size:=by simpa using hb
  subst e
  exact I2.fpOk (b9 _) (I2.hok.fresh (b9 _))
variable{qz:List (Addr×bJ)}{σ:St}{H:Hp}{a:Addr}{kvs:List (Key×V)}{k:Key}{u:bb}
def zaw{Q:bb->be->Prop}(I:Inv X qz σ H s)(e:H a=some (.dK kvs))(ry:RelV (kV k) u)(rz:RelV z r)(hl:kvs.length<qg)
 (h1: ∀v w' s',valV kvs k=some v->Inv X qz σ H s'->RelV v w'->Q w' s') (h2: ∀s',valV kvs k=none->Inv X qz σ (upd H a (.dK (z0M kvs k z))) s'->Q r s'):
 bm (bo X.prog X.w) A (call (.builtin "dict.setdefault") [.ref a,u,r]) Q E s:=by
 obtain⟨hz,hd,vs,rel,dd⟩:=zag I.hok e
 have hl2:(z0M kvs k z).length<=qg:=by have:=z0p kvs k z;lia
 refine call_meetsIn PySem.F.slot_dict_setdefault dd.typeIs PySem.F.entry_dict_setdefault (PySem.F.args_dict_setdefault_3 _ _ _) (kt_meets_setdefault (Y8 X.prog X.w) a (z5Q ry) hd r)
  ⟨vs,dd,by rw[<-rel.length];exact hz,λv hv=> ?_,λhn h' dd' hs=> ?_⟩
 .have q:=rel.val k
  rw[hv] at q
  cases ev:valV kvs k with
  |none=>rw[ev] at q;exact absurd q (by intro z;cases z)
  |some v'=>
   rw[ev] at q
   exact h1 v' v _ ev (I.kept λb o e=>e) q
 .have q:=rel.val k
  rw[hn] at q
  have ev:valV kvs k=none:=by
   cases ev:valV kvs k with
   |none=>rfl
   |some v'=>rw[ev] at q;exact absurd q (by intro z;cases z)
  have he: ∃q,h'.get? a=some q:=let⟨q,_,_,hq,_⟩:=dd';⟨q,hq⟩
  exact h2 _ ev (z2D I (by rw[e];exact True.intro) hs he (z6s hl2 hd (rel.put k rz) dd'))
variable{o f g:bn}{apos cpos:bN}{td ty tx:TE}
def zbG(td ty tx:TE):TE:=λ σ H Q=>td σ H λx H1=> ∃a,x= .ref a/\IsD H1 a/\ty σ H1 λy H2=>tx σ H2 λz H3=> ∃kvs k,H3 a=some (.dK kvs)/\y=kV k/\kvs.length<qg/\
 (∀v,valV kvs k=some v->Q v H3)/\(valV kvs k=none->Q z (upd H3 a (.dK (z0M kvs k z))))
def zdc(ho:PE X o td)(he:PE X f ty)(hf:PE X g tx)(m:M2 X o "setdefault" apos f g cpos):PE X (.Call (.Attribute o "setdefault" apos) [f,g] [] cpos) (zbG td ty tx):=by
 intro qz s σ H Q I h
 refine fh m.base m.few m.line PySem.F.plainAttrs_dict PySem.F.slot_dict_setdefault PySem.F.type_dict_setdefault (thn (ho qz s σ H _ I h) ?_)
 rintro u s1 ⟨x,H1,I1,rx,a,ex,d,q1⟩
 subst ex
 obtain rfl:u=Value.ref a:=rx
 obtain⟨t1,t2,_⟩:=zbt I1 d
 refine⟨t1,t2, ?_⟩
 rw[m.trees]
 refine Calls.callWith_builtin rfl (Calls.evalArgs_plain (Calls.spliced_cons (thn (he qz s1 σ H1 _ I1 q1) λiv s2 ⟨y,H2,I2,ry,q2⟩=>
  Calls.spliced_cons (thn (hf qz s2 σ H2 _ I2 q2) λfv s3 ⟨z,H3,I3,rz,kvs,k,ea,ey,hl,q3,q4⟩=>Calls.spliced_nil ?_))))
 subst ey
 exact zaw I3 ea ry rz hl (λv w' s4 ev I4 rw'=>⟨v,H3,I4,rw',q3 v ev⟩) λs4 ev I4=>⟨z,_,I4,rz,q4 ev⟩
end
def zjn(h:(Y8 P w).is k u=true):RelV (kV k) u:=by
 rw[z6W] at h
 rcases Q2 h with⟨i,t,rfl,rfl⟩|⟨x,t,rfl,rfl⟩
 .exact⟨t,rfl⟩
 .exact⟨t,rfl⟩
theorem zax{prog:bp}{w:br}{K:Type}[DecidableEq K]{knd:PySem.KeyKind prog w K}{es:List bR}{kvs:List (K×bb)}(p:Pairs knd es kvs): ∀{i:Nat} {q:K×bb},kvs[i]? =some q->∃en,es[i]? =some en/\knd.is q.1 en.key=true/\en.val=q.2:=by
 induction p with
 |nil=>intro i q h;simp at h
 |cons h1 h2 _ ih=>
  intro i q h
  cases i with
  |zero=>cases h;exact⟨_,rfl,h1,h2⟩
  |succ i=>exact ih (by simpa using h)
def z6x(K:W.Frag)(a:Addr)(o:bJ)(kvs:List (Key×V)):It:=
 ⟨λi H=>i<kvs.length/\H a=some (.frz o (.dK kvs)),λi H x H'=> ∃p k v,H p=none/\x= .ref p/\H'=upd H p (.tup [kV k,v])/\kvs[i]? =some (k,v)/\∀c ob,K.lookup c=some ob->H' c=none,λi H=>kvs.length<=i/\H a=some (.frz o (.dK kvs))⟩
def z8v{P:bp}{w:br}{H:Hp}{h:Heap}{a:Addr}{o:bJ}{kvs:List (Key×V)}(ok:HOk P w H h)(e:H a=some (.frz o (.dK kvs))):
 h.get? a=some o/\∃es ep,o.data= .dict es ep/\es.size=kvs.length/\
  ∀(i:Nat) (k:Key) (v:V),kvs[i]? =some (k,v)->∃en,es[i]? =some en/\RelV (kV k) en.key/\RelV v en.val:=by
 obtain⟨ho,z,y,vs,r,o',es,ep,e',c,d,ky,l,nd⟩:=ok a _ e
 rw[ho] at e'
 cases e'
 have hl:kvs.length=vs.length:=Paired.length r
 have hs:es.toList.length=vs.length:=l.length
 have hs':es.size=vs.length:=by simpa using hs
 refine⟨ho,es,ep,d,by lia,λi k v q=> ?_⟩
 obtain⟨⟨k',u⟩,q1,q2,q3⟩:=Paired.get r i _ q
 have q2:k=k':=q2
 subst q2
 obtain⟨en,h1,h2,h3⟩:=zax l q1
 exact⟨en,by simpa using h1,zjn h2,by rw[h3];exact q3⟩
def z8w{P:bp}{w:br}{K:W.Frag}{elts:List bn}{x1:Nat}{tpos:bN}(a it:Addr)(o:bJ)(es:Array bR)(ep:Nat)(hd:o.data= .dict es ep)(kvs:List (Key×V)):
 z9X P w K (.Tuple elts x1 tpos) (z6x K a o kvs) [it] it (λi h=> ∃ok ov,ca h it a i es.size ep ok ov) where
 mem:=by simp
 obj:=λi h st b hb=>by
  have e:b=it:=by simpa using hb
  subst e
  obtain⟨_,_,st⟩:=st
  exact⟨_,st,λv z=>by
   have z':Data.fields _=Data.cell v:=z
   cases z'⟩
 keep:=λi h h' st k=>by
  obtain⟨ok,ov,st⟩:=st
  exact⟨ok,ov,k it (by simp) _ st⟩
 item:=by
  intro X hP hw hK hc i qz s σ H E I hf st hg
  subst hP hw hK
  obtain⟨hi,hq⟩:=hg
  obtain⟨ok,ov,st⟩:=st
  obtain⟨ho,es',ep',hd',hsz,hat⟩:=z8v I.hok hq
  rw[hd] at hd'
  cases hd'
  obtain⟨⟨k,v⟩,hk⟩: ∃p,kvs[i]? =some p:=⟨kvs[i],by simp[hi]⟩
  obtain⟨en,he,hb,hv⟩:=hat i k v hk
  refine z8q st ho hd he λh1 f1 p1 k1=>⟨_,rfl,wpAny_letOwnedTupleGo_items f1 λh2 f2 t2=> ?_⟩
  have t2:Heap.SameBut it h1 h2:=t2
  have hil:it<s.heap.objs.size:=Heap.lt_size st
  have p2:h2.get? s.heap.objs.size=some {cls:= .type "tuple",data:= .seq #[en.key,en.val]}:=(t2.2 _ (F9 hil)).trans p1
  have fr: ∀c∈[it],c≠s.heap.objs.size:=λc hc=>by
   have hc:c=it:=by simpa using hc
   subst hc;exact m5 hil
  have I1:Inv X qz σ (upd H s.heap.objs.size (.tup [kV k,v])) {s with heap:=s.heap.push {cls:= .type "tuple",data:= .seq #[en.key,en.val]},toks:=s.toks}:=I.laid (t':=s.toks) (o:= .tup [kV k,v]) (λb ob q=>Heap.get?_push_of_some _ q) (b9 _) ⟨by show 2<=qg;decide,[en.key,en.val], .cons hb (.cons hv .nil),IsTup.new _ _⟩
  have f3: ∀c∈[it],z5N X qz (upd H s.heap.objs.size (.tup [kV k,v])) c:=λc hc=>⟨by rw[y3 (fr c hc)];exact(hf c hc).1,(hf c hc).2⟩
  have I2:=I1.turnedL (h':=h2) (t':=s.toks) (λc ob hc q=>by
   have hc:c≠it:=by simpa using hc
   rcases Heap.get?_push_cases (show(s.heap.push {cls:= .type "tuple",data:= .seq #[en.key,en.val]}).get? c=some ob from q) with⟨rfl,rfl⟩|q'
   .exact p2
   .exact(t2.2 c hc).trans (k1 c ob hc q')) f3
  exact⟨.ref s.heap.objs.size,_,I2,rfl,⟨_,k,v,I.hok.fresh (b9 _),rfl,rfl,hk,λc ob q=>(I2.bs c ob (I2.ok.mod.kin c ob q)).2⟩,⟨_,_,f2⟩,λc hc=>(f3 c hc).1⟩
 done:=by
  intro X hP hw hK hc i qz s σ H E I hf st hg
  subst hP hw hK
  obtain⟨hi,hq⟩:=hg
  obtain⟨ok,ov,st⟩:=st
  obtain⟨ho,es',ep',hd',hsz,hat⟩:=z8v I.hok hq
  rw[hd] at hd'
  cases hd'
  exact zav (I.ok.hd hc) st ho hd (by lia) λh' eb=>⟨rfl,I.turnedL (t':=s.toks) (λc ob hb q=>eb c ob (by simpa using hb) q) hf⟩
 self:=λA i s Q E st h=>by
  obtain⟨_,_,st⟩:=st
  exact W.kcp_self st h
section
variable{X:Cx}
def Inv.freezeK(I:Inv X qz σ H s)(h:H a=some (.dK kvs)):
 ∃o es ep,s.heap.get? a=some o/\o.ExactDict/\o.data= .dict es ep/\(a==bF)=false/\Inv X qz σ (upd H a (.frz o (.dK kvs))) s:=by
 obtain⟨z,y,vs,r,o,es,ep,e,c,d,l⟩:=I.hok a _ h
 refine⟨o,es,ep,e,c,d,y, ?_⟩
 exact I.write (x:=a) (e:=a) (o:= .frz o (.dK kvs)) (h':=s.heap) (t':=s.toks) (by rw[h];trivial) (.inl rfl) (λb u _ q=>q) ⟨o,e⟩ ⟨e,z,y,vs,r,o,es,ep,e,c,d,l⟩
def zg0(K:W.Frag)(td:TE):TI:=λ σ H R=>td σ H λx H1=> ∃a kvs,x= .ref a/\((H1 a=some (.dK kvs)/\∀o,R (z6x K a o kvs) (upd H1 a (.frz o (.dK kvs))))\/∃o,H1 a=some (.frz o (.dK kvs))/\R (z6x K a o kvs) H1)
def z8x{elts:List bn}{x1:Nat}{tpos apos cpos:bN}(hl:PE X l tl)(hbase:cm l "items" X.env (bA l X.env)=bA l X.env:=by rfl)
 (hfew:((bM cpos (bi [] X.env)).all (λx=> !x.1)&&(cR cpos (cy [] X.env)).all (λx=>x.1.isSome)&&decide (([]:List bn).length+([]:List cq).length+(if([]:List cq).isEmpty then 0 else 1)<30))=true:=by rfl)
 (hline:(apos.endLine==cpos.line)=true:=by rfl):PI X (.Tuple elts x1 tpos) (.Call (.Attribute l "items" apos) [] [] cpos) (zg0 X.K tl):=by
 intro qz s σ H R I h
 refine fh hbase hfew hline PySem.F.plainAttrs_dict PySem.F.slot_dict_items PySem.F.type_dict_items (thn (hl qz s σ H _ I h) ?_)
 rintro u s1 ⟨x,H1,I1,rx,a,kvs,ex,q⟩
 subst ex
 obtain rfl:u=Value.ref a:=rx
 have hR:IsD H1 a:=by
  rcases q with⟨ha,_⟩|⟨o,ha,_⟩
  .exact .inl ⟨kvs, .inl ha⟩
  .exact .inl ⟨kvs, .inr ⟨o,ha⟩⟩
 obtain⟨t1,t2,_⟩:=zbt I1 hR
 refine⟨t1,t2,PyProof.Rows.callWith_method0 ?_⟩
 obtain⟨o,es,ep,ho,hc,hd,hy,H2,I2,q⟩: ∃o es ep,s1.heap.get? a=some o/\o.ExactDict/\o.data= .dict es ep/\(a==bF)=false/\∃H2,Inv X qz σ H2 s1/\R (z6x X.K a o kvs) H2:=by
  rcases q with⟨ha,q⟩|⟨o,ha,q⟩
  .obtain⟨o,es,ep,ho,hc,hd,hy,I2⟩:=I1.freezeK ha
   exact⟨o,es,ep,ho,hc,hd,hy,_,I2,q o⟩
  .obtain⟨ho,z,y,vs,r,o',es,ep,e',c,d,l⟩:=I1.hok a _ ha
   rw[ho] at e'
   cases e'
   exact⟨o,es,ep,ho,c,d,y,_,I1,q⟩
 refine z8o hy t1 λh1 hv k1=> ?_
 refine z8p hv (k1 _ _ ho) hd λh2 f2 k2=> ?_
 have I3:Inv X qz σ H2 {s1 with heap:=h1}:=I2.kept (t':=s1.toks) k1
 have I4:Inv X qz σ H2 {s1 with heap:=h2}:=I3.kept (t':=s1.toks) k2
 refine⟨h1.objs.size,[h1.objs.size],_,z6x X.K a o kvs,_,rfl,I4,z8w a _ o es ep hd kvs,⟨_,_,f2⟩,λb hb=> ?_,q⟩
 have e:b=h1.objs.size:=by simpa using hb
 subst e
 exact I3.fpOk (b9 _) I3.fresh
end
def z5X(ke ve qw iter:bn)(scope:Scope)(pos:bN)(it:bb)(d:Addr)(env:dw):
 compTurn (.DictComp ke ve [⟨qw,iter,[],0⟩] scope pos) 0 it (.ref d) env=(dz iter.pos>>=λ_=>cu it>>=λr=>match r with
  |none=>pure (.done .next)
  |some x=>bS qw it x>>=λ_=>cz qw env x>>=λ_=>
   (bA ke env>>=λkv=>cM [kv] (bA ve env)>>=λvv=>dz {ke.pos with endLine:=ve.pos.endLine,endCol:=ve.pos.endCol}>>=λ_=>cM [kv,vv] (dictSet d kv vv))>>=λ_=>
    again (.compLoop (.DictComp ke ve [⟨qw,iter,[],0⟩] scope pos) 0 it (.ref d) env)):=by rfl
def zdd(ke ve gens scope pos)(env:dw):bA (.DictComp ke ve gens scope pos) env=
 dJ (.DictComp ke ve gens scope pos) scope env (firstIterPos gens pos) newDict (firstAsync gens) (firstIter gens env):=rfl
def z1o{prog:bp}{w:br}{A:bu}{R:gi->be->Prop}{s:be}{ke ve qw iter:bn}{scope:Scope}{pos:bN}{it:bb}{d:Addr}{env:dw}(I:Nat->be->Prop)
 (turn: ∀n s,I n s->bm (bo prog w) A (cu it) (λr s₁=>match r with
  |none=>R (.ok .next) s₁
  |some x=>bm (bo prog w) A (bS qw it x) (λ_ s₁=>bm (bo prog w) A (cz qw env x) (λ_ s₂=>bm (bo prog w) A (bA ke env) (λkv s₃=>bm (bo prog w) A (bA ve env) (λvv s₄=>
   bm (bo prog w) A (dictSet d kv vv) (λ_ s₅=> ∃m,m<n/\I m s₅) (λ_ _=>False) s₄)
   (λ_ _=>False) s₃) (λ_ _=>False) s₂) (λ_ _=>False) s₁) (λ_ _=>False) s₁) (λ_ _=>False) s)
 (n:Nat) (h:I n s):
 cn (bo prog w) A (.compLoop (.DictComp ke ve [⟨qw,iter,[],0⟩] scope pos) 0 it (.ref d) env) R s:=by
 refine codeAny_loop rfl I (λn s hI=> ?_) n h
 show bm _ _ ((compTurn (.DictComp ke ve [⟨qw,iter,[],0⟩] scope pos) 0 it (.ref d) env).onRaise (λx=>do ge x env;theTreesLotGoes x)) _ _ s
 refine wpAny_noted ?_
 rw[z5X]
 refine ba (bV (ba (bz (turn n s hI) (λr s₁ h₁=> ?_) λ_ _ h'=>h'.elim)))
 cases r with
 |none=>exact bf h₁
 |some x=>
  refine ba (bz h₁ (λ_ s₁ h₁=> ?_) λ_ _ h'=>h'.elim)
  refine ba (bz h₁ (λ_ s₂ h₂=>ba ?_) λ_ _ h'=>h'.elim)
  refine ba (bz h₂ (λkv s₃ h₃=>ba (bw (bz h₃ (λvv s₄ h₄=>ba (bV (bw (bz h₄ (λ_ s₅ h₅=>bf ⟨rfl,h₅⟩) λ_ _ h'=>h'.elim)))) λ_ _ h'=>h'.elim))) λ_ _ h'=>h'.elim)
def z1k{prog:bp}{w:br}{A:bu}{R:gi->be->Prop}{s:be}{ke ve qw iter ifs rest scope pos it acc env}
 (h0:cn (bo prog w) A (.compLoop (.DictComp ke ve (⟨qw,iter,ifs,0⟩::rest) scope pos) 0 it acc env) R s)
 (h:bm (bo prog w) A (ft it) (λit' s'=>cn (bo prog w) A (.compLoop (.DictComp ke ve (⟨qw,iter,ifs,0⟩::rest) scope pos) 0 it' acc env) R s')
  (notedBy (bo prog w) A env λx s'=>R (.error x) s') s):
 cn (bo prog w) A (.compStart (.DictComp ke ve (⟨qw,iter,ifs,0⟩::rest) scope pos) 0 it acc env) R s:=by
 refine codeAny_of_tree ?_
 show bm _ _ ((compStart (.DictComp ke ve (⟨qw,iter,ifs,0⟩::rest) scope pos) 0 it acc env).onRaise (λx=>do ge x env;dz theWindowsPlace)) _ _ s
 refine wpAny_notedAt ?_
 delta compStart
 show bm _ _ (ask>>=_) _ _ s
 refine ba (wpAny_askSetting (wpAny_ite ?_))
 split
 .first|exact bf ⟨rfl,h0⟩|exact ba (bf (bf ⟨rfl,h0⟩))
 .refine ba (cC ?_)
  show bm _ _ (dz iter.pos>>=_) _ _ s
  refine ba (bV (ba (thn h λit' s' h'=> ?_)))
  exact bf ⟨rfl,h'⟩
section
variable{X:Cx}{tg iter ke ve:bn}{pos:bN}{scope:Scope}{own qk:List Str}{ix:List Nat}{wi:TI}{g:TG}{tk te:TE}
def zbH(K:W.Frag)(wi:TI)(g:TG)(tk te:TE)(k:Nat)(ix:List Nat):TE:=λ σ H Q=>wi σ H λJ H1=> ∀D,H1 D=none->(∀a o,K.lookup a=some o->upd H1 D (.dK []) a=none)->
 ∃W:Nat->Nat->List (Key×V)->St->Hp->Prop,(∃m,W 0 m [] (z05 k ix σ) (upd H1 D (.dK [])))/\
  ∀i m ys σ' H',W i m ys σ' H'->H' D=some (.dK ys)/\((J.stop i H'/\Q (.ref D) H')\/
   (J.go i H'/\∀x H2,J.yld i H' x H2->g x σ' H2 λ σ2 H3=>tk σ2 H3 λy H4=> ∃k,y=kV k/\te σ2 H4 λz H5=>H5 D=some (.dK ys)/\ys.length<qg/\∃m',m'<m/\W (i+1) m' (z0M ys k z) σ2 (upd H5 D (.dK (z0M ys k z)))))
variable{ifs:List bn}
structure Blk(X Y:Cx)(qz:List (Addr×bJ))(σ:St)(tg:bn)(J:It)(fp:List Addr)(it C:Addr)(tn:Nat->Heap->Prop)(σ0:St)(H0:Hp)(s0:be):Prop where
 calm:Y.calm=true
 xe:Y.xe=λ_ _=>False
 turn:z9X Y.prog Y.w Y.K tg J fp it tn
 fps: ∀H',(∀b∈fp,H' b=none)->∀b∈fp,z5N Y [] H' b
 inv:Inv Y [] σ0 H0 s0
 st:tn 0 s0.heap
 fr: ∀b∈fp,H0 b=none
 fin: ∀σ' H' s' h',Inv Y [] σ' H' s'->Heap.SameBut C s'.heap h'->Inv X qz σ H' {s' with heap:=h'}
 loc: ∀σ' H' s',Inv Y [] σ' H' s'->(∃m,s'.heap.Ns C m)/\z5N X qz H' C
def z2N{ce:bn}{use:Option (bb->dl Unit)}{QV:bb->be->Prop}{newAcc:dl bb}{u:HO}{no:bJ}{Z:Addr->It->Hp->Prop}{qz:List (Addr×bJ)}{s:be}{σ:St}{H:Hp}
 (hc:X.calm=true) (S:K4 X.env.scope scope own qk X.N ix) (hi:PI X tg iter wi) (hs: ∀x,bC iter X.env x=pure x) (hcl:clausesOf ce=[⟨tg,iter,ifs,0⟩])
 (hnew: ∀Q s,Q (.ref s.heap.objs.size) {s with heap:=s.heap.push no}->bm (bo X.prog X.w) X.A newAcc Q X.xe s)
 (hnI: ∀H s,Inv X qz σ H s->Inv X qz σ (upd H s.heap.objs.size u) {s with heap:=s.heap.push no})
 (hst: ∀{R s it acc env},cn (bo X.prog X.w) X.A (.compLoop ce 0 it acc env) R s->bm (bo X.prog X.w) X.A (ft it) (λit' s'=>cn (bo X.prog X.w) X.A (.compLoop ce 0 it' acc env) R s') (notedBy (bo X.prog X.w) X.A env λx s'=>R (.error x) s') s->cn (bo X.prog X.w) X.A (.compStart ce 0 it acc env) R s)
 (I:Inv X qz σ H s) (h:wi σ H λJ H1=> ∀D,H1 D=none->(∀a o,X.K.lookup a=some o->upd H1 D u a=none)->Z D J H1)
 (hloop: ∀cl C s₀ H₀ fp pn it tn J H2 D s4,Z D J H2->Blk X (compCxC X scope own qk cl C s₀ H₀ fp pn) qz σ tg J fp it C tn (z05 own.length ix σ) (upd H2 D u) s4->
  cn (bo X.prog X.w) X.A (.compLoop ce 0 (.ref it) (.ref D) (compEnvC scope cl C X.env)) (fj (bo X.prog X.w) X.A X.xe use QV (.ref D) C) s4):
 bm (bo X.prog X.w) X.A (dJ ce scope X.env pos newAcc false (bA iter X.env) use) QV X.xe s:=by
 have hclos:closureFor scope X.env=pure (z2H X.env scope.names []):=z46 λy hy e=>I.ok.has y.1 (S.fr y hy e)
 refine wpAny_comprehension_free hcl hs hclos S.kind S.names (thn (hi qz s σ H _ I h) λv s1 h1=>thn h1 λitv s2 h2=> ?_)
 obtain⟨it,fp,tn,J,H2,e,I2,T,st2,f2,hD⟩:=h2
 subst e
 refine hnew _ _ ?_
 have I3:=hnI _ _ I2
 have z:=hD _ I2.fresh λa o e=>(I3.bs a o (I3.ok.mod.kin a o e)).2
 have fpl: ∀b∈fp,b<s2.heap.objs.size:=λb z=>by
  obtain⟨o,q,_⟩:=T.obj _ _ st2 b z
  exact Heap.lt_size q
 generalize hs3:({s2 with heap:=s2.heap.push no}:be)=s3 at I3
 have hpush: ∀b o,s2.heap.get? b=some o->s3.heap.get? b=some o:=λb o q=>by rw[<-hs3];exact Heap.get?_push_of_some _ q
 have hsz3:s2.heap.objs.size<s3.heap.objs.size:=by rw[<-hs3];show _<(s2.heap.push _).objs.size;rw[Heap.size_push];exact m8 _
 have f3: ∀b∈fp,z5N X qz (upd H2 s2.heap.objs.size u) b:=λb z=>⟨by rw[y3 (m5 (fpl b z))];exact(f2 b z).1,(f2 b z).2⟩
 have st3:tn 0 s3.heap:=T.keep _ _ _ st2 λb _ o q=>hpush b o q
 generalize s2.heap.objs.size=D at*
 refine z0c (λh1 hns keep4 hcl=> ?_)
 have fpl3: ∀b∈fp,b<s3.heap.objs.size:=λb z=>u0b (fpl b z) hsz3
 have I4:=z5V (s1:={s3 with heap:=h1}) S I3 f3 fpl3 rfl rfl keep4 hns hcl
 have st4:tn 0 h1:=T.keep _ _ _ st3 λb _ o q=>keep4 b o q
 have loop:=hloop _ _ _ _ _ _ it tn J H2 D _ z ⟨hc,rfl,T,λH' hn b hb=>by
  obtain⟨g1,g2,g3,g4,g5,g6⟩:=f3 b hb
  refine⟨hn b hb,m5 (fpl3 b hb),λq=> ?_, .inl hb,λx c e=> ?_,λp hp=> ?_⟩
  .rcases c8.mp (I3.stkSub b q) with r|r
   .exact g2 r
   .exact g3 r
  .have e:(z06 X scope (s3.heap.objs.size+1)).lookup x=some c:=e
   rcases K8 e with q|⟨_,q⟩
   .exact F9 (l4 (fpl3 b hb) (D6 (hcl.empty x c (PySem.mem_of_lookup q)).2))
   .rcases z47 _ _ q with q|q
    .exact nomatch q
    .exact g5 x c q.1
  .have hp:p∈(X.pn++qz)++[]:=hp
   rw[e8] at hp
   exact g6 p hp,I4,st4,λb hb=>(f3 b hb).1,λ σ' H' s' h' J' q=>zaq I3 f3 (b9 _) J'.ofC q,λ σ' H' s' J'=>⟨J'.loc.imp λ_ q=>q.1,I3.fpOk (b9 _) J'.free⟩⟩
 exact hst loop (T.self _ 0 _ _ _ st4 loop)
def Blk.out{tn:Nat->Heap->Prop}(B:Blk X Y qz σ tg J fp it C tn σ0 H0 s0)(I:Inv Y [] σ' H' s')(q:Q (.ref D) H'):
 fj (bo X.prog X.w) X.A X.xe none (EP X qz σ Q) (.ref D) C (.ok .next) s':=by
 obtain⟨⟨m,n⟩,_⟩:=B.loc _ _ _ I
 exact⟨m,n,λh'' hs''=>⟨.ref D,H',B.fin _ _ _ _ I hs'',rfl,q⟩⟩
def Blk.put{y:Str}{py:bN}{i:Nat}{it C D:Addr}{tn:Nat->Heap->Prop}{Dd:z5L}(B:Blk X Y qz σ tg J fp it C tn σ0 H0 s0)(I:Inv Y [] σ' H' s')
 (hN:X.N.Nodup) (hy:X.N[i]? =some y) (hx:Loc X.env.scope y) (hfn:X.fn y=true\/X.env.scope.names.lookup y=some .local) (q:Dd.nx (σ.set i (some (.ref D))) H'):
 fj (bo X.prog X.w) X.A X.xe (some (cz (.Name y py) X.env)) (λ_ s'=>SP X qz Dd .next s') (.ref D) C (.ok .next) s':=by
 obtain⟨⟨m6,n6⟩,fC⟩:=B.loc _ _ _ I
 obtain⟨oC,eC,dC⟩: ∃o,s'.heap.get? C=some o/\∀v,o.data≠ .cell v:=by
  obtain⟨o,es,ep,e1,e2,e3⟩:=n6
  exact⟨o,e1,λv z=>by simp_all⟩
 have I8:=(B.fin _ _ _ s'.heap I (Heap.SameBut.refl _ _)).pinned (fp:=[C]) (λb hb=>by rw[i4.mp hb];exact fC) (λb hb=>by rw[i4.mp hb];exact⟨oC,eC,dC⟩)
 show bm _ _ (cz (.Name y py) X.env (.ref D)) _ _ s'
 refine dQ (z1B (v:= .ref D) I8 hN hy hx rfl (λs7 I9=> ?_) hfn)
 have e7:s7.heap.get? C=some oC:=(I9.pin (C,oC) (b6 _ (b6 _ (z0e (by simp) eC)))).1
 refine⟨m6,n6.at' λo e=>by rw[eC] at e;cases e;exact e7,λh3 hs3=>⟨_,H', ?_,q⟩⟩
 exact I9.unpinned.turned (t':=s7.toks) (λb o hb e=>(hs3.2 b hb).trans e) fC.1 fC.2.1 fC.2.2.2.1 fC.2.2.2.2.1 fC.2.2.2.2.2
def Blk.item{J:It}{tn:Nat->Heap->Prop}{s0 s':be}{i:Nat}{gz:V->Hp->St->Hp->Prop}(B:Blk X Y qz σ tg J fp it C tn σ0 H0 s0)(gY:PG Y tg g)(I:Inv Y [] σ' H' s')(st:tn i s'.heap)(fr: ∀b∈fp,H' b=none)(go:J.go i H')
 {R:Option bb->be->Prop} {F:be->Prop} (step: ∀x H2,J.yld i H' x H2->g x σ' H2 λ σ2 H3=>gz x H2 σ2 H3) (hR: ∀v s1,bm (bo Y.prog Y.w) Y.A (bS tg (.ref it) v) (λ_ s2=>bm (bo Y.prog Y.w) Y.A (cz tg Y.env v) (λ_ s3=>F s3) (λ_ _=>False) s2) (λ_ _=>False) s1->R (some v) s1)
 (hF: ∀x H2 σ2 H3 s3 ps,Inv Y ps σ2 H3 s3->gz x H2 σ2 H3->(∀σ4 H4 s4,Inv Y ps σ4 H4 s4->Inv Y [] σ4 H4 s4/\tn (i+1) s4.heap/\∀b∈fp,H4 b=none)->F s3):bm (bo Y.prog Y.w) Y.A (cu (.ref it)) R (λ_ _=>False) s':=by
 have T:=B.turn
 refine thn (T.item Y rfl rfl rfl B.calm i [] s' σ' H' (λ_ _=>False) I (B.fps _ fr) st go) ?_
 rintro r s6 ⟨u,hr,h6⟩
 subst hr
 refine hR _ _ (thn h6 ?_)
 rintro _ s7 ⟨x,H7,I7,r7,y7,st7,fr7⟩
 have e1:=gY _ s7 σ' H7 x u _ (I7.pinned (B.fps _ fr7) (T.obj _ _ st7)) r7 (step x H7 y7)
 rw[B.xe] at e1
 refine thn e1 λ_ s8 ⟨σ8,H8,I8,q8⟩=>hF x H7 σ8 H8 s8 _ I8 q8 λ σ4 H4 s4 I4=>⟨I4.unpinned,T.keep _ _ _ st7 λb hb o e=> ?_,λb hb=> ?_⟩
 .exact(I4.pin (b,o) (b6 _ (b6 _ (z0e hb e)))).1
 .obtain⟨o,e,d⟩:=T.obj _ _ st7 b hb
  exact(I4.pin (b,o) (b6 _ (b6 _ (z0e hb e)))).2.1
def Blk.done{J:It}{tn:Nat->Heap->Prop}{s0 s':be}{i:Nat}{R:Option bb->be->Prop}(B:Blk X Y qz σ tg J fp it C tn σ0 H0 s0)(I:Inv Y [] σ' H' s')(st:tn i s'.heap)(fr: ∀b∈fp,H' b=none)(stop:J.stop i H')(h: ∀s6,Inv Y [] σ' H' s6->R none s6):
 bm (bo Y.prog Y.w) Y.A (cu (.ref it)) R (λ_ _=>False) s':=by
 refine thn (B.turn.done Y rfl rfl rfl B.calm i [] s' σ' H' (λ_ _=>False) I (B.fps _ fr) st stop) ?_
 rintro r s6 ⟨hr,I6⟩
 subst hr
 exact h _ I6
section
variable{elt:bn}{tt:TT}{te:TE}
def z4U{it C D:Addr}{tn:Nat->Heap->Prop}{R:gi->be->Prop}{Qn:Hp->Prop}(B:Blk X Y qz σ tg J fp it C tn σ0 H0 s0)(gY:PG Y tg g)(sY:PTs Y ifs tt)(tY:PE Y elt te)
 (h: ∃W:Nat->Nat->List V->St->Hp->Prop,(∃m,W 0 m [] σ0 H0)/\
  ∀i m ys σ' H',W i m ys σ' H'->H' D=some (.lst ys)/\((J.stop i H'/\Qn H')\/
  (J.go i H'/\∀x H2,J.yld i H' x H2->g x σ' H2 λ σ2 H3=>tt σ2 H3 λok H3=>if ok=true then te σ2 H3 λy H4=>H4 D=some (.lst ys)/\ys.length<qg/\∃m',m'<m/\W (i+1) m' (ys++[y]) σ2 (upd H4 D (.lst (ys++[y])))
   else ∃m',m'<m/\W (i+1) m' ys σ2 H3)))
 (hR: ∀σ' H' s',Inv Y [] σ' H' s'->Qn H'->R (.ok .next) s'):cn (bo Y.prog Y.w) Y.A (.compLoop (.ListComp elt [⟨tg,iter,ifs,0⟩] scope pos) 0 (.ref it) (.ref D) Y.env) R s0:=by
 obtain⟨W,⟨m0,w0⟩,turn⟩:=h
 refine z1j (λn s'=> ∃i ys σ' H',Inv Y [] σ' H' s'/\tn i s'.heap/\(∀b∈fp,H' b=none)/\W i n ys σ' H') ?_ m0 ⟨0,[],_,_,B.inv,B.st,B.fr,w0⟩
 rintro n s5 ⟨i,ys,σ5,H5,I5,st5,fr5,w5⟩
 obtain⟨hD5,alt⟩:=turn i n ys σ5 H5 w5
 rcases alt with⟨stop,qn⟩|⟨go,step⟩
 .exact B.done I5 st5 fr5 stop λs6 I6=>hR _ _ _ I6 qn
 .refine B.item gY I5 st5 fr5 go step (λv s1 h=>h) λx H2 σ8 H8 s8 ps I8 q8 back=> ?_
  have e1':=sY _ s8 σ8 H8 _ I8 q8
  rw[B.xe] at e1'
  refine thn e1' ?_
  rintro ok s8 ⟨H8,I8,q8⟩
  cases ok with
  |false=>
   rw[qh n9] at q8⊢
   obtain⟨m',hm',w9⟩:=q8
   obtain⟨b1,b2,b3⟩:=back _ _ _ I8
   exact⟨m',hm',i+1,_,σ8,_,b1,b2,b3,w9⟩
  |true=>
   rw[qy rfl] at q8⊢
   have e2:=tY _ s8 σ8 H8 _ I8 q8
   rw[B.xe] at e2
   refine thn e2 ?_
   rintro yv s9 ⟨y,H9,I9,r9,hD9,hz9,m',hm',w9⟩
   have e3:=z4L (X:=Y) _ s9 σ8 H9 (.ref D) [y] (.ref D) [yv] (λv H'=>v= .non/\H'=upd H9 D (.lst (ys++[y]))) I9 rfl (.cons r9 .nil) ⟨D,ys,y,rfl,rfl,hD9,hz9,rfl,rfl⟩
   rw[B.xe] at e3
   refine thn e3 ?_
   rintro _ s10 ⟨v10,H10,I10,r10,_,e10⟩
   subst e10
   obtain⟨b1,b2,b3⟩:=back _ _ _ I10
   exact⟨m',hm',i+1,_,σ8,_,b1,b2,b3,w9⟩
def zbI(hc:X.calm=true)(S:K4 X.env.scope scope own qk X.N ix)(hi:PI X tg iter wi)
 (hg: ∀cl C s₀ H₀ fp pn,PG (compCxC X scope own qk cl C s₀ H₀ fp pn) tg g) (ht: ∀cl C s₀ H₀ fp pn,PTs (compCxC X scope own qk cl C s₀ H₀ fp pn) ifs tt) (he: ∀cl C s₀ H₀ fp pn,PE (compCxC X scope own qk cl C s₀ H₀ fp pn) elt te)
 (hs: ∀x,bC iter X.env x=pure x:=by intro _;rfl):
 PE X (.ListComp elt [⟨tg,iter,ifs,0⟩] scope pos) (z8k X.K wi g tt te own.length ix):=by
 intro qz s σ H Q I h
 rw[eval_ListComp]
 exact z2N (u:= .lst []) (no:={cls:= .type "list",data:= .seq ([]:List bb).toArray}) hc S hi hs rfl (λQ s h=>bt h) (λH s I=>I.lnew (t':=s.toks) .nil (B6 _)) (λh0 h=>df h0 h) I h
  λcl C s₀ H₀ fp pn it tn J H2 D s4 z B=>z4U B (hg _ _ _ _ _ _) (ht _ _ _ _ _ _) (he _ _ _ _ _ _) z λ σ' H' s' I' q=>B.out I' q
def zg1{py spos:bN}{i:Nat}(hN:X.N.Nodup)(hy:X.N[i]? =some y)(hx:Loc X.env.scope y)(hfn:X.fn y=true\/X.env.scope.names.lookup y=some .local)(hsw:cD (.ListComp elt [⟨tg,iter,ifs,0⟩] scope pos) (some (.Name y py)) spos.line X.env=pure true)(hc:X.calm=true)(S:K4 X.env.scope scope own qk X.N ix)(hi:PI X tg iter wi)
 (hg: ∀cl C s₀ H₀ fp pn,PG (compCxC X scope own qk cl C s₀ H₀ fp pn) tg g) (ht: ∀cl C s₀ H₀ fp pn,PTs (compCxC X scope own qk cl C s₀ H₀ fp pn) ifs tt) (he: ∀cl C s₀ H₀ fp pn,PE (compCxC X scope own qk cl C s₀ H₀ fp pn) elt te)
 (hs: ∀x,bC iter X.env x=pure x:=by intro _;rfl):
 PS X (.Assign [.Name y py] (.ListComp elt [⟨tg,iter,ifs,0⟩] scope pos) spos) (λDd σ H=>z8k X.K wi g tt te own.length ix σ H λv H'=>Dd.nx (σ.set i (some v)) H'):=by
 intro qz s σ H Dd I h
 rw[exec_Assign_Name_used _ _ _ _ hsw]
 refine ba (bV (ba ?_))
 show bm _ X.A (do let _<-dJ (.ListComp elt [⟨tg,iter,ifs,0⟩] scope pos) scope X.env _ (newList []) false (bA iter X.env) (some (cz (.Name y py) X.env))) _ _ s
 refine ba (bz (z2N (QV:=λ_ s'=>SP X qz Dd .next s') (u:= .lst []) (no:={cls:= .type "list",data:= .seq ([]:List bb).toArray}) hc S hi hs rfl (λQ s h=>bt h) (λH s I=>I.lnew (t':=s.toks) .nil (B6 _)) (λh0 h=>df h0 h) I h
  λcl C s₀ H₀ fp pn it tn J H2 D s4 z B=>z4U B (hg _ _ _ _ _ _) (ht _ _ _ _ _ _) (he _ _ _ _ _ _) z λ σ' H' s' I' q=>B.put I' hN hy hx hfn q) (λ_ s' hq=>bf (bf hq)) λ_ _ e=>e)
variable{ke ve:bn}{tk:TE}
def zg2(hc:X.calm=true)(S:K4 X.env.scope scope own qk X.N ix)(hi:PI X tg iter wi)
 (hg: ∀cl C s₀ H₀ fp pn,PG (compCxC X scope own qk cl C s₀ H₀ fp pn) tg g) (he: ∀cl C s₀ H₀ fp pn,PE (compCxC X scope own qk cl C s₀ H₀ fp pn) ke tk) (hv: ∀cl C s₀ H₀ fp pn,PE (compCxC X scope own qk cl C s₀ H₀ fp pn) ve te)
 (hs: ∀x,bC iter X.env x=pure x:=by intro _;rfl):
 PE X (.DictComp ke ve [⟨tg,iter,[],0⟩] scope pos) (zbH X.K wi g tk te own.length ix):=by
 intro qz s σ H Q I h
 rw[zdd]
 refine z2N (u:= .dK []) (no:={cls:= .type "dict",data:= .dict #[]}) (ifs:=[]) hc S hi hs rfl (λQ s h=>bt h) (λH s I=>I.laid (t':=s.toks) (o:= .dK []) (λb o q=>Heap.get?_push_of_some _ q) (b9 _) (z3Y _ I.big)) (λh0 h=>z1k h0 h) I h
  λcl C s₀ H₀ fp pn it tn J H2 D s4 z B=> ?_
 have gY:=hg cl C s₀ H₀ fp pn
 have tY:=he cl C s₀ H₀ fp pn
 have vY:=hv cl C s₀ H₀ fp pn
 obtain⟨W,⟨m0,w0⟩,turn⟩:=z
 have hE:compEnvC scope cl C X.env=(compCxC X scope own qk cl C s₀ H₀ fp pn).env:=rfl
 have hY:(bo X.prog X.w)=(bo (compCxC X scope own qk cl C s₀ H₀ fp pn).prog (compCxC X scope own qk cl C s₀ H₀ fp pn).w):=rfl
 have hA:X.A=(compCxC X scope own qk cl C s₀ H₀ fp pn).A:=rfl
 have out: ∀σ' H' s',Inv (compCxC X scope own qk cl C s₀ H₀ fp pn) [] σ' H' s'->Q (.ref D) H'->fj (bo X.prog X.w) X.A X.xe none (EP X qz σ Q) (.ref D) C (.ok .next) s':=λ σ' H' s' I' q=>B.out I' q
 generalize fj (bo X.prog X.w) X.A X.xe none (EP X qz σ Q) (.ref D) C=R at out⊢
 rw[hE,hY,hA]
 generalize compCxC X scope own qk cl C s₀ H₀ fp pn=Y at B gY tY vY out⊢
 refine z1o (λn s'=> ∃i ys σ' H',Inv Y [] σ' H' s'/\tn i s'.heap/\(∀b∈fp,H' b=none)/\W i n ys σ' H') ?_ m0 ⟨0,[],_,_,B.inv,B.st,B.fr,w0⟩
 rintro n s5 ⟨i,ys,σ5,H5,I5,st5,fr5,w5⟩
 obtain⟨hD5,alt⟩:=turn i n ys σ5 H5 w5
 rcases alt with⟨stop,qn⟩|⟨go,step⟩
 .exact B.done I5 st5 fr5 stop λs6 I6=>out _ _ _ I6 qn
 .refine B.item gY I5 st5 fr5 go step (λv s1 h=>h) λx H2 σ8 H8 s8 ps I8 q8 back=> ?_
  have e2:=tY _ s8 σ8 H8 _ I8 q8
  rw[B.xe] at e2
  refine thn e2 ?_
  rintro kv s9 ⟨y,H9,I9,r9,k,ey,q9⟩
  subst ey
  have e3:=vY _ s9 σ8 H9 _ I9 q9
  rw[B.xe] at e3
  refine thn e3 ?_
  rintro vv s10 ⟨z,H10,I10,r10,hD10,hz10,m',hm',w10⟩
  obtain⟨z0,hd,vs,rel,dd⟩:=zag I10.hok hD10
  have hzv:vs.length<=qg:=by rw[<-Paired.length rel];exact z0
  have hl:(z0M ys k z).length<=qg:=by have:=z0p ys k z;lia
  refine wpAny_dictSet_pairs (hsz:=hzv) (z5Q r9) dd λh' dd' hs'=> ?_
  have hex: ∃q,h'.get? D=some q:=let⟨q,_,_,hq,_⟩:=dd';⟨q,hq⟩
  obtain⟨b1,b2,b3⟩:=back _ _ _ (z2D (t':=s10.toks+1) (ob:= .dK (z0M ys k z)) I10 (by rw[hD10];exact True.intro) hs' hex (z6s hl hd (rel.put k r10) dd'))
  exact⟨m',hm',i+1,_,σ8,_,b1,b2,b3,w10⟩
end
end
end L2
namespace Mi
open PySem L2
inductive D where
 |non|bool (b:Bool)|int (i:Int)|str (x:Str)
 |tup (ds:List D)|ro (ds:List D)|lst (l:Nat) (ds:List D)
 |dct (l:Nat) (ks vs:List D)|obj (l:Nat) (c:Str) (ns:List Str) (vs:List D)
 |exc (c:Str)|fn (c:Str)|fdc (ks vs:List D)
deriving Inhabited
mutual
def qq:D->List Nat
 | .tup ds=>qx ds
 | .ro ds=>qx ds
 | .fdc _ vs=>qx vs
 | .lst l ds=>l::qx ds
 | .dct l ks vs=>l::(qx ks++qx vs)
 | .obj l _ _ vs=>l::qx vs
 | .non=>[]| .bool _=>[]| .int _=>[]| .str _=>[]| .exc _=>[]| .fn _=>[]
def qx:List D->List Nat
 |[]=>[]
 |d::ds=>qq d++qx ds
end
noncomputable def Z4:List (Option D)->List Nat
 |[]=>[]
 |none::r=>Z4 r
 |some d::r=>qq d++Z4 r
structure Gx where
 K:W.Frag
 cl:Str->Option Addr
 ci: ∀c c' a,cl c=some a->cl c'=some a->c=c'
 ck: ∀c a,cl c=some a->∃o,K.lookup a=some o/\∀its n,o.data≠ .seq its n
def X3:Key->D
 | .inl i=> .int i
 | .inr x=> .str x
def nkD:Key⊕List Key->D
 | .inl k=>X3 k
 | .inr ks=> .tup (ks.map X3)
def dkD(k:NK):D:= .tup (k.map nkD)
def FzD(u:HO)(ks:List D)(xs:List V):Prop:=(∃kvs:List (Key×V),u= .dK kvs/\ks= .non::kvs.map (λp=>X3 p.1)/\xs=kvs.map (·.2))\/∃kvs:List (NK×V),u= .dT kvs/\ks=kvs.map (λp=>dkD p.1)/\xs=kvs.map (·.2)
def FzD.one(h:FzD u ks xs)(h':FzD u ks' xs'):ks=ks'/\xs=xs':=by
 obtain⟨a,e,k,x⟩|⟨a,e,k,x⟩:=h<;>obtain⟨b,e',k',x'⟩|⟨b,e',k',x'⟩:=h'
 .rw[e] at e';cases e';exact⟨k.trans k'.symm,x.trans x'.symm⟩
 .rw[e] at e';cases e'
 .rw[e] at e';cases e'
 .rw[e] at e';cases e';exact⟨k.trans k'.symm,x.trans x'.symm⟩
def RoL(K:W.Frag)(H:Hp)(a:Addr)(xs:List V):Prop:=
 (∃o,H a=some (.frz o (.lst xs)))\/∃(o:bJ) (its:Array bb) (n:Nat),K.lookup a=some o/\o.cls= .type "list" /\o.dict=none/\o.data= .seq its n/\its.size<=qg/\g7 xs its.toList
def RoL.sq(h:RoL K H a xs):SqL K H a xs:=by
 rcases h with⟨o,h⟩|h
 .exact .inl (.inr ⟨o,h⟩)
 .exact .inr h
mutual
def RD(G:Gx)(ρ:Nat->Addr)(H:Hp):D->V->Prop
 | .non,v=>v= .non
 | .bool b,v=>v= .bl b
 | .int i,v=>v= .int i
 | .str x,v=>v= .str x
 | .exc c,v=> ∃a o C,v= .ref a/\G.cl c=some C/\o.cls= .ref C/\(∃vs,o.data= .fields vs)/\H a=some (.frz o (.ext λ_=>True))
 | .fn c,v=> ∃a,v= .ref a/\G.cl c=some a
 | .tup ds,v=> ∃a xs,v= .ref a/\H a=some (.tup xs)/\RDs G ρ H ds xs
 | .ro ds,v=> ∃a xs,v= .ref a/\RoL G.K H a xs/\RDs G ρ H ds xs
 | .fdc ks vs,v=> ∃(a:Addr) (o:bJ) (u:HO) (xs:List V),v= .ref a/\H a=some (.frz o u)/\FzD u ks xs/\RDs G ρ H vs xs
 | .lst l ds,v=>v= .ref (ρ l)/\∃xs,H (ρ l)=some (.lst xs)/\RDs G ρ H ds xs
 | .dct l ks vs,v=>v= .ref (ρ l)/\((∃kvs:List (Key×V),H (ρ l)=some (.dK kvs)/\ks=D.non::kvs.map (λp=>X3 p.1)/\RDs G ρ H vs (kvs.map (·.2)))\/
  (∃kvs:List (NK×V),H (ρ l)=some (.dT kvs)/\ks=kvs.map (λp=>dkD p.1)/\RDs G ρ H vs (kvs.map (·.2))))
 | .obj l c ns vs,v=>v= .ref (ρ l)/\∃C dx fs,G.cl c=some C/\H (ρ l)=some (.ins C dx fs)/\ns=fs.map (·.1)/\RDs G ρ H vs (fs.map (·.2))
def RDs(G:Gx)(ρ:Nat->Addr)(H:Hp):List D->List V->Prop
 |[],xs=>xs=[]
 |d::ds,xs=> ∃x r,xs=x::r/\RD G ρ H d x/\RDs G ρ H ds r
end
structure G5(H H':Hp):Prop where
 t: ∀b xs,H b=some (.tup xs)->H' b=some (.tup xs)
 f: ∀b o u,H b=some (.frz o u)->H' b=some (.frz o u)
def G5.refl H:G5 H H:=⟨λ_ _ h=>h,λ_ _ _ h=>h⟩
def G5.of(h:z0K H H'):G5 H H':=⟨λ_ _ e=>h _ _ e,λ_ _ _ e=>h _ _ e⟩
def G5.ro(t:G5 H H')(h:RoL K H a xs):RoL K H' a xs:=by
 rcases h with⟨o,h⟩|h
 .exact .inl ⟨o,t.f _ _ _ h⟩
 .exact .inr h
section
variable{G:Gx}{ρ ρ':Nat->Addr}{H H':Hp}
mutual
theorem RD.stay(ts:G5 H H'): ∀(t:D) (v:V),RD G ρ H t v->(∀l∈qq t,ρ' l=ρ l/\∀o,H (ρ l)=some o->H' (ρ l)=some o)->RD G ρ' H' t v
 | .non,v,h,_=>by erw[RD] at h⊢;exact h
 | .bool b,v,h,_=>by erw[RD] at h⊢;exact h
 | .int b,v,h,_=>by erw[RD] at h⊢;exact h
 | .str b,v,h,_=>by erw[RD] at h⊢;exact h
 | .exc b,v,h,_=>by
  erw[RD] at h⊢
  obtain⟨a,o,C,e,h1,h2,h3,h5⟩:=h
  exact⟨a,o,C,e,h1,h2,h3,ts.f _ _ _ h5⟩
 | .fn b,v,h,_=>by erw[RD] at h⊢;exact h
 | .tup ds,v,h,hl=>by
  erw[RD,qq] at h hl⊢
  obtain⟨a,xs,e,s,r⟩:=h
  exact⟨a,xs,e,ts.t _ _ s,RDs.stay ts ds xs r hl⟩
 | .ro ds,v,h,hl=>by
  erw[RD,qq] at h hl⊢
  obtain⟨a,xs,e,s,r⟩:=h
  exact⟨a,xs,e,ts.ro s,RDs.stay ts ds xs r hl⟩
 | .fdc ks vs,v,h,hl=>by
  erw[RD,qq] at h hl⊢
  obtain⟨a,o,u,xs,e,s,s2,r⟩:=h
  exact⟨a,o,u,xs,e,ts.f _ _ _ s,s2,RDs.stay ts vs _ r hl⟩
 | .lst l ds,v,h,hl=>by
  erw[RD,qq] at h hl⊢
  obtain⟨e,xs,s,r⟩:=h
  obtain⟨e1,e2⟩:=hl l (c9 ..)
  rw[e1]
  exact⟨e,xs,e2 _ s,RDs.stay ts ds xs r λk hk=>hl k (b7 _ hk)⟩
 | .dct l ks vs,v,h,hl=>by
  erw[RD,qq] at h hl⊢
  obtain⟨e,s⟩:=h
  obtain⟨e1,e2⟩:=hl l (c9 ..)
  rw[e1]
  refine⟨e, ?_⟩
  rcases s with⟨kvs,s,s2,r⟩|⟨kvs,s,s2,r⟩
  .exact .inl ⟨kvs,e2 _ s,s2,RDs.stay ts vs _ r λk hk=>hl k (b7 _ (b6 _ hk))⟩
  .exact .inr ⟨kvs,e2 _ s,s2,RDs.stay ts vs _ r λk hk=>hl k (b7 _ (b6 _ hk))⟩
 | .obj l c ns vs,v,h,hl=>by
  erw[RD,qq] at h hl⊢
  obtain⟨e,C,dx,fs,hC,s,s2,r⟩:=h
  obtain⟨e1,e2⟩:=hl l (c9 ..)
  rw[e1]
  exact⟨e,C,dx,fs,hC,e2 _ s,s2,RDs.stay ts vs _ r λk hk=>hl k (b7 _ hk)⟩
theorem RDs.stay(ts:G5 H H'): ∀(t:List D) (v:List V),RDs G ρ H t v->(∀l∈qx t,ρ' l=ρ l/\∀o,H (ρ l)=some o->H' (ρ l)=some o)->RDs G ρ' H' t v
 |[],v,h,_=>by erw[RDs] at h⊢;exact h
 |d::ds,v,h,hl=>by
  erw[RDs,qx] at h hl⊢
  obtain⟨x,r,e,h1,h2⟩:=h
  exact⟨x,r,e,RD.stay ts d x h1 λl hk=>hl l (e6 _ hk),RDs.stay ts ds r h2 λl hk=>hl l (b6 _ hk)⟩
end
end
mutual
def rp(f:Nat->Option D):D->D
 | .tup ds=> .tup (rpL f ds)
 | .ro ds=> .ro (rpL f ds)
 | .fdc ks vs=> .fdc ks (rpL f vs)
 | .lst l ds=>match f l with|some d=>d|none=> .lst l (rpL f ds)
 | .dct l ks vs=>match f l with|some d=>d|none=> .dct l ks (rpL f vs)
 | .obj l c ns vs=>match f l with|some d=>d|none=> .obj l c ns (rpL f vs)
 | .non=> .non| .bool b=> .bool b| .int i=> .int i| .str x=> .str x| .exc x=> .exc x| .fn x=> .fn x
def rpL(f:Nat->Option D):List D->List D
 |[]=>[]
 |d::ds=>rp f d::rpL f ds
end
noncomputable def rpO(f:Nat->Option D):List (Option D)->List (Option D)
 |[]=>[]
 |none::r=>none::rpO f r
 |some d::r=>some (rp f d)::rpO f r
section
variable{f:Nat->Option D}
mutual
theorem zay: ∀t:D,(∀l∈qq t,f l=none)->rp f t=t
 | .non,_=>rfl
 | .bool b,_=>rfl
 | .int b,_=>rfl
 | .str b,_=>rfl
 | .exc b,_=>rfl
 | .fn b,_=>rfl
 | .tup ds,h=>by erw[rp,qq] at h⊢;rw[rpL_id ds h]
 | .ro ds,h=>by erw[rp,qq] at h⊢;rw[rpL_id ds h]
 | .fdc ks vs,h=>by erw[rp,qq] at h⊢;rw[rpL_id vs h]
 | .lst l ds,h=>by
  erw[rp,qq] at h⊢
  rw[h l (c9 ..),rpL_id ds λk hk=>h k (b7 _ hk)]
 | .dct l ks vs,h=>by
  erw[rp,qq] at h⊢
  rw[h l (c9 ..),rpL_id vs λk hk=>h k (b7 _ (b6 _ hk))]
 | .obj l c ns vs,h=>by
  erw[rp,qq] at h⊢
  rw[h l (c9 ..),rpL_id vs λk hk=>h k (b7 _ hk)]
theorem rpL_id: ∀t:List D,(∀l∈qx t,f l=none)->rpL f t=t
 |[],_=>rfl
 |d::ds,h=>by
  erw[rpL,qx] at h⊢
  rw[zay d λl hk=>h l (e6 _ hk),rpL_id ds λl hk=>h l (b6 _ hk)]
end
theorem z4V: ∀t:List (Option D),(∀l∈Z4 t,f l=none)->rpO f t=t
 |[],_=>rfl
 |none::r,h=>by erw[rpO,Z4] at h⊢;rw[z4V r h]
 |some d::r,h=>by
  erw[rpO,Z4] at h⊢
  rw[zay d λl hk=>h l (e6 _ hk),z4V r λl hk=>h l (b6 _ hk)]
variable{G:Gx}{ρ ρ':Nat->Addr}{H H':Hp}
mutual
theorem RD.rp(ts:G5 H H'): ∀(t:D) (v:V),RD G ρ H t v->(∀l∈qq t,ρ' l=ρ l/\(match f l with|some d=>RD G ρ' H' d (.ref (ρ l))|none=> ∀o,H (ρ l)=some o->H' (ρ l)=some o))->RD G ρ' H' (rp f t) v
 | .non,v,h,_=>by erw[Mi.rp,RD] at h⊢;exact h
 | .bool b,v,h,_=>by erw[Mi.rp,RD] at h⊢;exact h
 | .int b,v,h,_=>by erw[Mi.rp,RD] at h⊢;exact h
 | .str b,v,h,_=>by erw[Mi.rp,RD] at h⊢;exact h
 | .exc b,v,h,_=>by
  erw[Mi.rp,RD] at h⊢
  obtain⟨a,o,C,e,h1,h2,h3,h5⟩:=h
  exact⟨a,o,C,e,h1,h2,h3,ts.f _ _ _ h5⟩
 | .fn b,v,h,_=>by erw[Mi.rp,RD] at h⊢;exact h
 | .tup ds,v,h,hl=>by
  erw[Mi.rp,RD,qq] at h hl⊢
  obtain⟨a,xs,e,s,r⟩:=h
  exact⟨a,xs,e,ts.t _ _ s,RDs.rp ts ds xs r hl⟩
 | .ro ds,v,h,hl=>by
  erw[Mi.rp,RD,qq] at h hl⊢
  obtain⟨a,xs,e,s,r⟩:=h
  exact⟨a,xs,e,ts.ro s,RDs.rp ts ds xs r hl⟩
 | .fdc ks vs,v,h,hl=>by
  erw[Mi.rp,RD,qq] at h hl⊢
  obtain⟨a,o,u,xs,e,s,s2,r⟩:=h
  exact⟨a,o,u,xs,e,ts.f _ _ _ s,s2,RDs.rp ts vs _ r hl⟩
 | .lst l ds,v,h,hl=>by
  erw[Mi.rp,RD,qq] at h hl⊢
  obtain⟨e,xs,s,r⟩:=h
  obtain⟨e1,e2⟩:=hl l (c9 ..)
  cases ef:f l with
  |some d=>rw[ef] at e2;subst e;exact e2
  |none=>
   rw[ef] at e2
   erw[RD]
   rw[e1]
   exact⟨e,xs,e2 _ s,RDs.rp ts ds xs r λk hk=>hl k (b7 _ hk)⟩
 | .dct l ks vs,v,h,hl=>by
  erw[Mi.rp,RD,qq] at h hl⊢
  obtain⟨e,s⟩:=h
  obtain⟨e1,e2⟩:=hl l (c9 ..)
  cases ef:f l with
  |some d=>rw[ef] at e2;subst e;exact e2
  |none=>
   rw[ef] at e2
   erw[RD]
   rw[e1]
   refine⟨e, ?_⟩
   rcases s with⟨kvs,s,s2,r⟩|⟨kvs,s,s2,r⟩
   .exact .inl ⟨kvs,e2 _ s,s2,RDs.rp ts vs _ r λk hk=>hl k (b7 _ (b6 _ hk))⟩
   .exact .inr ⟨kvs,e2 _ s,s2,RDs.rp ts vs _ r λk hk=>hl k (b7 _ (b6 _ hk))⟩
 | .obj l c ns vs,v,h,hl=>by
  erw[Mi.rp,RD,qq] at h hl⊢
  obtain⟨e,C,dx,fs,hC,s,s2,r⟩:=h
  obtain⟨e1,e2⟩:=hl l (c9 ..)
  cases ef:f l with
  |some d=>rw[ef] at e2;subst e;exact e2
  |none=>
   rw[ef] at e2
   erw[RD]
   rw[e1]
   exact⟨e,C,dx,fs,hC,e2 _ s,s2,RDs.rp ts vs _ r λk hk=>hl k (b7 _ hk)⟩
theorem RDs.rp(ts:G5 H H'): ∀(t:List D) (v:List V),RDs G ρ H t v->(∀l∈qx t,ρ' l=ρ l/\(match f l with|some d=>RD G ρ' H' d (.ref (ρ l))|none=> ∀o,H (ρ l)=some o->H' (ρ l)=some o))->RDs G ρ' H' (rpL f t) v
 |[],v,h,_=>by erw[rpL,RDs] at h⊢;exact h
 |d::ds,v,h,hl=>by
  erw[rpL,RDs,qx] at h hl⊢
  obtain⟨x,r,e,h1,h2⟩:=h
  exact⟨x,r,e,RD.rp ts d x h1 λl hk=>hl l (e6 _ hk),RDs.rp ts ds r h2 λl hk=>hl l (b6 _ hk)⟩
end
mutual
theorem z8y(l:Nat): ∀t:D,l∈qq (rp f t)->l∈qq t\/∃k d,k∈qq t/\f k=some d/\l∈qq d
 | .non,h=>by erw[rp,qq] at h;cases h
 | .bool b,h=>by erw[rp,qq] at h;cases h
 | .int b,h=>by erw[rp,qq] at h;cases h
 | .str b,h=>by erw[rp,qq] at h;cases h
 | .exc b,h=>by erw[rp,qq] at h;cases h
 | .fn b,h=>by erw[rp,qq] at h;cases h
 | .tup ds,h=>by
  erw[rp,qq] at h⊢
  exact labsL_rp l ds h
 | .ro ds,h=>by
  erw[rp,qq] at h⊢
  exact labsL_rp l ds h
 | .fdc ks vs,h=>by
  erw[rp,qq] at h⊢
  exact labsL_rp l vs h
 | .lst k ds,h=>by
  erw[rp] at h
  cases e:f k with
  |some d=>rw[e] at h;exact .inr ⟨k,d,by erw[qq];exact c9 ..,e,h⟩
  |none=>
   rw[e] at h
   erw[qq] at h⊢
   rcases c8.mp h with h|h
   .exact .inl (c8.mpr (.inl h))
   .rcases labsL_rp l ds h with q|⟨k',d,q1,q2,q3⟩
    .exact .inl (b7 _ q)
    .exact .inr ⟨k',d,b7 _ q1,q2,q3⟩
 | .dct k ks vs,h=>by
  erw[rp] at h
  cases e:f k with
  |some d=>rw[e] at h;exact .inr ⟨k,d,by erw[qq];exact c9 ..,e,h⟩
  |none=>
   rw[e] at h
   erw[qq] at h⊢
   rcases c8.mp h with h|h
   .exact .inl (c8.mpr (.inl h))
   .rcases e9.mp h with h|h
    .exact .inl (b7 _ (e6 _ h))
    .rcases labsL_rp l vs h with q|⟨k',d,q1,q2,q3⟩
     .exact .inl (b7 _ (b6 _ q))
     .exact .inr ⟨k',d,b7 _ (b6 _ q1),q2,q3⟩
 | .obj k c ns vs,h=>by
  erw[rp] at h
  cases e:f k with
  |some d=>rw[e] at h;exact .inr ⟨k,d,by erw[qq];exact c9 ..,e,h⟩
  |none=>
   rw[e] at h
   erw[qq] at h⊢
   rcases c8.mp h with h|h
   .exact .inl (c8.mpr (.inl h))
   .rcases labsL_rp l vs h with q|⟨k',d,q1,q2,q3⟩
    .exact .inl (b7 _ q)
    .exact .inr ⟨k',d,b7 _ q1,q2,q3⟩
theorem labsL_rp(l:Nat): ∀t:List D,l∈qx (rpL f t)->l∈qx t\/∃k d,k∈qx t/\f k=some d/\l∈qq d
 |[],h=>by erw[rpL,qx] at h;cases h
 |d::ds,h=>by
  erw[rpL,qx] at h⊢
  rcases e9.mp h with h|h
  .rcases z8y l d h with q|⟨k',d,q1,q2,q3⟩
   .exact .inl (e6 _ q)
   .exact .inr ⟨k',d,e6 _ q1,q2,q3⟩
  .rcases labsL_rp l ds h with q|⟨k',d,q1,q2,q3⟩
   .exact .inl (b6 _ q)
   .exact .inr ⟨k',d,b6 _ q1,q2,q3⟩
end
theorem z2y(l:Nat): ∀t:List (Option D),l∈Z4 (rpO f t)->l∈Z4 t\/∃k d,k∈Z4 t/\f k=some d/\l∈qq d
 |[],h=>by erw[rpO,Z4] at h;cases h
 |none::r,h=>by erw[rpO,Z4] at h⊢;exact z2y l r h
 |some d::ds,h=>by
  erw[rpO,Z4] at h⊢
  rcases e9.mp h with h|h
  .rcases z8y l d h with q|⟨k',d,q1,q2,q3⟩
   .exact .inl (e6 _ q)
   .exact .inr ⟨k',d,e6 _ q1,q2,q3⟩
  .rcases z2y l ds h with q|⟨k',d,q1,q2,q3⟩
   .exact .inl (b6 _ q)
   .exact .inr ⟨k',d,b6 _ q1,q2,q3⟩
end
structure Stt where
 σ:List (Option D)
 tm:List (Option D)
 n:Nat
structure Fx where
 A0:Addr->Prop
 H0:Hp
 Z:Addr->Prop
 zA: ∀a,Z a->(∃o,H0 a=some o)/\¬A0 a
 aH: ∀a,A0 a->∃o,H0 a=some o
 n0:Nat
 ρ0:Nat->Addr
def KD(K:W.Frag)(H:Hp):Prop:= ∀a o,K.lookup a=some o->H a=none
section
variable(G:Gx)(ρ:Nat->Addr)(H:Hp)
def Sl:List (Option D)->List (Option V)->Prop
 |[],vs=>vs=[]
 |none::r,vs=> ∃o q,vs=o::q/\Sl r q
 |some d::r,vs=> ∃v q,vs=some v::q/\RD G ρ H d v/\Sl r q
end
def J2(s:Stt):List Nat:=Z4 s.σ++Z4 s.tm
structure MR(G:Gx)(F:Fx)(ρ:Nat->Addr)(H:Hp)(σv tv:List (Option V))(s:Stt):Prop where
 sl:Sl G ρ H s.σ σv
 tm:Sl G ρ H s.tm tv
 inj: ∀i j,i<s.n->j<s.n->ρ i=ρ j->i=j
 dom: ∀l,l<s.n->∃o,H (ρ l)=some o
 lab: ∀l∈J2 s,l<s.n
 own: ∀l∈J2 s,F.A0 (ρ l)\/F.H0 (ρ l)=none
 frm: ∀a o,F.H0 a=some o->(∃o',H a=some o')/\(¬F.A0 a->H a=some o)
 kd:KD G.K H
 frb: ∀l,l<s.n->¬F.Z (ρ l)
 bas:F.n0<=s.n/\∀l,l<F.n0->ρ l=F.ρ0 l
def Stt.psh(s:Stt)(t:D):Stt:={s with tm:=some t::s.tm}
def Stt.nxt(s:Stt):Stt:={s with n:=s.n+1}
section
variable{G:Gx}{F:Fx}{ρ ρ':Nat->Addr}{H H':Hp}{σv tv:List (Option V)}{s:Stt}{t:D}{v:V}
theorem Sl.stay(ts:G5 H H'): ∀{σ:List (Option D)} {σv:List (Option V)},Sl G ρ H σ σv->(∀l∈Z4 σ,ρ' l=ρ l/\∀o,H (ρ l)=some o->H' (ρ l)=some o)->Sl G ρ' H' σ σv
 |[],_,h,_=>h
 |none::r,_,h,hl=>by
  erw[Sl,Z4] at h hl⊢
  obtain⟨o,q,e,h⟩:=h
  exact⟨o,q,e,Sl.stay ts h hl⟩
 |some d::r,_,h,hl=>by
  erw[Sl,Z4] at h hl⊢
  obtain⟨o,q,e,h1,h⟩:=h
  exact⟨o,q,e,RD.stay ts d o h1 λl hk=>hl l (e6 _ hk),Sl.stay ts h λl hk=>hl l (b6 _ hk)⟩
theorem Sl.rp{f:Nat->Option D}(ts:G5 H H'): ∀{σ:List (Option D)} {σv:List (Option V)},Sl G ρ H σ σv->
 (∀l∈Z4 σ,ρ' l=ρ l/\(match f l with|some d=>RD G ρ' H' d (.ref (ρ l))|none=> ∀o,H (ρ l)=some o->H' (ρ l)=some o))->Sl G ρ' H' (rpO f σ) σv
 |[],_,h,_=>h
 |none::r,_,h,hl=>by
  erw[Sl,Z4,rpO] at h hl⊢
  obtain⟨o,q,e,h⟩:=h
  exact⟨o,q,e,Sl.rp ts h hl⟩
 |some d::r,_,h,hl=>by
  erw[Sl,Z4,rpO] at h hl⊢
  obtain⟨o,q,e,h1,h⟩:=h
  exact⟨o,q,e,RD.rp ts d o h1 λl hk=>hl l (e6 _ hk),Sl.rp ts h λl hk=>hl l (b6 _ hk)⟩
theorem Sl.get: ∀{σ:List (Option D)} {σv:List (Option V)},Sl G ρ H σ σv->∀(i:Nat) (d:D),σ[i]? =some (some d)->∃v,σv[i]? =some (some v)/\RD G ρ H d v
 |[],_,_,i,d,e=>by simp at e
 |none::r,_,h,i,d,e=>by
  erw[Sl] at h
  obtain⟨o,q,rfl,h⟩:=h
  cases i with
  |zero=>simp at e
  |succ i=>simpa using Sl.get h i d (by simpa using e)
 |some d'::r,_,h,i,d,e=>by
  erw[Sl] at h
  obtain⟨v,q,rfl,h1,h⟩:=h
  cases i with
  |zero=>simp at e;subst e;exact⟨v,rfl,h1⟩
  |succ i=>simpa using Sl.get h i d (by simpa using e)
theorem Sl.length: ∀{σ:List (Option D)} {σv:List (Option V)},Sl G ρ H σ σv->σ.length=σv.length
 |[],_,h=>by erw[Sl] at h;subst h;rfl
 |none::r,_,h=>by
  erw[Sl] at h
  obtain⟨o,q,rfl,h⟩:=h
  simp[Sl.length h]
 |some d'::r,_,h=>by
  erw[Sl] at h
  obtain⟨v,q,rfl,h1,h⟩:=h
  simp[Sl.length h]
theorem Sl.set: ∀{σ:List (Option D)} {σv:List (Option V)} (i:Nat),Sl G ρ H σ σv->RD G ρ H t v->Sl G ρ H (σ.set i (some t)) (σv.set i (some v))
 |[],_,i,h,_=>by erw[Sl] at h;subst h;simp[Sl]
 |none::r,_,i,h,ht=>by
  erw[Sl] at h
  obtain⟨o,q,rfl,h⟩:=h
  cases i with
  |zero=>erw[C3,Sl];exact⟨_,_,rfl,ht,h⟩
  |succ i=>erw[C4,Sl];exact⟨_,_,rfl,Sl.set i h ht⟩
 |some d'::r,_,i,h,ht=>by
  erw[Sl] at h
  obtain⟨v',q,rfl,h1,h⟩:=h
  cases i with
  |zero=>erw[C3,Sl];exact⟨_,_,rfl,ht,h⟩
  |succ i=>erw[C4,Sl];exact⟨_,_,rfl,h1,Sl.set i h ht⟩
theorem Sl.append: ∀{σ σ':List (Option D)} {σv σv':List (Option V)},Sl G ρ H σ σv->Sl G ρ H σ' σv'->Sl G ρ H (σ++σ') (σv++σv')
 |[],_,_,_,h,h'=>by erw[Sl] at h;subst h;exact h'
 |none::r,_,_,_,h,h'=>by
  erw[Sl] at h
  obtain⟨o,q,rfl,h⟩:=h
  erw[p9,Sl];exact⟨_,_,rfl,Sl.append h h'⟩
 |some d'::r,_,_,_,h,h'=>by
  erw[Sl] at h
  obtain⟨v,q,rfl,h1,h⟩:=h
  erw[p9,Sl];exact⟨_,_,rfl,h1,Sl.append h h'⟩
theorem Sl.split: ∀(σv:List (Option V)) {σ:List (Option D)} {tv:List (Option V)},Sl G ρ H σ (σv++tv)->Sl G ρ H (σ.take σv.length) σv/\Sl G ρ H (σ.drop σv.length) tv
 |[],σ,tv,h=>⟨by simp[Sl],by simpa using h⟩
 |o::σv,[],tv,h=>by simp[Sl] at h
 |o::σv,none::r,tv,h=>by
  erw[p9,Sl] at h
  obtain⟨o',q,e,h⟩:=h
  cases e
  obtain⟨h1,h2⟩:=Sl.split σv h
  erw[l8,E9,F0,Sl]
  exact⟨⟨_,_,rfl,h1⟩,h2⟩
 |o::σv,some d::r,tv,h=>by
  erw[p9,Sl] at h
  obtain⟨o',q,e,h0,h⟩:=h
  cases e
  obtain⟨h1,h2⟩:=Sl.split σv h
  erw[l8,E9,F0,Sl]
  exact⟨⟨_,_,rfl,h0,h1⟩,h2⟩
theorem z1F: ∀{σ:List (Option D)} {i:Nat} {d:D},σ[i]? =some (some d)->∀l∈qq d,l∈Z4 σ
 |[],i,d,e,l,h=>by simp at e
 |none::r,i,d,e,l,h=>by
  erw[Z4]
  cases i with
  |zero=>simp at e
  |succ i=>exact z1F (i:=i) (by simpa using e) l h
 |some d'::r,i,d,e,l,h=>by
  erw[Z4]
  cases i with
  |zero=>simp at e;subst e;exact e6 _ h
  |succ i=>exact b6 _ (z1F (i:=i) (by simpa using e) l h)
theorem z2O: ∀{σ:List (Option D)} {i:Nat} {d:D} (l:Nat),l∈Z4 (σ.set i (some d))->l∈Z4 σ\/l∈qq d
 |[],i,d,l,h=>by simp[Z4] at h
 |none::r,i,d,l,h=>by
  cases i with
  |zero=>
   erw[C3,Z4] at h⊢
   rcases e9.mp h with h|h
   .exact .inr h
   .exact .inl h
  |succ i=>
   erw[C4,Z4] at h⊢
   exact z2O l h
 |some d'::r,i,d,l,h=>by
  cases i with
  |zero=>
   erw[C3,Z4] at h⊢
   rcases e9.mp h with h|h
   .exact .inr h
   .exact .inl (b6 _ h)
  |succ i=>
   erw[C4,Z4] at h⊢
   rcases e9.mp h with h|h
   .exact .inl (e6 _ h)
   .rcases z2O l h with q|q
    .exact .inl (b6 _ q)
    .exact .inr q
theorem Z7: ∀(σ σ':List (Option D)),Z4 (σ++σ')=Z4 σ++Z4 σ'
 |[],_=>rfl
 |none::r,σ'=>by erw[p9,Z4,Z7 r σ']
 |some d::r,σ'=>by erw[p9,Z4,Z7 r σ',A2]
theorem J1: ∀(σ σ':List D),qx (σ++σ')=qx σ++qx σ'
 |[],_=>rfl
 |d::r,σ'=>by erw[p9,qx,J1 r σ',A2]
theorem qv: ∀{ds:List D} {d:D},d∈ds->∀l∈qq d,l∈qx ds
 |_::ds,d,h,l,hl=>by
  erw[qx]
  rcases c8.mp h with rfl|h
  .exact e6 _ hl
  .exact b6 _ (qv h l hl)
theorem K2: ∀{ds:List D} {l:Nat},l∈qx ds->∃d∈ds,l∈qq d
 |d::ds,l,h=>by
  erw[qx] at h
  rcases e9.mp h with h|h
  .exact⟨d,c9 ..,h⟩
  .obtain⟨x,h1,h2⟩:=K2 h
   exact⟨x,b7 _ h1,h2⟩
theorem RDs.get: ∀{ds:List D} {xs:List V},RDs G ρ H ds xs->∀(i:Nat) (d:D),ds[i]? =some d->∃x,xs[i]? =some x/\RD G ρ H d x
 |[],_,_,i,d,e=>by simp at e
 |d'::r,_,h,i,d,e=>by
  erw[RDs] at h
  obtain⟨x,q,rfl,h1,h2⟩:=h
  cases i with
  |zero=>simp at e;subst e;exact⟨x,rfl,h1⟩
  |succ i=>simpa using RDs.get h2 i d (by simpa using e)
theorem RDs.length: ∀{ds:List D} {xs:List V},RDs G ρ H ds xs->ds.length=xs.length
 |[],_,h=>by erw[RDs] at h;subst h;rfl
 |d'::r,_,h=>by
  erw[RDs] at h
  obtain⟨x,q,rfl,h1,h2⟩:=h
  simp[RDs.length h2]
theorem RDs.append: ∀{ds es:List D} {xs ys:List V},RDs G ρ H ds xs->RDs G ρ H es ys->RDs G ρ H (ds++es) (xs++ys)
 |[],_,_,_,h,h'=>by erw[RDs] at h;subst h;exact h'
 |d'::r,_,_,_,h,h'=>by
  erw[RDs] at h
  obtain⟨x,q,rfl,h1,h2⟩:=h
  erw[p9,RDs]
  exact⟨_,_,rfl,h1,RDs.append h2 h'⟩
def RDs.one(h:RD G ρ H d x):RDs G ρ H [d] [x]:=by erw[RDs];exact⟨_,_,rfl,h,rfl⟩
theorem RDs.take: ∀{ds:List D} {xs:List V} (k:Nat),RDs G ρ H ds xs->RDs G ρ H (ds.take k) (xs.take k)
 |_,_,0,_=>by simp[RDs]
 |[],_,k+1,h=>by erw[RDs] at h;subst h;simp[RDs]
 |d'::r,_,k+1,h=>by
  erw[RDs] at h
  obtain⟨x,q,rfl,h1,h2⟩:=h
  erw[E9,RDs]
  exact⟨_,_,rfl,h1,RDs.take k h2⟩
theorem RDs.drop: ∀{ds:List D} {xs:List V} (k:Nat),RDs G ρ H ds xs->RDs G ρ H (ds.drop k) (xs.drop k)
 |_,_,0,h=>h
 |[],_,k+1,h=>by erw[RDs] at h;subst h;simp[RDs]
 |d'::r,_,k+1,h=>by
  erw[RDs] at h
  obtain⟨x,q,rfl,h1,h2⟩:=h
  erw[F0]
  exact RDs.drop k h2
theorem RDs.set: ∀{ds:List D} {xs:List V} (k:Nat),RDs G ρ H ds xs->RD G ρ H t v->RDs G ρ H (ds.set k t) (xs.set k v)
 |[],_,k,h,_=>by erw[RDs] at h;subst h;simp[RDs]
 |d'::r,_,0,h,ht=>by
  erw[RDs] at h
  obtain⟨x,q,rfl,h1,h2⟩:=h
  erw[C3,RDs];exact⟨_,_,rfl,ht,h2⟩
 |d'::r,_,k+1,h,ht=>by
  erw[RDs] at h
  obtain⟨x,q,rfl,h1,h2⟩:=h
  erw[C4,RDs];exact⟨_,_,rfl,h1,RDs.set k h2 ht⟩
def MR.pop{r:Option D}(M:MR G F ρ H σv (o::tv) {s with tm:=r::s.tm}):MR G F ρ H σv tv s where
 sl:=M.sl
 tm:=by
  have h:=M.tm
  cases r with
  |none=>erw[Sl] at h;obtain⟨_,_,e,h⟩:=h;cases e;exact h
  |some t=>erw[Sl] at h;obtain⟨_,_,e,_,h⟩:=h;cases e;exact h
 inj:=M.inj
 dom:=M.dom
 lab:=λl h=>M.lab l (by
  rcases e9.mp h with h|h
  .exact e6 _ h
  .refine b6 _ ?_
   cases r with
   |none=>exact h
   |some t=>exact b6 _ h)
 own:=λl h=>M.own l (by
  rcases e9.mp h with h|h
  .exact e6 _ h
  .refine b6 _ ?_
   cases r with
   |none=>exact h
   |some t=>exact b6 _ h)
 frm:=M.frm
 kd:=M.kd
 frb:=M.frb
 bas:=M.bas
def MR.top(M:MR G F ρ H σv (some v::tv) (s.psh t)):RD G ρ H t v:=by
 have h:=M.tm
 have h:Sl G ρ H (some t::s.tm) (some v::tv):=h
 erw[Sl] at h
 obtain⟨_,_,e,h,_⟩:=h
 cases e
 exact h
def MR.topl(M:MR G F ρ H σv tv (s.psh t)): ∀l∈qq t,l<s.n/\(F.A0 (ρ l)\/F.H0 (ρ l)=none):=λl h=>
 have m:l∈J2 (s.psh t):=b6 _ (e6 _ h)
 ⟨M.lab l m,M.own l m⟩
def MR.same(M:MR G F ρ H σv tv s)(h:z0K H H')(k:KD G.K H'):MR G F ρ H' σv tv s where
 sl:=Sl.stay (G5.of h) M.sl λl _=>⟨rfl,λo e=>h _ _ e⟩
 tm:=Sl.stay (G5.of h) M.tm λl _=>⟨rfl,λo e=>h _ _ e⟩
 inj:=M.inj
 dom:=λl hl=>let⟨o,e⟩:=M.dom l hl;⟨o,h _ _ e⟩
 lab:=M.lab
 own:=M.own
 frm:=λa o e=>let⟨⟨o',e1⟩,e2⟩:=M.frm a o e;⟨⟨o',h _ _ e1⟩,λn=>h _ _ (e2 n)⟩
 kd:=k
 frb:=M.frb
 bas:=M.bas
def RDs.same(h:z0K H H')(r:RDs G ρ H ts vs):RDs G ρ H' ts vs:=RDs.stay (G5.of h) ts vs r λl _=>⟨rfl,λo e=>h _ _ e⟩
noncomputable def ext(ρ:Nat->Addr)(n:Nat)(p:Addr):Nat->Addr:=λl=>if l=n then p else ρ l
def Y3{n l:Nat}(h:l<n):ext ρ n p l=ρ l:=by delta ext;rw[qh (by lia)]
def Q4{n:Nat}:ext ρ n p n=p:=by delta ext;rw[qy rfl]
def MR.new(M:MR G F ρ H σv tv s)(hp:H p=none)(k:KD G.K (upd H p o)):MR G F (ext ρ s.n p) (upd H p o) σv tv s.nxt where
 sl:=Sl.stay (G5.of (z0K.new o hp)) M.sl λl hl=>⟨Y3 (M.lab l (e6 _ hl)),λo e=>z0K.new _ hp _ _ e⟩
 tm:=Sl.stay (G5.of (z0K.new o hp)) M.tm λl hl=>⟨Y3 (M.lab l (b6 _ hl)),λo e=>z0K.new _ hp _ _ e⟩
 inj:=λi j hi hj e=>by
  have hi:i<s.n+1:=hi
  have hj:j<s.n+1:=hj
  have nn: ∀i,i<s.n->ρ i≠p:=λi h e=>by
   obtain⟨o,q⟩:=M.dom i h
   rw[e,hp] at q;cases q
  by_cases h1:i=s.n
  .by_cases h2:j=s.n
   .lia
   .rw[h1,Q4,Y3 (by lia)] at e
    exact absurd e.symm (nn j (by lia))
  .by_cases h2:j=s.n
   .rw[h2,Q4,Y3 (by lia)] at e
    exact absurd e (nn i (by lia))
   .rw[Y3 (by lia),Y3 (by lia)] at e
    exact M.inj i j (by lia) (by lia) e
 dom:=λl hl=>by
  have hl:l<s.n+1:=hl
  by_cases h1:l=s.n
  .subst h1;rw[Q4];exact⟨o,y6⟩
  .rw[Y3 (by lia)]
   obtain⟨o',e⟩:=M.dom l (by lia)
   exact⟨o',z0K.new _ hp _ _ e⟩
 lab:=λl h=>C6 (M.lab l h)
 own:=λl h=>by rw[Y3 (M.lab l h)];exact M.own l h
 frm:=λa o e=>let⟨⟨o',e1⟩,e2⟩:=M.frm a o e;⟨⟨o',z0K.new _ hp _ _ e1⟩,λn=>z0K.new _ hp _ _ (e2 n)⟩
 kd:=k
 frb:=λl hl=>by
  have hl:l<s.n+1:=hl
  by_cases h1:l=s.n
  .subst h1;rw[Q4]
   intro z
   obtain⟨⟨o,e⟩,_⟩:=F.zA p z
   obtain⟨⟨o',e'⟩,_⟩:=M.frm p o e
   rw[hp] at e';cases e'
  .rw[Y3 (by lia)]
   exact M.frb l (by lia)
 bas:=⟨O7 M.bas.1,λl hl=>by rw[Y3 (l4 hl M.bas.1)];exact M.bas.2 l hl⟩
def MR.fresh0(M:MR G F ρ H σv tv s)(hp:H p=none):F.H0 p=none:=by
 cases q:F.H0 p with
 |none=>rfl
 |some o=>
  obtain⟨⟨o',e⟩,_⟩:=M.frm p o q
  rw[hp] at e;cases e
def Stt.put(s:Stt)(l:Nat)(d:D):Stt:={s with σ:=rpO (λk=>if k=l then some d else none) s.σ,tm:=rpO (λk=>if k=l then some d else none) s.tm}
end
inductive Res(α:Type) where
 |ok (a:α) (s:Stt)|ex (d:D) (s:Stt)|no
abbrev M(α:Type):=Stt->Res α
def bd{α β:Type}(m:M α)(f:α->M β):M β:=λs=>match m s with
 | .ok a s'=>f a s'
 | .ex d s'=> .ex d s'
 | .no=> .no
noncomputable def rt{α:Type}(a:α):M α:=λs=> .ok a s
noncomputable def fl{α:Type}:M α:=λ_=> .no
def psh(t:D):M Unit:=λs=> .ok () (s.psh t)
def pop:M D:=λs=>match s.tm with
 |some t::r=> .ok t {s with tm:=r}
 |_=> .no
structure Fy extends Fx where
 tv0:List (Option V)
 xw:D->Stt->Prop
structure MRL(G:Gx)(F:Fx)(ρ:Nat->Addr)(H:Hp)(σv tv:List (Option V))(s:Stt)(ts:List D)(vs:List V):Prop where
 m:MR G F ρ H σv tv s
 rd:RDs G ρ H ts vs
 lb: ∀l∈qx ts,l<s.n/\(F.A0 (ρ l)\/F.H0 (ρ l)=none)
section
variable{G:Gx}{F:Fy}{ρ ρ':Nat->Addr}{H H':Hp}{σv tv:List (Option V)}{s:Stt}{t t':D}{v u:V}{ts:List D}{vs:List V}{Q:VK}
def MRL.rd1(M:MRL G F.toFx ρ H σv tv s [t] [v]):RD G ρ H t v:=by
 have h:=M.rd
 erw[RDs] at h
 obtain⟨_,_,e,h,_⟩:=h
 cases e;exact h
def MRL.rd2(M:MRL G F.toFx ρ H σv tv s [t,t'] [v,u]):RD G ρ H t v/\RD G ρ H t' u:=by
 have h:=M.rd
 erw[RDs] at h
 obtain⟨_,_,e,h,_,_,e',h',_⟩:=h
 cases e;cases e';exact⟨h,h'⟩
def MRL.push(M:MRL G F.toFx ρ H σv tv s [t] [v]):MR G F.toFx ρ H σv (some v::tv) (s.psh t):=by
 have hl: ∀l∈qq t,l<s.n/\(F.A0 (ρ l)\/F.H0 (ρ l)=none):=λl h=>M.lb l (by erw[qx,e8];exact h)
 refine⟨M.m.sl, ?_,M.m.inj,M.m.dom,λl h=> ?_,λl h=> ?_,M.m.frm,M.m.kd,M.m.frb,M.m.bas⟩
 .show Sl G ρ H (some t::s.tm) _
  erw[Sl]
  exact⟨v,tv,rfl,M.rd1,M.m.tm⟩
 .have h:l∈Z4 s.σ++(qq t++Z4 s.tm):=h
  rcases e9.mp h with h|h
  .exact M.m.lab l (e6 _ h)
  .rcases e9.mp h with h|h
   .exact(hl l h).1
   .exact M.m.lab l (b6 _ h)
 .have h:l∈Z4 s.σ++(qq t++Z4 s.tm):=h
  rcases e9.mp h with h|h
  .exact M.m.own l (e6 _ h)
  .rcases e9.mp h with h|h
   .exact(hl l h).2
   .exact M.m.own l (b6 _ h)
def MRL.down{s':Stt}(M:MRL G F.toFx ρ H σv (some v::tv) s' ts vs)(e:s'.tm=some t::r):MRL G F.toFx ρ H σv tv {s' with tm:=r} (t::ts) (v::vs):=by
 obtain⟨σ,tm,n⟩:=s'
 have e:tm=some t::r:=e
 subst e
 refine⟨MR.pop (s:=⟨σ,r,n⟩) M.m, ?_,λl h=> ?_⟩
 .erw[RDs]
  exact⟨v,vs,rfl,MR.top (s:=⟨σ,r,n⟩) M.m,M.rd⟩
 .erw[qx] at h
  rcases e9.mp h with h|h
  .exact MR.topl (s:=⟨σ,r,n⟩) M.m l h
  .exact M.lb l h
def wM(G:Gx)(F:Fy)(σv tv:List (Option V))(r:Res D)(Q:VK):Prop:=match r with
 | .ok t s'=> ∀ρ' v H',MRL G F.toFx ρ' H' σv tv s' [t] [v]->Q v H'
 | .ex d s'=>F.xw d s'
 | .no=>False
def wL(G:Gx)(F:Fy)(σv tv:List (Option V))(r:Res (List D))(Q:List V->Hp->Prop):Prop:=match r with
 | .ok ts s'=> ∀ρ' vs H',MRL G F.toFx ρ' H' σv tv s' ts vs->Q vs H'
 | .ex d s'=>F.xw d s'
 | .no=>False
def wB(G:Gx)(F:Fy)(σv tv:List (Option V))(r:Res Bool)(Q:Bool->Hp->Prop):Prop:=match r with
 | .ok b s'=> ∀ρ' H',MR G F.toFx ρ' H' σv tv s'->Q b H'
 | .ex d s'=>F.xw d s'
 | .no=>False
def tMv(G:Gx)(F:Fy)(m:M D)(σv tv:List (Option V))(H:Hp)(Q:VK):Prop:=F.tv0<:+tv/\∃ρ s,MR G F.toFx ρ H σv tv s/\wM G F σv tv (m s) Q
def tLv(G:Gx)(F:Fy)(m:M (List D))(σv tv:List (Option V))(H:Hp)(Q:List V->Hp->Prop):Prop:=F.tv0<:+tv/\∃ρ s,MR G F.toFx ρ H σv tv s/\wL G F σv tv (m s) Q
def tBv(G:Gx)(F:Fy)(m:M Bool)(σv tv:List (Option V))(H:Hp)(Q:Bool->Hp->Prop):Prop:=F.tv0<:+tv/\∃ρ s,MR G F.toFx ρ H σv tv s/\wB G F σv tv (m s) Q
def tM(G:Gx)(F:Fy)(m:M D):TE:=λ σv H Q=> ∃tv,tMv G F m σv tv H Q
def tML(G:Gx)(F:Fy)(m:M (List D)):TA:=λ σv H Q=> ∃tv,tLv G F m σv tv H Q
def tMB(G:Gx)(F:Fy)(m:M Bool):TT:=λ σv H Q=> ∃tv,tBv G F m σv tv H Q
def SE(X:Cx)(G:Gx)(F:Fy)(e:bn)(m:M D):Prop:=PE X e (tM G F m)
def SA(X:Cx)(G:Gx)(F:Fy)(es:List bn)(m:M (List D)):Prop:=PA X es (tML G F m)
def SB(X:Cx)(G:Gx)(F:Fy)(e:bn)(m:M Bool):Prop:=PT X e (tMB G F m)
def z5F(h:F.tv0<:+tv):F.tv0<:+o::tv:=h.trans (List.suffix_cons _ _)
def z79(h:tMv G F (bd m f) σv tv H Q):tMv G F m σv tv H (λv H1=> ∃ρ1 s1 t,MRL G F.toFx ρ1 H1 σv tv s1 [t] [v]/\wM G F σv tv (f t s1) Q):=by
 obtain⟨hs,ρ,s,M,W⟩:=h
 refine⟨hs,ρ,s,M, ?_⟩
 unfold bd at W
 cases e:m s with
 |ok t s1=>rw[e] at W;exact λ ρ1 v H1 M1=>⟨ρ1,s1,t,M1,W⟩
 |ex d s1=>rw[e] at W;exact W
 |no=>rw[e] at W;exact W
def y8(ma mb:M D)(g:D->D->M D):M D:=bd ma λx=>bd (psh x) λ_=>bd mb λy=>bd pop λx'=>g x' y
def z4W(h:tMv G F (y8 ma mb g) σv tv H Q):
 tMv G F ma σv tv H (λv H1=>tMv G F mb σv (some v::tv) H1 (λu H2=> ∃ρ2 s2 t t',MRL G F.toFx ρ2 H2 σv tv s2 [t,t'] [v,u]/\wM G F σv tv (g t t' s2) Q)):=by
 have h':=z79 h
 obtain⟨hs,ρ,s,M,W⟩:=h'
 refine⟨hs,ρ,s,M, ?_⟩
 cases e:ma s with
 |ok t s1=>
  rw[e] at W
  intro ρ1 v H1 M1
  obtain⟨ρ1,s1,t,M1,W⟩:=W ρ1 v H1 M1
  refine⟨z5F hs,ρ1,s1.psh t,M1.push, ?_⟩
  erw[bd,psh] at W
  cases e2:mb (s1.psh t) with
  |ok y s2=>
   rw[e2] at W
   intro ρ2 u H2 M2
   erw[pop] at W
   cases e3:s2.tm with
   |nil=>rw[e3] at W;exact W.elim
   |cons o r=>
    cases o with
    |none=>rw[e3] at W;exact W.elim
    |some t'=>
     rw[e3] at W
     exact⟨ρ2,{s2 with tm:=r},t',y,M2.down e3,W⟩
  |ex d s2=>rw[e2] at W;exact W
  |no=>rw[e2] at W;exact W
 |ex d s1=>rw[e] at W;exact W
 |no=>rw[e] at W;exact W
noncomputable def Y0:List (M D)->M (List D)
 |[]=>rt []
 |m::ms=>bd m λx=>bd (psh x) λ_=>bd (Y0 ms) λys=>bd pop λx'=>rt (x'::ys)
variable{X:Cx}{e a b c:bn}{pos:bN}
def Inv.kd{qz:List (Addr×bJ)}{σ:St}{H:Hp}{s:be}(I:Inv X qz σ H s):KD X.K H:=λa o e=>(I.bs a o (I.ok.mod.kin a o e)).2
def PE.imp{t t':TE}(hk:X.K=G.K)(h:PE X e t)(hi: ∀σ H Q,t' σ H Q->t σ H (λv H'=>KD G.K H'->Q v H')):PE X e t':=λqz s σ H Q I q=>
 thn (h qz s σ H _ I (hi σ H Q q)) λu s' ⟨v,H',I',r,k⟩=>⟨v,H',I',r,k (hk▸Inv.kd I')⟩
def PA.imp{es:List bn}{t t':TA}(hk:X.K=G.K)(h:PA X es t)(hi: ∀σ H Q,t' σ H Q->t σ H (λv H'=>KD G.K H'->Q v H')):PA X es t':=λpos qz s σ H Q I q=>
 thn (h pos qz s σ H _ I (hi σ H Q q)) λu s' ⟨v,H',I',r,k⟩=>⟨v,H',I',r,k (hk▸Inv.kd I')⟩
def z9Z(G:Gx)(F:Fy)(r:R2)(g:D->D->M D):Prop:= ∀ρ s t t' v u H σv tv Q,MRL G F.toFx ρ H σv tv s [t,t'] [v,u]->wM G F σv tv (g t t' s) Q->r v u H (λw H'=>KD G.K H'->Q w H')
def z0d(G:Gx)(F:Fy)(r:R2)(g:D->D->M D):Prop:= ∀ρ s t t' v u H σv tv Q,MRL G F.toFx ρ H σv tv s [t,t'] [v,u]->wM G F σv tv (g t t' s) Q->r v u H Q
def k9(G:Gx)(F:Fy)(r:List V->Hp->VK->Prop)(g:List D->M D):Prop:= ∀ρ s ts vs H σv tv Q,MRL G F.toFx ρ H σv tv s ts vs->wM G F σv tv (g ts s) Q->r vs H (λw H'=>KD G.K H'->Q w H')
def z7a(hk:X.K=G.K)(ho:OpR X (cg op) r)(hg:z9Z G F r g)(ha:SE X G F a ma)(hb:SE X G F b mb):SE X G F (.BinOp a op b pos) (y8 ma mb g):=by
 refine PE.imp hk (zf9 ho ha hb) λ σ H Q ⟨tv,h⟩=>⟨tv, ?_⟩
 obtain⟨hs,ρ,s,M,W⟩:=z4W h
 refine⟨hs,ρ,s,M, ?_⟩
 cases e:ma s with
 |ok t s1=>
  rw[e] at W
  intro ρ1 v H1 M1
  refine⟨some v::tv, ?_⟩
  obtain⟨hs2,ρ2,s2,M2,W2⟩:=W ρ1 v H1 M1
  refine⟨hs2,ρ2,s2,M2, ?_⟩
  cases e2:mb s2 with
  |ok t2 s3=>
   rw[e2] at W2
   intro ρ3 u H3 M3
   obtain⟨ρ4,s4,x,y,M4,W4⟩:=W2 ρ3 u H3 M3
   exact hg _ _ _ _ _ _ _ _ _ _ M4 W4
  |ex d s3=>rw[e2] at W2;exact W2
  |no=>rw[e2] at W2;exact W2
 |ex d s1=>rw[e] at W;exact W
 |no=>rw[e] at W;exact W
def wM.mono(h:wM G F σv tv r Q)(k: ∀v H,Q v H->Q' v H):wM G F σv tv r Q':=by
 cases r with
 |ok t s=>exact λ ρ v H M=>k _ _ (h ρ v H M)
 |ex d s=>exact h
 |no=>exact h
def tMv.mono(h:tMv G F m σv tv H Q)(k: ∀v H,Q v H->Q' v H):tMv G F m σv tv H Q':=by
 obtain⟨hs,ρ,s,M,W⟩:=h
 exact⟨hs,ρ,s,M,W.mono k⟩
def zde{R:V->V->Hp->VK->Prop}(hg:z9Z G F R g)(h:tM G F (y8 ma mb g) σv H Q):
 tM G F ma σv H λx H1=>tM G F mb σv H1 λy H2=>R x y H2 λw H'=>KD G.K H'->Q w H':=by
 obtain⟨tv,h⟩:=h
 exact⟨tv,(z4W h).mono λv H1 h1=>⟨_,h1.mono λu H2 ⟨ρ,s,t,t',M,W⟩=>hg _ _ _ _ _ _ _ _ _ _ M W⟩⟩
def z6y{R:V->V->Hp->VK->Prop}(hg:z0d G F R g)(h:tM G F (y8 ma mb g) σv H Q):
 tM G F ma σv H λx H1=>tM G F mb σv H1 λy H2=>R x y H2 Q:=by
 obtain⟨tv,h⟩:=h
 exact⟨tv,(z4W h).mono λv H1 h1=>⟨_,h1.mono λu H2 ⟨ρ,s,t,t',M,W⟩=>hg _ _ _ _ _ _ _ _ _ _ M W⟩⟩
def PE.imp0{t t':TE}(h:PE X e t)(hi: ∀σ H Q,t' σ H Q->t σ H Q):PE X e t':=λqz s σ H Q I q=>h qz s σ H _ I (hi σ H Q q)
def PT.imp0{t t':TT}(h:PT X e t)(hi: ∀σ H Q,t' σ H Q->t σ H Q):PT X e t':=λqz s σ H Q I q=>h qz s σ H _ I (hi σ H Q q)
def zdf(ho:OpR X (bE op) r)(hg:z0d G F r g)(ha:SE X G F a ma)(hb:SE X G F b mb)(hm:bW op b=false):SE X G F (.Compare a [op] [b] pos) (y8 ma mb g):=
 PE.imp0 (zcF ho ha hb hm) λ_ _ _ h=>z6y hg h
def zjo(hk:X.K=G.K)(ho:IxR X r)(hg:z9Z G F r g)(ha:SE X G F a ma)(hb:SE X G F b mb)(hs:z2C b):SE X G F (.Subscript a b pos) (y8 ma mb g):=
 PE.imp hk (zj2 ho ha hb hs) λ_ _ _ h=>zde hg h
def zg3(hk:X.K=G.K):SA X G F [] (Y0 []):=by
 refine PA.imp hk zbp λ σ H Q ⟨tv,hs,ρ,s,M,W⟩ _=>W ρ [] H ⟨M,rfl,λl h=>by simp[qx] at h⟩
def nst:bn->Bool
 | .Starred _ _=>false
 |_=>true
def z8z(h:nst e=true):bi (e::es) env=(false,bA e env)::bi es env:=by
 cases e<;>first|rfl|exact T5 h
def zdg(hk:X.K=G.K)(ha:SE X G F e m)(hr:SA X G F es (Y0 ms))(hs:nst e=true:=by rfl):SA X G F (e::es) (Y0 (m::ms)):=by
 refine PA.imp hk (z7R ha hr (z8z hs)) λ σ H Q ⟨tv,hs,ρ,s,M,W⟩=>⟨tv,hs,ρ,s,M, ?_⟩
 unfold Y0 at W
 erw[bd,psh] at W
 cases e:m s with
 |ok t s1=>
  rw[e] at W
  intro ρ1 v H1 M1
  refine⟨some v::tv,z5F hs,ρ1,s1.psh t,M1.push, ?_⟩
  dsimp only at W
  cases e2:Y0 ms (s1.psh t) with
  |ok ys s2=>
   rw[e2] at W
   intro ρ2 us H2 M2 _
   erw[pop,rt] at W
   cases e3:s2.tm with
   |nil=>rw[e3] at W;exact W.elim
   |cons o r=>
    cases o with
    |none=>rw[e3] at W;exact W.elim
    |some t'=>
     rw[e3] at W
     exact W ρ2 (v::us) H2 (M2.down e3)
  |ex d s2=>rw[e2] at W;exact W
  |no=>rw[e2] at W;exact W
 |ex d s1=>rw[e] at W;exact W
 |no=>rw[e] at W;exact W
def mCB(ms:List (M D))(g:List D->M D):M D:=bd (Y0 ms) g
def z2z{R:List V->Hp->VK->Prop}(hg:k9 G F R g)(h:tM G F (bd ma g) σv H Q):
 tML G F ma σv H λxs H1=>R xs H1 λw H'=>KD G.K H'->Q w H':=by
 obtain⟨tv,hs,ρ,s,M,W⟩:=h
 refine⟨tv,hs,ρ,s,M, ?_⟩
 delta bd at W
 cases e:ma s with
 |ok ts s1=>rw[e] at W;exact λ ρ1 vs H1 M1=>hg _ _ _ _ _ _ _ _ M1 W
 |ex d s1=>rw[e] at W;exact W
 |no=>rw[e] at W;exact W
def zaz{x:Str}{p:bN}{es:List bn}{ms:List (M D)}{g:List D->M D}{id:String}{r:List V->Hp->VK->Prop}(hk:X.K=G.K)(hc:CallR X (.builtin id) r)(hg:k9 G F r g)(hgl:Gl X x)(hm:X.mg x=none)(hv:bT x=some (.builtin id))(ha:SA X G F (e::es) (Y0 ms))(hn:x≠ "__name__" :=by decide)(hdb:(x==("__debug__" :Str))=false:=by decide)
 (he:bi (e::es) X.env=(false,bA e X.env)::bi es X.env:=by rfl) (hpl:(bM pos (bi es X.env)).any (·.1)=false:=by rfl):SE X G F (.Call (.Name x p) (e::es) [] pos) (mCB ms g):=
 PE.imp hk (zab hc hgl hm hv ha hn hdb he hpl) λ_ _ _ h=>z2z hg h
def z8A{p:bN}{r:List V->Hp->VK->Prop}(hk:X.K=G.K)(hc:CallR X (.type T) r)(hg:k9 G F r g)(hgl:Gl X x)(hm:X.mg x=none)(hv:bT x=some (.type T))(ha:SA X G F (e::es) (Y0 ms))(hn:x≠ "__name__" :=by decide)(hdb:(x==("__debug__" :Str))=false:=by decide)
 (he:bi (e::es) X.env=(false,bA e X.env)::bi es X.env:=by rfl) (hpl:(bM pos (bi es X.env)).any (·.1)=false:=by rfl):SE X G F (.Call (.Name x p) (e::es) [] pos) (mCB ms g):=
 PE.imp hk (z7T hc hgl hm hv ha hn hdb he hpl) λ_ _ _ h=>z2z hg h
def y0(i:Nat):M D:=λs=>match s.σ[i]? with
 |some (some t)=> .ok t s
 |_=> .no
def cV:D->Option V
 | .non=>some .non| .bool b=>some (.bl b)| .int i=>some (.int i)| .str x=>some (.str x)|_=>none
def z7b(h:cV d=some v):RD G ρ H d v/\qq d=[]:=by
 cases d<;>erw[cV,Option.some.injEq] at h<;>first|(subst h;exact⟨by erw[RD],by erw[qq]⟩)|cases h
def mC(d:D):M D:=rt d
def wM.out{s:Stt}(W:wM G F σv tv (.ok t s) Q)(M:MR G F.toFx ρ H σv tv s)(h:RD G ρ H t v)(hl: ∀l∈qq t,l<s.n/\(F.A0 (ρ l)\/F.H0 (ρ l)=none)):Q v H:=
 W ρ v H ⟨M,RDs.one h,λl q=>hl l (by simpa only[qx,e8] using q)⟩
def wM.flat(W:wM G F σv tv (.ok t s) Q)(M:MR G F.toFx ρ H σv tv s)(h:cV t=some v):Q v H:=
 W.out M (z7b h).1 λl q=>by rw[(z7b (G:=G) (ρ:=ρ) (H:=H) h).2] at q;cases q
end
mutual
def er:D->bX
 | .non=> .none| .bool b=> .bool b| .int i=> .int i| .str x=> .str x
 | .tup ds=> .tuple (erL ds)
 | .ro ds=> .list (erL ds)
 | .lst _ ds=> .list (erL ds)
 | .dct _ _ _=> .none
 | .obj _ _ _ _=> .none
 | .exc _=> .none| .fn _=> .none| .fdc _ _=> .none
def erL:List D->List bX
 |[]=>[]
 |d::ds=>er d::erL ds
end
mutual
def U4:D->Bool
 | .non=>true| .bool _=>true| .int _=>true| .str _=>true
 | .tup ds=>plainL ds
 | .ro ds=>plainL ds
 | .lst _ ds=>plainL ds
 | .dct _ _ _=>false
 | .obj _ _ _ _=>false
 | .exc _=>false| .fn _=>false| .fdc _ _=>false
def plainL:List D->Bool
 |[]=>true
 |d::ds=>U4 d&&plainL ds
end
def z48:D->Option (List D)
 | .tup ds=>some ds| .ro ds=>some ds| .lst _ ds=>some ds|_=>none
def z5G:D->Option (List D)
 | .ro ds=>some ds| .lst _ ds=>some ds|_=>none
section
variable{G:Gx}{F:Fy}{ρ:Nat->Addr}{H H':Hp}{σv tv:List (Option V)}{s:Stt}{t t':D}{v u:V}{ts ds:List D}{vs xs:List V}{Q:VK}
mutual
theorem RD.dp: ∀(t:D) (v:V),RD G ρ H t v->U4 t=true->Dp G.K H (er t) v
 | .non,v,h,_=>by erw[RD,er,Dp] at h⊢;exact h
 | .bool b,v,h,_=>by erw[RD,er,Dp] at h⊢;exact h
 | .int b,v,h,_=>by erw[RD,er,Dp] at h⊢;exact h
 | .str b,v,h,_=>by erw[RD,er,Dp] at h⊢;exact h
 | .tup ds,v,h,p=>by
  erw[RD,er,Dp,U4] at h p⊢
  obtain⟨a,xs,e,s,r⟩:=h
  exact⟨a,xs,e,SqT.of s,RDs.dp ds xs r p⟩
 | .ro ds,v,h,p=>by
  erw[RD,er,Dp,U4] at h p⊢
  obtain⟨a,xs,e,s,r⟩:=h
  exact⟨a,xs,e,s.sq,RDs.dp ds xs r p⟩
 | .lst l ds,v,h,p=>by
  erw[RD,er,Dp,U4] at h p⊢
  obtain⟨e,xs,s,r⟩:=h
  exact⟨_,xs,e,SqL.of s,RDs.dp ds xs r p⟩
 | .dct l ks vs,v,h,p=>by erw[U4] at p;cases p
 | .fdc ks vs,v,h,p=>by erw[U4] at p;cases p
 | .obj l c ns vs,v,h,p=>by erw[U4] at p;cases p
 | .exc c,v,h,p=>by erw[U4] at p;cases p
 | .fn c,v,h,p=>by erw[U4] at p;cases p
theorem RDs.dp: ∀(t:List D) (v:List V),RDs G ρ H t v->plainL t=true->DpAll G.K H (erL t) v
 |[],v,h,_=>by erw[RDs,erL,DpAll] at h⊢;exact h
 |d::ds,v,h,p=>by
  erw[RDs,erL,DpAll,plainL,l9] at h p⊢
  obtain⟨x,r,e,h1,h2⟩:=h
  exact⟨x,r,e,RD.dp d x h1 p.1,RDs.dp ds r h2 p.2⟩
end
def RD.seq(h:RD G ρ H t v)(e:z48 t=some ds): ∃a xs,v= .ref a/\(SqL G.K H a xs\/SqT G.K H a xs)/\RDs G ρ H ds xs/\∀l∈qx ds,l∈qq t:=by
 cases t<;>erw[z48,Option.some.injEq] at e<;>try cases e
 .erw[RD] at h
  obtain⟨a,xs,e,s,r⟩:=h
  exact⟨a,xs,e, .inr (SqT.of s),r,λl hl=>by erw[qq];exact hl⟩
 .erw[RD] at h
  obtain⟨a,xs,e,s,r⟩:=h
  exact⟨a,xs,e, .inl s.sq,r,λl hl=>by erw[qq];exact hl⟩
 .erw[RD] at h
  obtain⟨e,xs,s,r⟩:=h
  exact⟨_,xs,e, .inl (SqL.of s),r,λl hl=>by erw[qq];exact b7 _ hl⟩
def RD.lstq(h:RD G ρ H t v)(e:z5G t=some ds): ∃a xs,v= .ref a/\SqL G.K H a xs/\RDs G ρ H ds xs/\∀l∈qx ds,l∈qq t:=by
 cases t<;>erw[z5G,Option.some.injEq] at e<;>try cases e
 .erw[RD] at h
  obtain⟨a,xs,e,s,r⟩:=h
  exact⟨a,xs,e,s.sq,r,λl hl=>by erw[qq];exact hl⟩
 .erw[RD] at h
  obtain⟨e,xs,s,r⟩:=h
  exact⟨_,xs,e,SqL.of s,r,λl hl=>by erw[qq];exact b7 _ hl⟩
def RD.tupx(h:RD G ρ H (.tup ds) v): ∃a xs,v= .ref a/\H a=some (.tup xs)/\RDs G ρ H ds xs:=by
 erw[RD] at h;exact h
def RD.tupq(h:RD G ρ H (.tup ds) v): ∃a xs,v= .ref a/\SqT G.K H a xs/\RDs G ρ H ds xs:=by
 obtain⟨a,xs,e,s,r⟩:=h.tupx
 exact⟨a,xs,e,SqT.of s,r⟩
def RD.seqx(h:RD G ρ H t v)(e:z48 t=some ds): ∃a xs,v= .ref a/\(SqL G.K H a xs\/H a=some (.tup xs))/\RDs G ρ H ds xs/\∀l∈qx ds,l∈qq t:=by
 cases t<;>erw[z48,Option.some.injEq] at e<;>try cases e
 .erw[RD] at h
  obtain⟨a,xs,e,s,r⟩:=h
  exact⟨a,xs,e, .inr s,r,λl hl=>by erw[qq];exact hl⟩
 .erw[RD] at h
  obtain⟨a,xs,e,s,r⟩:=h
  exact⟨a,xs,e, .inl s.sq,r,λl hl=>by erw[qq];exact hl⟩
 .erw[RD] at h
  obtain⟨e,xs,s,r⟩:=h
  exact⟨_,xs,e, .inl (SqL.of s),r,λl hl=>by erw[qq];exact b7 _ hl⟩
def MRL.lb1(M:MRL G F.toFx ρ H σv tv s [t] [v]): ∀l∈qq t,l<s.n/\(F.A0 (ρ l)\/F.H0 (ρ l)=none):=λl h=>M.lb l (by erw[qx,e8];exact h)
def MRL.lb2(M:MRL G F.toFx ρ H σv tv s [t,t'] [v,u]):(∀l∈qq t,l<s.n/\(F.A0 (ρ l)\/F.H0 (ρ l)=none))/\(∀l∈qq t',l<s.n/\(F.A0 (ρ l)\/F.H0 (ρ l)=none)):=
 ⟨λl h=>M.lb l (by erw[qx,e8];exact e6 _ h),λl h=>M.lb l (by erw[qx,e8];exact b6 _ h)⟩
abbrev LB(F:Fx)(ρ:Nat->Addr)(n:Nat)(ls:List Nat):Prop:= ∀l∈ls,l<n/\(F.A0 (ρ l)\/F.H0 (ρ l)=none)
def z49(W:wM G F σv tv (.ok (.tup ds) s) Q)(M:MR G F.toFx ρ H σv tv s)(r:RDs G ρ H ds xs)(lb:LB F.toFx ρ s.n (qx ds)):z9Y G.K H xs (λw H'=>KD G.K H'->Q w H'):=by
 refine z9Y.intro λp H' sq sm k=> ?_
 exact W.out (M.same sm k) (by erw[RD];exact⟨p,xs,rfl,sq,r.same sm⟩) (by erw[qq];exact lb)
def zdh(W:wM G F σv tv (.ok (.tup ds) s) Q)(M:MR G F.toFx ρ H σv tv s)(r:RDs G ρ H ds xs)(lb:LB F.toFx ρ s.n (qx ds))(hp:H p=none)(k:KD G.K (upd H p (.tup xs))):Q (.ref p) (upd H p (.tup xs)):=by
 have sm:=z0K.new (.tup xs) hp
 exact W.out (M.same sm k) (by erw[RD];exact⟨p,xs,rfl,y6,r.same sm⟩) (by erw[qq];exact lb)
def RDs.ext(M:MR G F.toFx ρ H σv tv s)(r:RDs G ρ H ds xs)(lb:LB F.toFx ρ s.n (qx ds))(hp:H p=none):RDs G (ext ρ s.n p) (upd H p o) ds xs:=
 RDs.stay (G5.of (z0K.new o hp)) ds xs r λl hl=>⟨Y3 (lb l hl).1,λo e=>z0K.new _ hp _ _ e⟩
def z0Q(W:wM G F σv tv (.ok (.lst s.n ds) s.nxt) Q)(M:MR G F.toFx ρ H σv tv s)(r:RDs G ρ H ds xs)(lb:LB F.toFx ρ s.n (qx ds))(hp:H p=none)(k:KD G.K (upd H p (.lst xs))):Q (.ref p) (upd H p (.lst xs)):=by
 refine W.out (M.new hp k) ?_ λl hl=> ?_
 .erw[RD]
  rw[Q4]
  exact⟨rfl,xs,y6,RDs.ext M r lb hp⟩
 .erw[qq] at hl
  rcases c8.mp hl with q|q
  .rw[q]
   exact⟨m8 _,by rw[Q4];exact .inr (M.fresh0 hp)⟩
  .obtain⟨h1,h2⟩:=lb l q
   exact⟨C6 h1,by rw[Y3 h1];exact h2⟩
end
def zbJ(ds:List D):M D:=λs=> .ok (.lst s.n ds) s.nxt
def K9:D->D->M D
 | .int i, .int j=>rt (.int (i+j))
 | .tup a, .tup b=>if a.length+b.length<=qg then rt (.tup (a++b)) else fl
 | .lst _ a, .lst _ b=>if a.length+b.length<=qg then zbJ (a++b) else fl
 | .str a, .str b=>if a.length+b.length<=qg then rt (.str (a++b)) else fl
 |_,_=>fl
def zdi:D->D->M D
 | .int i, .int j=>rt (.int (i -j))
 |_,_=>fl
instance(i j:Int):Decidable (za8 i j):=by delta za8;infer_instance
instance(i j:Int):Decidable (zeF i j):=by delta zeF;infer_instance
instance(i j:Int):Decidable (zeG i j):=by delta zeG;infer_instance
def z5Y:D->D->M D
 | .int i, .int j=>if zeF i j then rt (.int (i/j)) else fl
 |_,_=>fl
def z3o:D->D->M D
 | .int i, .int j=>if 0<j then rt (.int (i %j)) else fl
 |_,_=>fl
def zbK:D->D->M D
 | .int i, .int j=>if zeG i j then rt (.int (i^j.toNat)) else fl
 |_,_=>fl
def ltD:D->D->M D
 | .int i, .int j=>rt (.bool (decide (i<j)))
 |_,_=>fl
def leD:D->D->M D
 | .int i, .int j=>rt (.bool (decide (i<=j)))
 |_,_=>fl
def gtD:D->D->M D
 | .int i, .int j=>rt (.bool (decide (j<i)))
 |_,_=>fl
def eqC(t t':D):Bool:=U4 t&&U4 t'&&(er t).canLay0&&(er t').canLay0&&decide (min (er t).depth (er t').depth<=60)
def eqD(t t':D):M D:=if eqC t t'=true then rt (.bool (PyData.eqv (er t) (er t'))) else fl
def neD(t t':D):M D:=if eqC t t'=true then rt (.bool (!PyData.eqv (er t) (er t'))) else fl
def inC(t:D)(ds:List D):Bool:=U4 t&&plainL ds&&(er t).canLay0&&PyData.canLayAll0 (erL ds)&&decide (min (PyData.depthAll (erL ds)) (er t).depth<=60)
def inD(t t':D):M D:=match z48 t' with
 |some ds=>if inC t ds=true then rt (.bool ((erL ds).any λy=>PyData.eqv y (er t))) else fl
 |none=>fl
def zdj(t t':D):M D:=match z48 t' with
 |some ds=>if inC t ds=true then rt (.bool (!(erL ds).any λy=>PyData.eqv y (er t))) else fl
 |none=>fl
def isN:D->D->M D
 | .non, .non=>rt (.bool true)
 |_, .non=>rt (.bool false)
 |_,_=>fl
def zeI:D->D->M D
 | .non, .non=>rt (.bool false)
 |_, .non=>rt (.bool true)
 |_,_=>fl
def zeJ:Option D->M D
 |some d=>rt d
 |none=>fl
def ixG:Option (List D)->D->M D
 |some ds, .int i=>zeJ (atI ds i)
 |_,_=>fl
def ixD(t t':D):M D:=ixG (z48 t) t'
section
variable{G:Gx}{F:Fy}
def wfl{A:Prop}(h:wM G F σv tv ((fl:M D) s) Q):A:=False.elim h
def z4a{i j:Int}(M:MRL G F.toFx ρ H σv tv s [.int i, .int j] [v,u]):v= .int i/\u= .int j:=by
 obtain⟨h1,h2⟩:=M.rd2
 erw[RD] at h1 h2
 exact⟨h1,h2⟩
def zg4:z9Z G F (λx y H Q=>rI0 (λi j=> .int (i+j)) x y H Q\/zar G.K x y H Q\/zj6 x y H Q\/∃i j,x= .str i/\y= .str j/\i.length+j.length<=qg/\Q (.str (i++j)) H) K9:=by
 intro ρ s t t' v u H σv tv Q M W
 delta K9 at W
 split at W
 .obtain⟨rfl,rfl⟩:=z4a M
  exact .inl ⟨_,_,rfl,rfl,λ_=>W.flat M.m rfl⟩
 .split at W
  .rename_i a b hz
   obtain⟨h1,h2⟩:=M.rd2
   obtain⟨l1,l2⟩:=M.lb2
   obtain⟨p,xs,rfl,s1,r1⟩:=h1.tupx
   obtain⟨q,ys,rfl,s2,r2⟩:=h2.tupx
   refine .inr (.inl ⟨p,q,xs,ys,rfl,rfl,s1,s2,by rw[<-r1.length,<-r2.length];exact hz,z49 W M.m (r1.append r2) ?_⟩)
   rw[J1]
   intro l hl
   rcases e9.mp hl with q|q
   .exact l1 l (by simpa only[qq] using q)
   .exact l2 l (by simpa only[qq] using q)
  .exact wfl W
 .split at W
  .rename_i la a lb b hz
   obtain⟨h1,h2⟩:=M.rd2
   obtain⟨l1,l2⟩:=M.lb2
   erw[RD] at h1 h2
   obtain⟨rfl,xs,s1,r1⟩:=h1
   obtain⟨rfl,ys,s2,r2⟩:=h2
   refine .inr (.inr (.inl ⟨_,_,xs,ys,rfl,rfl,s1,s2,by rw[<-r1.length,<-r2.length];exact hz,λp hp k=>z0Q W M.m (r1.append r2) ?_ hp k⟩))
   rw[J1]
   intro l hl
   rcases e9.mp hl with q|q
   .exact l1 l (by erw[qq];exact b7 _ q)
   .exact l2 l (by erw[qq];exact b7 _ q)
  .exact wfl W
 .split at W
  .rename_i a b hz
   obtain⟨h1,h2⟩:=M.rd2
   erw[RD] at h1 h2
   subst h1 h2
   exact .inr (.inr (.inr ⟨_,_,rfl,rfl,hz,λ_=>W.flat M.m rfl⟩))
  .exact wfl W
 .exact wfl W
def zg5:z9Z G F (rI0 λi j=> .int (i -j)) zdi:=by
 intro ρ s t t' v u H σv tv Q M W
 delta zdi at W
 split at W
 .obtain⟨rfl,rfl⟩:=z4a M
  exact⟨_,_,rfl,rfl,λ_=>W.flat M.m rfl⟩
 .exact wfl W
def zdk:z9Z G F (rI zeF λi j=> .int (i/j)) z5Y:=by
 intro ρ s t t' v u H σv tv Q M W
 delta z5Y at W
 split at W
 .split at W
  .rename_i hc
   obtain⟨rfl,rfl⟩:=z4a M
   exact⟨_,_,rfl,rfl,hc,λ_=>W.flat M.m rfl⟩
  .exact wfl W
 .exact wfl W
def zg6:z9Z G F (rI (λ_ j=>0<j) λi j=> .int (i %j)) z3o:=by
 intro ρ s t t' v u H σv tv Q M W
 delta z3o at W
 split at W
 .split at W
  .rename_i hc
   obtain⟨rfl,rfl⟩:=z4a M
   exact⟨_,_,rfl,rfl,hc,λ_=>W.flat M.m rfl⟩
  .exact wfl W
 .exact wfl W
def zg7:z9Z G F (rI zeG λi j=> .int (i^j.toNat)) zbK:=by
 intro ρ s t t' v u H σv tv Q M W
 delta zbK at W
 split at W
 .split at W
  .rename_i hc
   obtain⟨rfl,rfl⟩:=z4a M
   exact⟨_,_,rfl,rfl,hc,λ_=>W.flat M.m rfl⟩
  .exact wfl W
 .exact wfl W
def zjp:z0d G F (rI0 λi j=> .bl (decide (i<j))) ltD:=by
 intro ρ s t t' v u H σv tv Q M W
 delta ltD at W
 split at W
 .obtain⟨rfl,rfl⟩:=z4a M
  exact⟨_,_,rfl,rfl,W.flat M.m rfl⟩
 .exact wfl W
def zjq:z0d G F (rI0 λi j=> .bl (decide (i<=j))) leD:=by
 intro ρ s t t' v u H σv tv Q M W
 delta leD at W
 split at W
 .obtain⟨rfl,rfl⟩:=z4a M
  exact⟨_,_,rfl,rfl,W.flat M.m rfl⟩
 .exact wfl W
def zjr:z0d G F (rI0 λi j=> .bl (decide (j<i))) gtD:=by
 intro ρ s t t' v u H σv tv Q M W
 delta gtD at W
 split at W
 .obtain⟨rfl,rfl⟩:=z4a M
  exact⟨_,_,rfl,rfl,W.flat M.m rfl⟩
 .exact wfl W
def zjs:z0d G F (zit G.K false) eqD:=by
 intro ρ s t t' v u H σv tv Q M W
 delta eqD at W
 split at W
 .rename_i hc
  erw[eqC,l9,decide_eq_true_eq] at hc
  obtain⟨⟨⟨⟨c1,c2⟩,c3⟩,c4⟩,c5⟩:=hc
  obtain⟨h1,h2⟩:=M.rd2
  exact⟨er t,er t',RD.dp _ _ h1 c1,RD.dp _ _ h2 c2,c3,c4,c5,W.flat M.m rfl⟩
 .exact wfl W
def zjt:z0d G F (zit G.K true) neD:=by
 intro ρ s t t' v u H σv tv Q M W
 delta neD at W
 split at W
 .rename_i hc
  erw[eqC,l9,decide_eq_true_eq] at hc
  obtain⟨⟨⟨⟨c1,c2⟩,c3⟩,c4⟩,c5⟩:=hc
  obtain⟨h1,h2⟩:=M.rd2
  exact⟨er t,er t',RD.dp _ _ h1 c1,RD.dp _ _ h2 c2,c3,c4,c5,W.flat M.m rfl⟩
 .exact wfl W
def RD.dpSeq(h:RD G ρ H t v)(e:z48 t=some ds)(p:plainL ds=true):Dp G.K H (.list (erL ds)) v\/Dp G.K H (.tuple (erL ds)) v:=by
 obtain⟨a,xs,rfl,sq,r,_⟩:=h.seq e
 have d:=RDs.dp ds xs r p
 rcases sq with sq|sq
 .exact .inl (by erw[Dp];exact⟨a,xs,rfl,sq,d⟩)
 .exact .inr (by erw[Dp];exact⟨a,xs,rfl,sq,d⟩)
def zju:z0d G F (ziu G.K false) inD:=by
 intro ρ s t t' v u H σv tv Q M W
 delta inD at W
 cases e:z48 t' with
 |some ds=>
  rw[e] at W
  dsimp only at W
  split at W
  .rename_i hc
   erw[inC,l9,decide_eq_true_eq] at hc
   obtain⟨⟨⟨⟨c1,c2⟩,c3⟩,c4⟩,c5⟩:=hc
   obtain⟨h1,h2⟩:=M.rd2
   exact⟨er t,erL ds,RD.dp _ _ h1 c1,h2.dpSeq e c2,c3,c4,c5,W.flat M.m rfl⟩
  .exact wfl W
 |none=>rw[e] at W;exact wfl W
def zg8:z0d G F (ziu G.K true) zdj:=by
 intro ρ s t t' v u H σv tv Q M W
 delta zdj at W
 cases e:z48 t' with
 |some ds=>
  rw[e] at W
  dsimp only at W
  split at W
  .rename_i hc
   erw[inC,l9,decide_eq_true_eq] at hc
   obtain⟨⟨⟨⟨c1,c2⟩,c3⟩,c4⟩,c5⟩:=hc
   obtain⟨h1,h2⟩:=M.rd2
   exact⟨er t,erL ds,RD.dp _ _ h1 c1,h2.dpSeq e c2,c3,c4,c5,W.flat M.m rfl⟩
  .exact wfl W
 |none=>rw[e] at W;exact wfl W
def RD.non_iff(h:RD G ρ H t v):v= .non↔t= .non:=by
 cases t<;>erw[RD] at h<;>(try (subst h;simp))<;>(try (obtain⟨a,xs,rfl,_⟩:=h;simp))<;>(try (obtain⟨rfl,_⟩:=h;simp))<;>(try (obtain⟨a,o,C,rfl,_⟩:=h;simp))<;>(try (obtain⟨a,rfl,_⟩:=h;simp))<;>(try (obtain⟨a,o,u,xs,rfl,_⟩:=h;simp))
def zg9:z0d G F (λx y H Q=>y= .non/\Q (.bl (decide (x= .non))) H) isN:=by
 intro ρ s t t' v u H σv tv Q M W
 obtain⟨h1,h2⟩:=M.rd2
 have e1:=h1.non_iff
 delta isN at W
 split at W
 .erw[RD] at h2
  exact⟨h2,by rw[decide_eq_true (e1.mpr rfl)];exact W.flat M.m rfl⟩
 .rename_i ne
  erw[RD] at h2
  exact⟨h2,by rw[decide_eq_false (λz=>ne (e1.mp z))];exact W.flat M.m rfl⟩
 .exact wfl W
def zdl:z0d G F (λx y H Q=>y= .non/\Q (.bl (!decide (x= .non))) H) zeI:=by
 intro ρ s t t' v u H σv tv Q M W
 obtain⟨h1,h2⟩:=M.rd2
 have e1:=h1.non_iff
 delta zeI at W
 split at W
 .erw[RD] at h2
  exact⟨h2,by rw[decide_eq_true (e1.mpr rfl)];exact W.flat M.m rfl⟩
 .rename_i ne
  erw[RD] at h2
  exact⟨h2,by rw[decide_eq_false (λz=>ne (e1.mp z))];exact W.flat M.m rfl⟩
 .exact wfl W
def zbL{i:Int}(r:RDs G ρ H ds xs)(e:atI ds i=some d): ∃x,atI xs i=some x/\RD G ρ H d x:=by
 delta atI at e⊢
 rw[<-r.length]
 cases e1:ixN ds.length i with
 |none=>rw[e1] at e;cases e
 |some j=>
  rw[e1] at e
  exact r.get j d e
def zdm{α:Type}{ds:List α}{i:Int}{d:α}(e:atI ds i=some d):d∈ds:=by
 delta atI at e
 cases e1:ixN ds.length i with
 |none=>rw[e1] at e;cases e
 |some j=>
  rw[e1] at e
  exact List.mem_of_getElem? e
def zjv:z9Z G F (λx y H Q=>zj3 G.K x y H Q\/zkE G.K x y H Q) ixD:=by
 intro ρ s t t' v u H σv tv Q M W
 obtain⟨h1,h2⟩:=M.rd2
 delta ixD at W
 cases e:z48 t with
 |none=>rw[e] at W;exact False.elim W
 |some ds=>
  rw[e] at W
  cases t' with
  |int i=>
   have W:wM G F σv tv (zeJ (atI ds i) s) Q:=W
   cases ea:atI ds i with
   |some d=>
    rw[ea] at W
    obtain⟨a,xs,rfl,sq,r,sub⟩:=h1.seq e
    obtain⟨x,ex,rx⟩:=zbL r ea
    erw[RD] at h2
    subst h2
    have fin:KD G.K H->Q x H:=λ_=>W.out M.m rx λl hl=>M.lb2.1 l (sub l (qv (zdm ea) l hl))
    rcases sq with sq|sq
    .exact .inl ⟨a,xs,i,x,rfl,rfl,sq,ex,fin⟩
    .exact .inr ⟨a,xs,i,x,rfl,rfl,sq,ex,fin⟩
   |none=>rw[ea] at W;exact False.elim W
  |_=>exact False.elim W
variable{X:Cx}{e a b c:bn}{pos:bN}
def z5Z{α:Type}(xs:List α)(lo hi:Option Int):List α:=(xs.drop (HT.sIx xs.length 0 lo)).take (HT.sIx xs.length xs.length hi -HT.sIx xs.length 0 lo)
def slD:D->Option Int->Option Int->M D
 | .tup ds,lo,hi=>rt (.tup (z5Z ds lo hi))
 | .lst _ ds,lo,hi=>zbJ (z5Z ds lo hi)
 | .ro ds,lo,hi=>zbJ (z5Z ds lo hi)
 |_,_,_=>fl
def RDs.cut(r:RDs G ρ H ds xs) lo hi:RDs G ρ H (z5Z ds lo hi) (z7V xs lo hi):=by
 delta z5Z z7V
 rw[r.length]
 exact(r.drop _).take _
def z2P{l:Nat}(h:l∈qx (z5Z ds lo hi)):l∈qx ds:=by
 obtain⟨d,h1,h2⟩:=K2 h
 exact qv (List.mem_of_mem_drop (M7 h1)) l h2
def mInt(d:D):Option Int:=match d with| .int i=>some i|_=>none
def z3r:Option (M D)->M (Option Int)
 |none=>rt none
 |some m=>bd m λd=>match mInt d with|some i=>rt (some i)|none=>fl
def tP(G:Gx)(F:Fy)(m:M (Option Int)):TO:=λ σv H Q=> ∃tv,F.tv0<:+tv/\∃ρ s,MR G F.toFx ρ H σv tv s/\(match m s with
 | .ok o s'=> ∀ρ' H',MR G F.toFx ρ' H' σv tv s'->Q o H'
 | .ex d s'=>F.xw d s'
 | .no=>False)
def SO(X:Cx)(G:Gx)(F:Fy)(e:Option bn)(m:Option (M D)):Prop:=PO X e (tP G F (z3r m))
def mSl(m:M D)(lo hi:Option (M D)):M D:=bd m λx=>bd (psh x) λ_=>bd (z3r lo) λl=>bd (z3r hi) λh=>bd pop λx'=>slD x' l h
def zjw(M:MRL G F.toFx ρ H σv tv s [t] [v])(W:wM G F σv tv (slD t lo hi s) Q):
 zjg G.K v lo hi H (λw H'=>KD G.K H'->Q w H')\/zj4 G.K v lo hi H (λw H'=>KD G.K H'->Q w H'):=by
 have h:=M.rd1
 cases t with
 |tup ds=>
  obtain⟨p,xs,rfl,s1,r1⟩:=h.tupx
  exact .inl ⟨p,xs,rfl,s1,z49 W M.m (r1.cut lo hi) λl hl=>M.lb1 l (by erw[qq];exact z2P hl)⟩
 |lst n ds=>
  obtain⟨p,xs,rfl,s1,r1,_⟩:=h.lstq (ds:=ds) rfl
  exact .inr ⟨p,xs,rfl,s1,λq hq k=>z0Q W M.m (r1.cut lo hi) (λl hl=>M.lb1 l (by erw[qq];exact b7 _ (z2P hl))) hq k⟩
 |ro ds=>
  obtain⟨p,xs,rfl,s1,r1,_⟩:=h.lstq (ds:=ds) rfl
  exact .inr ⟨p,xs,rfl,s1,λq hq k=>z0Q W M.m (r1.cut lo hi) (λl hl=>M.lb1 l (by erw[qq];exact z2P hl)) hq k⟩
 |_=>exact False.elim W
def x6(ts:List D):M D:=if ts.length<=qg then rt (.tup ts) else fl
def lstM(ts:List D):M D:=if ts.length<=qg then zbJ ts else fl
def zga:k9 G F (λxs H1 Q=>xs.length<=qg/\∀p,H1 p=none->Q (.ref p) (upd H1 p (.tup xs))) x6:=by
 intro ρ s ts vs H σv tv Q M W
 delta x6 at W
 split at W
 .rename_i hz
  exact⟨by rw[<-M.rd.length];exact hz,λp hp k=>zdh W M.m M.rd M.lb hp k⟩
 .exact wfl W
def zgb:k9 G F (λxs H1 Q=>xs.length<=qg/\∀p,H1 p=none->Q (.ref p) (upd H1 p (.lst xs))) lstM:=by
 intro ρ s ts vs H σv tv Q M W
 delta lstM at W
 split at W
 .rename_i hz
  exact⟨by rw[<-M.rd.length];exact hz,λp hp k=>z0Q W M.m M.rd M.lb hp k⟩
 .exact wfl W
def zeK:D->M Bool
 | .bool b=>rt b
 |_=>fl
def J3(m:M D):M Bool:=bd m zeK
def z60{Q:Bool->Hp->Prop}(h:tMB G F (J3 m) σ H Q):tM G F m σ H λx H'=> ∃k,x= .bl k/\Q k H':=by
 obtain⟨tv,hs,ρ,s,M,W⟩:=h
 refine⟨tv,hs,ρ,s,M, ?_⟩
 delta J3 bd at W
 cases e:m s with
 |ok t s1=>
  rw[e] at W
  intro ρ1 v H1 M1
  have h:=M1.rd1
  cases t with
  |bool b=>erw[RD] at h;exact⟨b,h,W ρ1 H1 M1.m⟩
  |_=>exact False.elim W
 |ex d s1=>rw[e] at W;exact W
 |no=>rw[e] at W;exact W
def zdn(ho:OpR X (bE op) r)(hg:z0d G F r g)(ha:SE X G F a ma)(hb:SE X G F b mb)(hm:bW op b=false):SB X G F (.Compare a [op] [b] pos) (J3 (y8 ma mb g)):=
 PT.imp0 (zcG ho ha hb hm) λ_ _ _ h=>z6y hg (z60 h)
def zdo{Q:Bool->Hp->Prop}(h:tBv G F (bd m f) σ tv H Q):tBv G F m σ tv H λb H1=> ∃ρ1 s1,MR G F.toFx ρ1 H1 σ tv s1/\wB G F σ tv (f b s1) Q:=by
 obtain⟨hs,ρ,s,M,W⟩:=h
 refine⟨hs,ρ,s,M, ?_⟩
 delta bd at W
 cases e:m s with
 |ok b s1=>rw[e] at W;exact λ ρ1 H1 M1=>⟨ρ1,s1,M1,W⟩
 |ex d s1=>rw[e] at W;exact W
 |no=>rw[e] at W;exact W
def wB.mono{Q Q':Bool->Hp->Prop}(h:wB G F σv tv r Q)(k: ∀v H,Q v H->Q' v H):wB G F σv tv r Q':=by
 cases r with
 |ok t s=>exact λ ρ H M=>k _ _ (h ρ H M)
 |ex d s=>exact h
 |no=>exact h
def tBv.mono{Q Q':Bool->Hp->Prop}(h:tBv G F m σv tv H Q)(k: ∀v H,Q v H->Q' v H):tBv G F m σv tv H Q':=by
 obtain⟨hs,ρ,s,M,W⟩:=h
 exact⟨hs,ρ,s,M,W.mono k⟩
def z3D{α:Type}(b:Bool)(m m':M α):M α:=match b with|true=>m|false=>m'
def zaA(m m':M Bool):M Bool:=bd m λb=>z3D b m' (rt false)
def mOr(m m':M Bool):M Bool:=bd m λb=>z3D b (rt true) m'
def zbM(m:M Bool):M Bool:=bd m λb=>rt (!b)
def SW(X:Cx)(G:Gx)(F:Fy)(e:bn)(m:M Bool):Prop:=PW X e (tMB G F m)
def PW.imp0(h:PW X e t)(hi: ∀σ H Q,t' σ H Q->t σ H Q):PW X e t':=λwh qz s σ H Q I q=>h wh qz s σ H _ I (hi σ H Q q)
def zaB(m m':M D):M D:=bd (J3 m) λb=>z3D b m' (rt (.bool false))
def zbN(m m':M D):M D:=bd (J3 m) λb=>z3D b (rt (.bool true)) m'
def zaC(m:M D):M D:=bd (J3 m) λb=>rt (.bool (!b))
def z8B(h:tM G F (bd (J3 m) f) σ H Q):tM G F m σ H λx H1=> ∃k,x= .bl k/\∃ρ1 s1 tv,F.tv0<:+tv/\MR G F.toFx ρ1 H1 σ tv s1/\wM G F σ tv (f k s1) Q:=by
 obtain⟨tv,hs,ρ,s,M,W⟩:=h
 refine⟨tv,hs,ρ,s,M, ?_⟩
 delta J3 bd at W
 cases e:m s with
 |ok t s1=>
  rw[e] at W
  intro ρ1 v H1 M1
  have h:=M1.rd1
  cases t with
  |bool b=>erw[RD] at h;exact⟨b,h,ρ1,s1,tv,hs,M1.m,W⟩
  |_=>exact False.elim W
 |ex d s1=>rw[e] at W;exact W
 |no=>rw[e] at W;exact W
def tM.mono(h:tM G F m σ H Q)(k: ∀v H,Q v H->Q' v H):tM G F m σ H Q':=by
 obtain⟨tv,h⟩:=h
 exact⟨tv,h.mono k⟩
def z2Q(y:D)(m:M D):M D:=match cV y with|some _=>m|none=>fl
def z4X(ma mb mc:M D)(g g':D->D->M D):M D:=bd ma λx=>bd (psh x) λ_=>bd mb λy=>bd pop λx'=>z2Q y (bd (J3 (g x' y)) λk=>z3D k (bd mc λz=>g' y z) (rt (.bool false)))
def zdp(e:cV t'=some u')(h2:RD G ρ H t' u):u=u':=by
 cases t'<;>erw[cV,Option.some.injEq] at e<;>erw[RD] at h2<;>first|(rw[h2,e])|cases e
def z61(e:cV t=some u)(M:MRL G F.toFx ρ H σ tv s [t'] [u']):MRL G F.toFx ρ H σ tv s [t,t'] [u,u']:=by
 refine⟨M.m, ?_,λl hl=> ?_⟩
 .erw[RDs];exact⟨_,_,rfl,(z7b e).1,_,_,rfl,M.rd1,rfl⟩
 .erw[qx,(z7b (G:=G) (ρ:=ρ) (H:=H) e).2,l5,e8] at hl
  exact M.lb1 l hl
def z4b{f:D->M D}{kf:V->TE}{Q:VK}(hs:F.tv0<:+tv)(hg:z0d G F r g)(M:MRL G F.toFx ρ H σ tv s [t,t'] [v,u])
 (hf: ∀H',cV t'=some u->tMv G F (f t') σ tv H' Q->kf u σ H' Q) (W:wM G F σ tv (z2Q t' (bd (J3 (g t t')) λk=>z3D k (f t') (rt (.bool false))) s) Q):
 r v u H λz H3=> ∃k,z= .bl k/\(if k=true then kf u σ H3 Q else Q (.bl false) H3):=by
 delta z2Q at W
 cases e:cV t' with
 |none=>rw[e] at W;exact False.elim W
 |some u'=>
  rw[e] at W
  obtain rfl:=zdp e M.rd2.2
  delta bd J3 at W
  dsimp only at W
  refine hg ρ s t t' v u H σ tv _ M ?_
  cases e2:g t t' s with
  |ok z s1=>
   rw[e2] at W
   intro ρ1 w H3 M3
   have h3:=M3.rd1
   cases z with
   |bool k=>
    erw[RD] at h3
    refine⟨k,h3, ?_⟩
    have W:wM G F σ tv (z3D k (f t') (rt (.bool false)) s1) Q:=W
    cases k with
    |false=>rw[qh n9];exact W.flat M3.m rfl
    |true=>rw[qy rfl];exact hf _ e ⟨hs,ρ1,s1,M3.m,W⟩
   |_=>exact False.elim W
  |ex d s1=>rw[e2] at W;exact W
  |no=>rw[e2] at W;exact W
def z8C(hg:z0d G F r g)(hg':z0d G F r' g')(h:tM G F (z4X ma mb mc g g') σ H Q):zbo r r' (tM G F ma) (tM G F mb) (tM G F mc) σ H Q:=by
 obtain⟨tv,h⟩:=h
 refine⟨tv,(z4W (g:=λx' y=>z2Q y (bd (J3 (g x' y)) λk=>z3D k (bd mc λz=>g' y z) (rt (.bool false)))) h).mono ?_⟩
 rintro v H1 h1
 refine⟨_,h1.mono ?_⟩
 rintro u H2 ⟨ρ,s,t,t',M,W⟩
 refine z4b (f:=λy=>bd mc λz=>g' y z) (kf:=λu σ H Q=>tM G F mc σ H λw H4=>r' u w H4 Q) h.1 hg M ?_ W
 intro H3 e h5
 refine⟨tv,(z79 h5).mono ?_⟩
 rintro w' H4 ⟨ρ4,s4,t4,M4,W4⟩
 exact hg' ρ4 s4 t' t4 u w' H4 σ tv Q (z61 e M4) W4
def zaD(ho:OpR X (bE op) r)(hg:z0d G F r g)(ho':OpR X (bE op') r')(hg':z0d G F r' g')(ha:SE X G F a ma)(hb:SE X G F b mb)(hc:SE X G F c mc)
 (hm:dA [op,op'] [b,c]=false:=by with_unfolding_all rfl):SE X G F (.Compare a [op,op'] [b,c] pos) (z4X ma mb mc g g'):=
 PE.imp0 (za9 ho ho' ha hb hc hm) λ_ _ _ h=>z8C hg hg' h
end
def z4Y:List D->M D
 |[.tup ds]=>rt (.int ds.length)
 |[.ro ds]=>rt (.int ds.length)
 |[.lst _ ds]=>rt (.int ds.length)
 |_=>fl
def zeL:List D->M D
 |[.int i]=>rt (.int (if i<0 then -i else i))
 |_=>fl
def zaE:List D->M D
 |[.int i, .int j]=>rt (.int (if j<i then j else i))
 |_=>fl
def zeM:List D->M D
 |[.int i, .int j]=>rt (.int (if j>i then j else i))
 |_=>fl
noncomputable def z07:List D->Option (List Bool)
 |[]=>some []
 | .bool b::r=>(z07 r).map (b:: ·)
 |_=>none
def za0:List D->M D
 |[.lst _ ds]=>match z07 ds with|some bs=>rt (.bool (bs.all id))|none=>fl
 |_=>fl
def zdq:List D->M D
 |[.lst _ ds]=>match z07 ds with|some bs=>rt (.bool (bs.any id))|none=>fl
 |_=>fl
def zbO:List D->M D
 |[.int i]=>rt (.int i)
 |[.bool b]=>rt (.int (if b then 1 else 0))
 |_=>fl
def z6z:List D->M D
 |[.tup ds]=>rt (.tup ds)
 |[.ro ds]=>rt (.tup ds)
 |[.lst _ ds]=>rt (.tup ds)
 |_=>fl
def z4Z:List D->M D
 |[.tup ds]=>zbJ ds
 |[.ro ds]=>zbJ ds
 |[.lst _ ds]=>zbJ ds
 |_=>fl
section
variable{X:Cx}{G:Gx}{F:Fy}{e a b c:bn}{pos:bN}
def MRL.one{s:Stt}(M:MRL G F.toFx ρ H σv tv s [t] vs): ∃v,vs=[v]/\RD G ρ H t v/\LB F.toFx ρ s.n (qq t):=by
 have h:=M.rd
 erw[RDs] at h
 obtain⟨v,r,rfl,h,rfl⟩:=h
 exact⟨v,rfl,h,M.lb1⟩
def MRL.two(M:MRL G F.toFx ρ H σv tv s [t,t'] vs): ∃v u,vs=[v,u]/\RD G ρ H t v/\RD G ρ H t' u:=by
 have h:=M.rd
 erw[RDs] at h
 obtain⟨v,r,rfl,h,u,q,rfl,h',rfl⟩:=h
 exact⟨v,u,rfl,h,h'⟩
def zgc:k9 G F (λxs H Q=> ∃p ys,xs=[.ref p]/\(SqL G.K H p ys\/SqT G.K H p ys)/\Q (.int ys.length) H) z4Y:=by
 intro ρ s ts vs H σv tv Q M W
 delta z4Y at W
 split at W
 .obtain⟨v,rfl,h,_⟩:=M.one
  obtain⟨p,xs,rfl,s1,r1,_⟩:=h.seq rfl
  exact⟨p,xs,rfl,s1,λ_=>by rw[<-r1.length];exact W.flat M.m rfl⟩
 .obtain⟨v,rfl,h,_⟩:=M.one
  obtain⟨p,xs,rfl,s1,r1,_⟩:=h.seq rfl
  exact⟨p,xs,rfl,s1,λ_=>by rw[<-r1.length];exact W.flat M.m rfl⟩
 .obtain⟨v,rfl,h,_⟩:=M.one
  obtain⟨p,xs,rfl,s1,r1,_⟩:=h.seq rfl
  exact⟨p,xs,rfl,s1,λ_=>by rw[<-r1.length];exact W.flat M.m rfl⟩
 .exact wfl W
def zgd:k9 G F (λxs H Q=> ∃i,xs=[.int i]/\Q (.int (if i<0 then -i else i)) H) zeL:=by
 intro ρ s ts vs H σv tv Q M W
 delta zeL at W
 split at W
 .obtain⟨v,rfl,h,_⟩:=M.one
  erw[RD] at h
  subst h
  exact⟨_,rfl,λ_=>W.flat M.m rfl⟩
 .exact wfl W
def zge:k9 G F (λxs H Q=> ∃i j,xs=[.int i, .int j]/\Q (.int (if j<i then j else i)) H) zaE:=by
 intro ρ s ts vs H σv tv Q M W
 delta zaE at W
 split at W
 .obtain⟨v,u,rfl,h,h'⟩:=M.two
  erw[RD] at h h'
  subst h h'
  exact⟨_,_,rfl,λ_=>W.flat M.m rfl⟩
 .exact wfl W
def zgf:k9 G F (λxs H Q=> ∃i j,xs=[.int i, .int j]/\Q (.int (if j>i then j else i)) H) zeM:=by
 intro ρ s ts vs H σv tv Q M W
 delta zeM at W
 split at W
 .obtain⟨v,u,rfl,h,h'⟩:=M.two
  erw[RD] at h h'
  subst h h'
  exact⟨_,_,rfl,λ_=>W.flat M.m rfl⟩
 .exact wfl W
theorem z4c: ∀{ds:List D} {xs:List V} {bs:List Bool},RDs G ρ H ds xs->z07 ds=some bs->xs=bs.map V.bl
 |[],xs,bs,r,e=>by erw[RDs] at r;erw[z07,Option.some.injEq] at e;subst r e;rfl
 |d::ds,xs,bs,r,e=>by
  erw[RDs] at r
  obtain⟨x,q,rfl,h1,h2⟩:=r
  cases d with
  |bool b=>
   erw[z07] at e
   cases e1:z07 ds with
   |none=>rw[e1] at e;cases e
   |some cs=>
    rw[e1] at e
    cases e
    erw[RD] at h1
    rw[h1,z4c h2 e1];rfl
  |_=>erw[z07] at e;cases e
def zgg:k9 G F (λxs H Q=> ∃(p:Addr) (bs:List Bool),xs=[.ref p]/\SqL G.K H p (bs.map V.bl)/\Q (.bl (bs.all id)) H) za0:=by
 intro ρ s ts vs H σv tv Q M W
 delta za0 at W
 split at W
 .rename_i l ds
  cases e1:z07 ds with
  |none=>rw[e1] at W;exact False.elim W
  |some bs=>
   rw[e1] at W
   obtain⟨v,rfl,h,_⟩:=M.one
   obtain⟨p,xs,rfl,s1,r1,_⟩:=h.lstq (ds:=ds) rfl
   rw[z4c r1 e1] at s1
   exact⟨p,bs,rfl,s1,λ_=>W.flat M.m rfl⟩
 .exact wfl W
def zgh:k9 G F (λxs H Q=> ∃(p:Addr) (bs:List Bool),xs=[.ref p]/\SqL G.K H p (bs.map V.bl)/\Q (.bl (bs.any id)) H) zdq:=by
 intro ρ s ts vs H σv tv Q M W
 delta zdq at W
 split at W
 .rename_i l ds
  cases e1:z07 ds with
  |none=>rw[e1] at W;exact False.elim W
  |some bs=>
   rw[e1] at W
   obtain⟨v,rfl,h,_⟩:=M.one
   obtain⟨p,xs,rfl,s1,r1,_⟩:=h.lstq (ds:=ds) rfl
   rw[z4c r1 e1] at s1
   exact⟨p,bs,rfl,s1,λ_=>W.flat M.m rfl⟩
 .exact wfl W
def zgi:k9 G F (λxs H Q=>(∃i,xs=[.int i]/\Q (.int i) H)\/∃k,xs=[.bl k]/\Q (.int (if k then 1 else 0)) H) zbO:=by
 intro ρ s ts vs H σv tv Q M W
 delta zbO at W
 split at W
 .obtain⟨v,rfl,h,_⟩:=M.one
  erw[RD] at h
  subst h
  exact .inl ⟨_,rfl,λ_=>W.flat M.m rfl⟩
 .obtain⟨v,rfl,h,_⟩:=M.one
  erw[RD] at h
  subst h
  exact .inr ⟨_,rfl,λ_=>W.flat M.m rfl⟩
 .exact wfl W
def zdr:k9 G F (λxs H Q=> ∃(p:Addr) (ys:List V),xs=[.ref p]/\(SqL G.K H p ys\/H p=some (.tup ys))/\z9Y G.K H ys Q) z6z:=by
 intro ρ s ts vs H σv tv Q M W
 have fin: ∀(t:D) (ds:List D),ts=[t]->z48 t=some ds->wM G F σv tv (.ok (.tup ds) s) Q->∃(p:Addr) (ys:List V),vs=[.ref p]/\(SqL G.K H p ys\/H p=some (.tup ys))/\z9Y G.K H ys (λw H'=>KD G.K H'->Q w H'):=λt ds et es W'=>by
  subst et
  obtain⟨v,rfl,h,lb⟩:=M.one
  obtain⟨p,xs,rfl,s1,r1,sub⟩:=h.seqx es
  exact⟨p,xs,rfl,s1,z49 W' M.m r1 λl hl=>lb l (sub l hl)⟩
 delta z6z at W
 split at W
 .exact fin _ _ rfl rfl W
 .exact fin _ _ rfl rfl W
 .exact fin _ _ rfl rfl W
 .exact wfl W
def zaF:k9 G F (λxs H Q=> ∃p ys,xs=[.ref p]/\(SqL G.K H p ys\/SqT G.K H p ys)/\∀l,H l=none->Q (.ref l) (upd H l (.lst ys))) z4Z:=by
 intro ρ s ts vs H σv tv Q M W
 have fin: ∀(t:D) (ds:List D),ts=[t]->z48 t=some ds->wM G F σv tv (.ok (.lst s.n ds) s.nxt) Q->∃p ys,vs=[.ref p]/\(SqL G.K H p ys\/SqT G.K H p ys)/\∀l,H l=none->KD G.K (upd H l (.lst ys))->Q (.ref l) (upd H l (.lst ys)):=λt ds et es W'=>by
  subst et
  obtain⟨v,rfl,h,lb⟩:=M.one
  obtain⟨p,xs,rfl,s1,r1,sub⟩:=h.seq es
  exact⟨p,xs,rfl,s1,λl hl k=>z0Q W' M.m r1 (λl hl=>lb l (sub l hl)) hl k⟩
 delta z4Z at W
 split at W
 .exact fin _ _ rfl rfl W
 .exact fin _ _ rfl rfl W
 .exact fin _ _ rfl rfl W
 .exact wfl W
end
inductive RS where
 |nx (s:Stt)|rt (d:D) (s:Stt)|bk (s:Stt)|ct (s:Stt)|ex (d:D) (s:Stt)|no
abbrev MS:=Stt->RS
def z0N{α:Type}(m:M α)(f:α->MS):MS:=λs=>match m s with
 | .ok a s'=>f a s'
 | .ex d s'=> .ex d s'
 | .no=> .no
def W9(m m':MS):MS:=λs=>match m s with
 | .nx s'=>m' s'
 |r=>r
noncomputable def sNx:MS:=λs=> .nx s
def z26(m:M D):MS:=z0N m λ_=>sNx
def G2(m:M D):MS:=z0N m λd s=> .rt d s
def zgj(b:Bool)(m m':MS):MS:=match b with|true=>m|false=>m'
def sIf(c:M Bool)(m m':MS):MS:=z0N c λb=>zgj b m m'
inductive Tg where
 |nm (i:Nat)|tp (ts:List Tg)
mutual
def asg:Tg->D->List (Option D)->Option (List (Option D))
 | .nm i,t,σ=>some (σ.set i (some t))
 | .tp ts, .tup ds,σ=>asgL ts ds σ
 | .tp ts, .lst _ ds,σ=>asgL ts ds σ
 | .tp _,_,_=>none
def asgL:List Tg->List D->List (Option D)->Option (List (Option D))
 |[],[],σ=>some σ
 |t::ts,d::ds,σ=>match asg t d σ with|some σ'=>asgL ts ds σ'|none=>none
 |_,_,_=>none
end
def J8(g:Tg)(m:M D):MS:=z0N m λd s=>match asg g d s.σ with
 |some σ'=> .nx {s with σ:=σ'}
 |none=> .no
section
variable{X:Cx}{G:Gx}{F:Fy}{e a b c:bn}{st:Stmt}{sts rest:List Stmt}{pos:bN}
def wS(G:Gx)(F:Fy)(tv:List (Option V))(r:RS)(D:z5L):Prop:=match r with
 | .nx s'=> ∀ρ' σv' H',MR G F.toFx ρ' H' σv' tv s'->D.nx σv' H'
 | .rt t s'=> ∀ρ' σv' v H',MRL G F.toFx ρ' H' σv' tv s' [t] [v]->D.rt v H'
 | .bk s'=> ∀ρ' σv' H',MR G F.toFx ρ' H' σv' tv s'->D.bk σv' H'
 | .ct s'=> ∀ρ' σv' H',MR G F.toFx ρ' H' σv' tv s'->D.ct σv' H'
 | .ex d s'=>F.xw d s'
 | .no=>False
def tSv(G:Gx)(F:Fy)(m:MS)(tv:List (Option V))(D:z5L)(σv:St)(H:Hp):Prop:=F.tv0<:+tv/\∃ρ s,MR G F.toFx ρ H σv tv s/\wS G F tv (m s) D
def tS(G:Gx)(F:Fy)(m:MS):TS:=λD σv H=> ∃tv,tSv G F m tv D σv H
def SS(X:Cx)(G:Gx)(F:Fy)(st:Stmt)(m:MS):Prop:=PS X st (tS G F m)
def SSs(X:Cx)(G:Gx)(F:Fy)(sts:List Stmt)(m:MS):Prop:=PSs X sts (tS G F m)
def PS.imp0(h:PS X st t)(hi: ∀D σ H,t' D σ H->t D σ H):PS X st t':=λqz s σ H D I q=>h qz s σ H D I (hi D σ H q)
def PSs.imp0(h:PSs X sts t)(hi: ∀D σ H,t' D σ H->t D σ H):PSs X sts t':=λqz s σ H D I q=>h qz s σ H D I (hi D σ H q)
def z0t{m:M D}{f:D->MS}{tv:List (Option V)}{D:z5L}{σ:St}{H:Hp}(h:tSv G F (z0N m f) tv D σ H):tMv G F m σ tv H λv H1=> ∃ρ1 s1 t,MRL G F.toFx ρ1 H1 σ tv s1 [t] [v]/\wS G F tv (f t s1) D:=by
 obtain⟨hs,ρ,s,M,W⟩:=h
 refine⟨hs,ρ,s,M, ?_⟩
 delta z0N at W
 cases e:m s with
 |ok t s1=>rw[e] at W;exact λ ρ1 v H1 M1=>⟨ρ1,s1,t,M1,W⟩
 |ex d s1=>rw[e] at W;exact W
 |no=>rw[e] at W;exact W
def z8D{m:M Bool}{f:Bool->MS}{tv:List (Option V)}{D:z5L}{σ:St}{H:Hp}(h:tSv G F (z0N m f) tv D σ H):tBv G F m σ tv H λb H1=> ∃ρ1 s1,MR G F.toFx ρ1 H1 σ tv s1/\wS G F tv (f b s1) D:=by
 obtain⟨hs,ρ,s,M,W⟩:=h
 refine⟨hs,ρ,s,M, ?_⟩
 delta z0N at W
 cases e:m s with
 |ok t s1=>rw[e] at W;exact λ ρ1 H1 M1=>⟨ρ1,s1,M1,W⟩
 |ex d s1=>rw[e] at W;exact W
 |no=>rw[e] at W;exact W
def tGn(G:Gx)(F:Fy)(g:Tg):TG:=λv σv H Q=> ∃tv ρ s t,MRL G F.toFx ρ H σv tv s [t] [v]/\∃σ',asg g t s.σ=some σ'/\∀σv',MR G F.toFx ρ H σv' tv {s with σ:=σ'}->Q σv' H
def tGs(G:Gx)(F:Fy)(g:List Tg):TGs:=λvs σv H Q=> ∃tv ρ s ts,MRL G F.toFx ρ H σv tv s ts vs/\∃σ',asgL g ts s.σ=some σ'/\∀σv',MR G F.toFx ρ H σv' tv {s with σ:=σ'}->Q σv' H
def SG(X:Cx)(G:Gx)(F:Fy)(tg:bn)(g:Tg):Prop:=PG X tg (tGn G F g)
def SGs(X:Cx)(G:Gx)(F:Fy)(tgs:List bn)(g:List Tg):Prop:=PGs X tgs (tGs G F g)
def MRL.setS{σv tv:List (Option V)} i(M:MRL G F.toFx ρ H σv tv s (t::ts) (v::vs)):MRL G F.toFx ρ H (σv.set i (some v)) tv {s with σ:=s.σ.set i (some t)} ts vs:=by
 have h:=M.rd
 erw[RDs] at h
 obtain⟨_,_,e,h1,h2⟩:=h
 cases e
 have lb1: ∀l∈qq t,l<s.n/\(F.A0 (ρ l)\/F.H0 (ρ l)=none):=λl h=>M.lb l (by erw[qx];exact e6 _ h)
 have all: ∀l∈J2 {s with σ:=s.σ.set i (some t)},l<s.n/\(F.A0 (ρ l)\/F.H0 (ρ l)=none):=λl h=>by
  rcases e9.mp h with h|h
  .rcases z2O l h with q|q
   .exact⟨M.m.lab l (e6 _ q),M.m.own l (e6 _ q)⟩
   .exact lb1 l q
  .exact⟨M.m.lab l (b6 _ h),M.m.own l (b6 _ h)⟩
 exact⟨⟨M.m.sl.set i h1,M.m.tm,M.m.inj,M.m.dom,λl h=>(all l h).1,λl h=>(all l h).2,M.m.frm,M.m.kd,M.m.frb,M.m.bas⟩,h2,λl h=>M.lb l (by erw[qx];exact b6 _ h)⟩
def MRL.cons_inv{s:Stt}(M:MRL G F.toFx ρ H σv tv s (t::ts) vs): ∃v r,vs=v::r/\MRL G F.toFx ρ H σv tv s [t] [v]/\RDs G ρ H ts r/\LB F.toFx ρ s.n (qx ts):=by
 have h:=M.rd
 erw[RDs] at h
 obtain⟨v,r,rfl,h1,h2⟩:=h
 exact⟨v,r,rfl,⟨M.m,RDs.one h1,λl h=>M.lb l (by erw[qx,e8] at h⊢;exact e6 _ h)⟩,h2,λl h=>M.lb l (by erw[qx];exact b6 _ h)⟩
def PGs.imp0(h:PGs X es t)(hi: ∀vs σ H Q,t' vs σ H Q->t vs σ H Q):PGs X es t':=λqz s σ H vs us Q I r q=>h qz s σ H vs us Q I r (hi vs σ H Q q)
def PG.imp0(h:PG X e t)(hi: ∀v σ H Q,t' v σ H Q->t v σ H Q):PG X e t':=λqz s σ H v u Q I r q=>h qz s σ H v u Q I r (hi v σ H Q q)
end
structure ItK where
 k:Nat
 at':Nat->List (Option D)->Option (Option D)
 len:List (Option D)->Nat
def zgk(i:Nat):List (Option D)->Option (Option D)
 |some c::_=>(z5G c).map λds=>ds[i]?
 |_=>none
def zgl(i:Nat):List (Option D)->Option (Option D)
 |some (.tup ds)::_=>some ds[i]?
 |_=>none
def z8E:List (Option D)->Nat
 |some (.tup ds)::_=>ds.length
 |some (.lst _ ds)::_=>ds.length
 |some (.ro ds)::_=>ds.length
 |_=>0
def z4d:ItK:=⟨1,zgk,z8E⟩
def zds:ItK:=⟨1,zgl,z8E⟩
noncomputable def z4x(lo:Int)(n:Nat):ItK:=⟨0,λi _=>some (if i<n then some (.int (lo+i)) else none),λ_=>n⟩
def Stt.popn(s:Stt)(k:Nat):Stt:={s with tm:=s.tm.drop k}
section
variable{X:Cx}{G:Gx}{F:Fy}{e a b c tg iter:bn}{pos:bN}
def MR.popn{F:Fx}{ρ:Nat->Addr}{H:Hp}{σv tvs tv:List (Option V)}{s:Stt}(M:MR G F ρ H σv (tvs++tv) s):MR G F ρ H σv tv (s.popn tvs.length):=by
 have sub: ∀l∈J2 (s.popn tvs.length),l∈J2 s:=λl h=>by
  rcases e9.mp h with h|h
  .exact e6 _ h
  .refine b6 _ ?_
   have e:=Z7 (s.tm.take tvs.length) (s.tm.drop tvs.length)
   rw[B9] at e
   rw[e]
   exact b6 _ h
 exact⟨M.sl,(Sl.split tvs M.tm).2,M.inj,M.dom,λl h=>M.lab l (sub l h),λl h=>M.own l (sub l h),M.frm,M.kd,M.frb,M.bas⟩
def zbP(G:Gx)(J:It)(K:ItK)(tvs:List (Option V)):Prop:= ∀(F:Fx) ρ H σv tvp tv s i,MR G F ρ H σv (tvp++(tvs++tv)) s->match K.at' i (s.tm.drop tvp.length) with
 |none=>True
 |some none=>J.stop i H
 |some (some d)=>J.go i H/\∀x H',J.yld i H x H'->MRL G F ρ H' σv (tvp++(tvs++tv)) s [d] [x]
def tI(G:Gx)(F:Fy)(m:M ItK):TI:=λ σv H R=> ∃tv,F.tv0<:+tv/\∃ρ s,MR G F.toFx ρ H σv tv s/\match m s with
 | .ok K s'=> ∀ρ' H' tvs J,tvs.length=K.k->MR G F.toFx ρ' H' σv (tvs++tv) s'->zbP G J K tvs->R J H'
 | .ex d s'=>F.xw d s'
 | .no=>False
def SI(X:Cx)(G:Gx)(F:Fy)(tg iter:bn)(m:M ItK):Prop:=PI X tg iter (tI G F m)
def PI.imp0(h:PI X tg iter w)(hi: ∀σ H R,w' σ H R->w σ H R):PI X tg iter w':=λqz s σ H R I q=>h qz s σ H R I (hi σ H R q)
def zla(K:W.Frag)(tl:TE):TI:=λ σ H R=>tl σ H λx H1=> ∃a,x= .ref a/\(((∃xs,SqL K H1 a xs)/\R (Itl K a) H1)\/((∃xs,SqT K H1 a xs)/\R (Itt K a) H1))
def zgm(hl:PE X l tl):PI X tg l (zla X.K tl):=by
 intro qz s σ H R I h
 refine thn (hl qz s σ H _ I h) ?_
 rintro v s1 ⟨x,H1,I1,r1,q1⟩
 obtain⟨a,e,q|q⟩:=q1
 .subst e
  cases r1
  obtain⟨⟨xs,hq⟩,q⟩:=q
  obtain⟨its,rv,p,hz⟩:=I1.list hq
  refine cB p.isList ?_
  refine⟨s1.heap.objs.size,[s1.heap.objs.size],_,_,H1,rfl,I1.kept (t':=s1.toks) λb o e=>Heap.get?_push_of_some _ e,z7K a _,⟨_,Heap.get?_push_size _ rfl,rfl,rfl⟩,λb hb=> ?_,q⟩
  have e:b=s1.heap.objs.size:=by simpa using hb
  subst e
  exact I1.fpOk (b9 _) (I1.hok.fresh (b9 _))
 .subst e
  cases r1
  obtain⟨⟨xs,hq⟩,q⟩:=q
  obtain⟨its,rv,p,hz⟩:=I1.tuple hq
  refine wpAny_pyIter_tuple (show s1.heap.IsTuple a its.toArray from p) ?_
  refine⟨s1.heap.objs.size,[s1.heap.objs.size],_,_,H1,rfl,I1.kept (t':=s1.toks) λb o e=>Heap.get?_push_of_some _ e,z6X a _,⟨_,Heap.get?_push_size _ rfl,rfl,rfl⟩,λb hb=> ?_,q⟩
  have e:b=s1.heap.objs.size:=by simpa using hb
  subst e
  exact I1.fpOk (b9 _) (I1.hok.fresh (b9 _))
def Q5(m:M D):M ItK:=bd m λd s=>match d with
 | .tup _=> .ok zds (s.psh d)
 | .lst _ _=> .ok z4d (s.psh d)
 | .ro _=> .ok z4d (s.psh d)
 |_=> .no
def SqT.two{K:W.Frag}{H:Hp}{a:Addr}{xs ys:List V}(k:KD K H)(h:SqT K H a xs)(h':SqT K H a ys):xs=ys:=by
 rcases h with(h|⟨o,h⟩)|⟨o,its,n,h,_,hd,_,r⟩<;>rcases h' with(h'|⟨o',h'⟩)|⟨o',its',n',h',_,hd',_,r'⟩
 .rw[h] at h';cases h';rfl
 .rw[h] at h';cases h'
 .rw[k _ _ h'] at h;cases h
 .rw[h] at h';cases h'
 .rw[h] at h';cases h';rfl
 .rw[k _ _ h'] at h;cases h
 .rw[k _ _ h] at h';cases h'
 .rw[k _ _ h] at h';cases h'
 .rw[h] at h';cases h';rw[hd] at hd';cases hd';exact r.inj r'
def SqL.two{K:W.Frag}{H:Hp}{a:Addr}{xs ys:List V}(k:KD K H)(h:SqL K H a xs)(h':SqL K H a ys):xs=ys:=by
 rcases h with(h|⟨o,h⟩)|⟨o,its,n,h,_,_,hd,_,r⟩<;>rcases h' with(h'|⟨o',h'⟩)|⟨o',its',n',h',_,_,hd',_,r'⟩
 .rw[h] at h';cases h';rfl
 .rw[h] at h';cases h'
 .rw[k _ _ h'] at h;cases h
 .rw[h] at h';cases h'
 .rw[h] at h';cases h';rfl
 .rw[k _ _ h'] at h;cases h
 .rw[k _ _ h] at h';cases h'
 .rw[k _ _ h] at h';cases h'
 .rw[h] at h';cases h';rw[hd] at hd';cases hd';exact r.inj r'
def MR.head{F:Fx}{ρ:Nat->Addr}{H:Hp}{σv tv:List (Option V)}{s:Stt}{v:V}{c:D}{r:List (Option D)}(M:MR G F ρ H σv (some v::tv) s)(e:s.tm=some c::r):RD G ρ H c v/\LB F ρ s.n (qq c):=by
 obtain⟨σ,tm,n⟩:=s
 have e:tm=some c::r:=e
 subst e
 exact⟨MR.top (s:=⟨σ,r,n⟩) M,MR.topl (s:=⟨σ,r,n⟩) M⟩
def z6A{a:Addr}:zbP G (Itl G.K a) z4d [some (.ref a)]:=by
 intro F ρ H σv tvp tv s i M
 dsimp only[z4d]
 cases e:s.tm.drop tvp.length with
 |nil=>trivial
 |cons o r=>
  cases o with
  |none=>trivial
  |some c=>
   erw[zgk]
   obtain⟨h,lb⟩:=MR.head (s:=s.popn tvp.length) M.popn e
   cases e1:z5G c with
   |none=>trivial
   |some ds=>
    erw[i9]
    obtain⟨a',xs,ea,sq,rr,sub⟩:=h.lstq e1
    cases ea
    cases e2:ds[i]? with
    |none=>
     refine⟨xs,sq, ?_⟩
     rw[<-rr.length]
     exact List.getElem?_eq_none_iff.mp e2
    |some d=>
     obtain⟨x,ex,rx⟩:=rr.get i d e2
     refine⟨⟨xs,x,sq,ex⟩, ?_⟩
     rintro x' H' ⟨rfl,hx⟩
     rw[hx xs sq] at ex
     cases ex
     exact⟨M,RDs.one rx,λl hl=>lb l (sub l (qv (List.mem_of_getElem? e2) l (by simpa only[qx,e8] using hl)))⟩
def zaG{a:Addr}:zbP G (Itt G.K a) zds [some (.ref a)]:=by
 intro F ρ H σv tvp tv s i M
 dsimp only[zds]
 cases e:s.tm.drop tvp.length with
 |nil=>trivial
 |cons o r=>
  cases o with
  |none=>trivial
  |some c=>
   obtain⟨h,lb⟩:=MR.head (s:=s.popn tvp.length) M.popn e
   cases c with
   |tup ds=>
    erw[zgl]
    obtain⟨a',xs,ea,sq,rr⟩:=h.tupq
    cases ea
    cases e2:ds[i]? with
    |none=>
     refine⟨xs,sq, ?_⟩
     rw[<-rr.length]
     exact List.getElem?_eq_none_iff.mp e2
    |some d=>
     obtain⟨x,ex,rx⟩:=rr.get i d e2
     refine⟨⟨xs,x,sq,ex⟩, ?_⟩
     rintro x' H' ⟨rfl,hx⟩
     rw[hx xs sq] at ex
     cases ex
     exact⟨M,RDs.one rx,λl hl=>lb l (by erw[qq];exact qv (List.mem_of_getElem? e2) l (by simpa only[qx,e8] using hl))⟩
   |_=>trivial
def zgn(ts:List D):M ItK:=match ts with
 |[.int j]=>if -(2^62)<=j/\j<2^62 then rt (z4x 0 j.toNat) else fl
 |_=>fl
def zgo(ts:List D):M ItK:=match ts with
 |[.int i, .int j]=>if -(2^62)<=i/\i<2^62/\-(2^62)<=j/\j<2^62 then rt (z4x i (j -i).toNat) else fl
 |_=>fl
def X4(ms:List (M D)):M ItK:=bd (Y0 ms) zgn
def z50(ms:List (M D)):M ItK:=bd (Y0 ms) zgo
def z6B{lo:Int}{n:Nat}:zbP G (Itr lo n) (z4x lo n) []:=by
 intro F ρ H σv tvp tv s i M
 erw[z4x]
 by_cases h:i<n
 .rw[qy h]
  refine⟨h, ?_⟩
  rintro x H' ⟨rfl,rfl⟩
  exact⟨M,RDs.one (by erw[RD]),λl hl=>by simp[qx,qq] at hl⟩
 .rw[qh h]
  exact L7.mp h
noncomputable def forGo(K:ItK)(g:Tg)(b:MS):Nat->Nat->MS
 |f,i=>λs=>match K.at' i s.tm with
  |none=> .no
  |some none=> .nx (s.popn K.k)
  |some (some d)=>match f with
   |0=> .no
   |f+1=>match asg g d s.σ with
    |none=> .no
    |some σ'=>match b {s with σ:=σ'} with
     | .nx s'=>forGo K g b f (i+1) s'
     | .ct s'=>forGo K g b f (i+1) s'
     | .bk s'=> .nx (s'.popn K.k)
     | .rt t s'=> .rt t (s'.popn K.k)
     | .ex d s'=> .ex d s'
     | .no=> .no
def z1A(mi:M ItK)(g:Tg)(b:MS):MS:=z0N mi λK s=>forGo K g b (K.len s.tm) 0 s
def MRL.popn{σv tvs tv:List (Option V)}{s:Stt}(M:MRL G F.toFx ρ H σv (tvs++tv) s ts vs):MRL G F.toFx ρ H σv tv (s.popn tvs.length) ts vs:=⟨M.m.popn,M.rd,M.lb⟩
def zlb(h:F.tv0<:+tv):F.tv0<:+tvs++tv:=h.trans (S2 _ _)
def z8F{m:M ItK}{f:ItK->MS}{tv:List (Option V)}{D:z5L}{σ:St}{H:Hp}{R:It->Hp->Prop}(h:tSv G F (z0N m f) tv D σ H)
 (k: ∀K ρ' H' tvs J s',tvs.length=K.k->MR G F.toFx ρ' H' σ (tvs++tv) s'->zbP G J K tvs->wS G F tv (f K s') D->R J H'):tI G F m σ H R:=by
 obtain⟨hs,ρ,s,M,W⟩:=h
 refine⟨tv,hs,ρ,s,M, ?_⟩
 unfold z0N at W
 cases e:m s with
 |ok K s1=>rw[e] at W;exact λ ρ' H' tvs J hl M' hok=>k K ρ' H' tvs J s1 hl M' hok W
 |ex d s1=>rw[e] at W;exact W
 |no=>rw[e] at W;exact W
end
noncomputable def Y6:List (Option D)->Option (List D)
 |[]=>some []
 |some d::r=>(Y6 r).map (d:: ·)
 |none::_=>none
noncomputable def z00(K:ItK)(g:Tg)(mt:M Bool)(me:M D)(ol:Nat):Nat->Nat->Nat->M D
 |f,i,k=>λs=>match K.at' i (s.tm.drop (k+ol)) with
  |none=> .no
  |some none=>match Y6 (s.tm.take k).reverse with
   |some ds=> .ok (.lst s.n ds) {σ:=(s.tm.drop k).take ol,tm:=s.tm.drop (k+ol+K.k),n:=s.n+1}
   |none=> .no
  |some (some d)=>match f with
   |0=> .no
   |f+1=>match asg g d s.σ with
    |none=> .no
    |some σ'=>match mt {s with σ:=σ'} with
     | .ok false s1=>z00 K g mt me ol f (i+1) k s1
     | .ok true s1=>if k<qg then match me s1 with
      | .ok y s2=>z00 K g mt me ol f (i+1) (k+1) (s2.psh y)
      |_=> .no
      else .no
     |_=> .no
def z2R(own:Nat)(ix:List Nat)(s:Stt):Stt:={σ:=m7 own none++ix.map (λi=>(s.σ[i]?).getD none),tm:=s.σ++s.tm,n:=s.n}
def Y7(mi:M ItK)(g:Tg)(mt:M Bool)(me:M D)(own:Nat)(ix:List Nat):M D:=bd mi λK s=>z00 K g mt me s.σ.length (K.len s.tm) 0 0 (z2R own ix s)
section
variable{X:Cx}{G:Gx}{F:Fy}{e a b c tg iter elt:bn}{pos:bN}
def Fy.prot(F:Fy)(D:Addr)(ys:List V)(h:F.H0 D=none):Fy where
 A0:=F.A0
 H0:=upd F.H0 D (.lst ys)
 Z:=λa=>a=D\/F.Z a
 zA:=λa z=>by
  rcases z with rfl|z
  .exact⟨⟨_,y6⟩,λq=>by obtain⟨o,e⟩:=F.aH _ q;rw[h] at e;cases e⟩
  .obtain⟨⟨o,e⟩,n⟩:=F.zA a z
   exact⟨⟨o,by rw[y3 (j0 e h)];exact e⟩,n⟩
 aH:=λa q=>by
  obtain⟨o,e⟩:=F.aH a q
  exact⟨o,by rw[y3 (j0 e h)];exact e⟩
 n0:=F.n0
 ρ0:=F.ρ0
 tv0:=[]
 xw:=λ_ _=>False
theorem Sl.none_map: ∀k:Nat,Sl G ρ H (m7 k none) (m7 k none)
 |0=>by simp[Sl]
 |k+1=>by erw[N6,Sl];exact⟨_,_,rfl,Sl.none_map k⟩
theorem Sl.pick(h:Sl G ρ H σ σv): ∀ix:List Nat,Sl G ρ H (ix.map λi=>(σ[i]?).getD none) (ix.map λi=>(σv[i]?).getD none)
 |[]=>by simp[Sl]
 |i::ix=>by
  erw[b8]
  cases e:σ[i]? with
  |none=>erw[E4,Sl];exact⟨_,_,rfl,Sl.pick h ix⟩
  |some o=>
   cases o with
   |none=>erw[l7,Sl];exact⟨_,_,rfl,Sl.pick h ix⟩
   |some d=>
    obtain⟨v,e1,r⟩:=h.get i d e
    erw[l7,Sl,e1]
    exact⟨_,_,rfl,r,Sl.pick h ix⟩
theorem z0R{l:Nat}: ∀{ix:List Nat},l∈Z4 (ix.map λi=>(σ[i]?).getD none)->l∈Z4 σ
 |[],h=>by simp[Z4] at h
 |i::ix,h=>by
  erw[b8] at h
  cases e:σ[i]? with
  |none=>rw[e] at h;erw[E4,Z4] at h;exact z0R h
  |some o=>
   rw[e] at h
   cases o with
   |none=>erw[l7,Z4] at h;exact z0R h
   |some d=>
    erw[l7,Z4] at h
    rcases e9.mp h with h|h
    .exact z1F e l h
    .exact z0R h
theorem z1G{l:Nat}: ∀k:Nat,¬l∈Z4 (m7 k (none:Option D))
 |0,h=>by simp[Z4] at h
 |k+1,h=>by erw[N6,Z4] at h;exact z1G k h
def MR.enter{ρ:Nat->Addr}{H:Hp}{σv tv:List (Option V)}{s:Stt}{D:Addr}(M:MR G F.toFx ρ H σv tv s)(hD:H D=none)(k:KD G.K (upd H D (.lst [])))(own:Nat)(ix:List Nat):
 MR G (F.prot D [] (M.fresh0 hD)).toFx ρ (upd H D (.lst [])) (z05 own ix σv) (σv++tv) (z2R own ix s):=by
 have sm:=z0K.new (.lst []) hD
 have M1:=M.same sm k
 have nD: ∀l,l<s.n->ρ l≠D:=λl hl e=>by
  obtain⟨o,q⟩:=M.dom l hl
  rw[e,hD] at q;cases q
 have sub: ∀l∈J2 (z2R own ix s),l∈J2 s:=λl h=>by
  rcases e9.mp h with h|h
  .have h:l∈Z4 (m7 own none++ix.map (λi=>(s.σ[i]?).getD none)):=h
   rw[Z7] at h
   rcases e9.mp h with h|h
   .exact absurd h (z1G own)
   .exact e6 _ (z0R h)
  .have h:l∈Z4 (s.σ++s.tm):=h
   rw[Z7] at h
   exact h
 refine⟨?_,M1.sl.append M1.tm,M1.inj,M1.dom,λl h=>M.lab l (sub l h),λl h=> ?_,λa o e=> ?_,k,λl hl z=> ?_,M.bas⟩
 .exact(Sl.none_map own).append (M1.sl.pick ix)
 .rcases M.own l (sub l h) with q|q
  .exact .inl q
  .refine .inr ?_
   show upd F.H0 D (.lst []) (ρ l)=none
   rw[y3 (nD l (M.lab l (sub l h)))];exact q
 .have e:upd F.H0 D (.lst []) a=some o:=e
  by_cases ha:a=D
  .subst ha
   rw[y6] at e;cases e
   exact⟨⟨_,y6⟩,λ_=>y6⟩
  .rw[y3 ha] at e
   exact M1.frm a o e
 .rcases z with z|z
  .exact nD l hl z
  .exact M.frb l hl z
def MR.turnD{ρ:Nat->Addr}{H:Hp}{σv tv:List (Option V)}{s:Stt}{D:Addr}{ys ys':List V}{hf:F.H0 D=none}(M:MR G (F.prot D ys hf).toFx ρ H σv tv s):
 H D=some (.lst ys)/\MR G (F.prot D ys' hf).toFx ρ (upd H D (.lst ys')) σv tv s:=by
 have hD:H D=some (.lst ys):=(M.frm D (.lst ys) y6).2 ((F.prot D ys hf).zA D (.inl rfl)).2
 have nD: ∀l,l<s.n->ρ l≠D:=λl hl e=>M.frb l hl (.inl e)
 have st:G5 H (upd H D (.lst ys')):=⟨λb xs e=>by rw[y3 (z0o e hD (by intro z;cases z))];exact e,λb o u e=>by rw[y3 (z0o e hD (by intro z;cases z))];exact e⟩
 refine⟨hD,⟨Sl.stay st M.sl λl hl=>⟨rfl,λo e=> ?_⟩,Sl.stay st M.tm λl hl=>⟨rfl,λo e=> ?_⟩,M.inj,λl hl=> ?_,M.lab,λl h=> ?_,λa o e=> ?_,λa o e=> ?_,λl hl=>M.frb l hl,M.bas⟩⟩
 .rw[y3 (nD l (M.lab l (e6 _ hl)))];exact e
 .rw[y3 (nD l (M.lab l (b6 _ hl)))];exact e
 .rw[y3 (nD l hl)];exact M.dom l hl
 .rcases M.own l h with q|q
  .exact .inl q
  .refine .inr ?_
   have q:upd F.H0 D (.lst ys) (ρ l)=none:=q
   show upd F.H0 D (.lst ys') (ρ l)=none
   rw[y3 (nD l (M.lab l h))] at q⊢;exact q
 .have e:upd F.H0 D (.lst ys') a=some o:=e
  by_cases ha:a=D
  .subst ha
   rw[y6] at e;cases e
   exact⟨⟨_,y6⟩,λ_=>y6⟩
  .rw[y3 ha] at e⊢
   exact M.frm a o (by show upd F.H0 D (.lst ys) a=some o;rw[y3 ha];exact e)
 .by_cases ha:a=D
  .subst ha
   rw[M.kd a o e] at hD;cases hD
  .rw[y3 ha];exact M.kd a o e
theorem Sl.all: ∀{tm:List (Option D)} {ys:List V} {ds:List D},Sl G ρ H tm (ys.map some)->Y6 tm=some ds->RDs G ρ H ds ys/\qx ds=Z4 tm
 |[],ys,ds,h,e=>by
  erw[Sl] at h
  erw[Y6,Option.some.injEq] at e
  subst e
  have:ys=[]:=by simpa using h
  subst this
  simp[RDs,qx,Z4]
 |none::r,ys,ds,h,e=>by erw[Y6] at e;cases e
 |some d::r,ys,ds,h,e=>by
  erw[Sl] at h
  obtain⟨v,q,e1,h1,h2⟩:=h
  cases ys with
  |nil=>cases e1
  |cons y ys=>
   erw[b8,List.cons.injEq,Option.some.injEq] at e1
   obtain⟨rfl,rfl⟩:=e1
   erw[Y6] at e
   cases e2:Y6 r with
   |none=>rw[e2] at e;cases e
   |some es=>
    rw[e2] at e
    cases e
    obtain⟨r1,r2⟩:=Sl.all h2 e2
    refine⟨?_,by erw[qx,Z4,r2]⟩
    erw[RDs]
    exact⟨_,_,rfl,h1,r1⟩
theorem Sl.reverse: ∀{tm:List (Option D)} {ys:List (Option V)},Sl G ρ H tm ys->Sl G ρ H tm.reverse ys.reverse
 |[],ys,h=>by erw[Sl] at h;subst h;simp[Sl]
 |none::r,ys,h=>by
  erw[Sl] at h
  obtain⟨o,q,rfl,h⟩:=h
  rw[A9,A9]
  exact(Sl.reverse h).append (by erw[Sl];exact⟨_,_,rfl,rfl⟩)
 |some d::r,ys,h=>by
  erw[Sl] at h
  obtain⟨o,q,rfl,h1,h⟩:=h
  rw[A9,A9]
  exact(Sl.reverse h).append (by erw[Sl];exact⟨_,_,rfl,h1,rfl⟩)
theorem z1H{l:Nat}: ∀{tm:List (Option D)},l∈Z4 tm.reverse↔l∈Z4 tm
 |[]=>by simp
 |none::r=>by
  rw[A9,Z7]
  erw[Z4,e8]
  exact z1H
 |some d::r=>by
  rw[A9,Z7]
  erw[Z4,e8,e9]
  rw[z1H]
  exact Or.comm
def MR.leave{ρ:Nat->Addr}{H:Hp}{σi σv tvs tv:List (Option V)}{s:Stt}{ys:List V}{hf:F.H0 A1=none}{ds:List D}{kk:Nat}
 (M:MR G (F.prot A1 ys hf).toFx ρ H σi ((ys.reverse.map some)++(σv++(tvs++tv))) s) (hk:tvs.length=kk) ol (ho:σv.length=ol) (e:Y6 (s.tm.take ys.length).reverse=some ds):
 MRL G F.toFx (ext ρ s.n A1) H σv tv {σ:=(s.tm.drop ys.length).take ol,tm:=s.tm.drop (ys.length+ol+kk),n:=s.n+1} [.lst s.n ds] [.ref A1]:=by
 subst hk ho
 have hD:=(MR.turnD (ys':=ys) M).1
 have nD: ∀l,l<s.n->ρ l≠A1:=λl hl e=>M.frb l hl (.inl e)
 have t0:=Sl.split (ys.reverse.map some) M.tm
 erw[i5,F2] at t0
 obtain⟨t1,t2⟩:=t0
 obtain⟨t3,t4⟩:=Sl.split σv t2
 obtain⟨_,t6⟩:=Sl.split tvs t4
 rw[D2] at t4
 rw[D2,D2] at t6
 have t6':Sl G ρ H (s.tm.drop (ys.length+σv.length+tvs.length)) tv:=by rw[F6];exact t6
 have t1':=t1.reverse
 rw[<-P3,M9] at t1'
 obtain⟨r1,r2⟩:=Sl.all t1' e
 have lt: ∀l,l∈Z4 (s.tm.take ys.length)->l∈J2 s:=λl h=>b6 _ (by
  have e:=Z7 (s.tm.take ys.length) (s.tm.drop ys.length)
  rw[B9] at e
  rw[e];exact e6 _ h)
 have ld: ∀l k,l∈Z4 (s.tm.drop k)->l∈J2 s:=λl k h=>b6 _ (by
  have e:=Z7 (s.tm.take k) (s.tm.drop k)
  rw[B9] at e
  rw[e];exact b6 _ h)
 have ldt: ∀l k j,l∈Z4 ((s.tm.drop k).take j)->l∈J2 s:=λl k j h=>ld l k (by
  have e:=Z7 ((s.tm.drop k).take j) ((s.tm.drop k).drop j)
  rw[B9] at e
  rw[e];exact e6 _ h)
 have own: ∀l∈J2 s,F.A0 (ρ l)\/F.H0 (ρ l)=none:=λl h=>by
  rcases M.own l h with q|q
  .exact .inl q
  .refine .inr ?_
   have q:upd F.H0 A1 (.lst ys) (ρ l)=none:=q
   rw[y3 (nD l (M.lab l h))] at q;exact q
 have st:=G5.refl H
 have stay: ∀l,l<s.n->ext ρ s.n A1 l=ρ l/\∀o,H (ρ l)=some o->H (ρ l)=some o:=λl hl=>⟨Y3 hl,λo e=>e⟩
 have all: ∀l∈J2 {σ:=(s.tm.drop ys.length).take σv.length,tm:=s.tm.drop (ys.length+σv.length+tvs.length),n:=s.n+1},l∈J2 s:=λl h=>by
  rcases e9.mp h with h|h
  .exact ldt l _ _ h
  .exact ld l _ h
 have dsl: ∀l∈qx ds,l∈J2 s:=λl h=>lt l (by rw[r2] at h;exact z1H.mp h)
 refine⟨⟨Sl.stay st t3 λl hl=>stay l (M.lab l (ldt l _ _ hl)),Sl.stay st t6' λl hl=>stay l (M.lab l (ld l _ hl)),λi j hi hj eq=> ?_,λl hl=> ?_,λl h=>C6 (M.lab l (all l h)),λl h=> ?_,λa o e=> ?_,M.kd,λl hl z=> ?_,⟨O7 M.bas.1,λl hl=>by rw[Y3 (l4 hl M.bas.1)];exact M.bas.2 l hl⟩⟩, ?_,λl h=> ?_⟩
 .have hi:i<s.n+1:=hi
  have hj:j<s.n+1:=hj
  by_cases h1:i=s.n
  .by_cases h2:j=s.n
   .lia
   .rw[h1,Q4,Y3 (by lia)] at eq
    exact absurd eq.symm (nD j (by lia))
  .by_cases h2:j=s.n
   .rw[h2,Q4,Y3 (by lia)] at eq
    exact absurd eq (nD i (by lia))
   .rw[Y3 (by lia),Y3 (by lia)] at eq
    exact M.inj i j (by lia) (by lia) eq
 .have hl:l<s.n+1:=hl
  by_cases h1:l=s.n
  .subst h1;rw[Q4];exact⟨_,hD⟩
  .rw[Y3 (by lia)];exact M.dom l (by lia)
 .rw[Y3 (M.lab l (all l h))];exact own l (all l h)
 .exact M.frm a o (by show upd F.H0 A1 (.lst ys) a=some o;rw[y3 (j0 e hf)];exact e)
 .have hl:l<s.n+1:=hl
  by_cases h1:l=s.n
  .subst h1;rw[Q4] at z
   obtain⟨⟨o,e⟩,_⟩:=F.zA A1 z
   rw[hf] at e;cases e
  .rw[Y3 (by lia)] at z
   exact M.frb l (by lia) (.inr z)
 .refine RDs.one ?_
  erw[RD]
  rw[Q4]
  exact⟨rfl,ys,hD,RDs.stay st ds ys r1 λl hl=>stay l (M.lab l (dsl l hl))⟩
 .erw[qx,qq,e8] at h
  rcases c8.mp h with q|q
  .rw[q,Q4];exact⟨m8 _, .inr hf⟩
  .have q2:=dsl l q
   exact⟨C6 (M.lab l q2),by rw[Y3 (M.lab l q2)];exact own l q2⟩
def tMx(G:Gx)(m:M D):TE:=λ σ H Q=> ∃F:Fy,tM G F m σ H Q
def tBx(G:Gx)(m:M Bool):TT:=λ σ H Q=> ∃F:Fy,tMB G F m σ H Q
def tGx(G:Gx)(g:Tg):TG:=λv σ H Q=> ∃F:Fy,tGn G F g v σ H Q
def STs(X:Cx)(G:Gx)(F:Fy)(ifs:List bn)(m:M Bool):Prop:=PTs X ifs (tMB G F m)
def z6C{K:W.Frag}{k:Nat}{ix:List Nat}{mi:M ItK}{g:Tg}{mt:M Bool}{me:M D}{σ:St}{H:Hp}{Q:VK}(hk:K=G.K)(h:tM G F (Y7 mi g mt me k ix) σ H Q):z8k K (tI G F mi) (tGx G g) (tBx G mt) (tMx G me) k ix σ H Q:=by
 obtain⟨tv,hsf,ρ,s,M,W⟩:=h
 refine⟨tv,hsf,ρ,s,M, ?_⟩
 unfold Y7 bd at W
 cases em:mi s with
 |ex d s1=>rw[em] at W;exact W
 |no=>rw[em] at W;exact W
 |ok K s1=>
  rw[em] at W
  intro ρ1 H1 tvs J hl M1 hok A1 hA1 kd
  subst hk
  have kd:KD G.K (upd H1 A1 (.lst [])):=kd
  have hf:=M1.fresh0 hA1
  refine⟨λi m ys σ' H'=> ∃ρ s,MR G (F.prot A1 ys hf).toFx ρ H' σ' ((ys.reverse.map some)++(σ++(tvs++tv))) s/\wM G F σ tv (z00 K g mt me s1.σ.length m i ys.length s) Q,⟨_,ρ1,_,M1.enter hA1 kd k ix,W⟩, ?_⟩
  rintro i m ys σ' H' ⟨ρ2,s2,M2,W2⟩
  have hD:=(MR.turnD (ys':=ys) M2).1
  refine⟨hD, ?_⟩
  have ol:s1.σ.length=σ.length:=M1.sl.length
  have ok:=hok (F.prot A1 ys hf).toFx ρ2 H' σ' ((ys.reverse.map some)++σ) tv s2 i (by rw[A2];exact M2)
  simp only[n8,i5,F2,<-ol,A2] at ok
  unfold z00 at W2
  cases e:K.at' i (s2.tm.drop (ys.length+s1.σ.length)) with
  |none=>erw[e] at W2;exact False.elim W2
  |some o=>
   rw[e] at ok
   cases o with
   |none=>
    erw[e] at W2 ok
    refine .inl ⟨ok, ?_⟩
    cases ea:Y6 (s2.tm.take ys.length).reverse with
    |none=>erw[ea] at W2;exact False.elim W2
    |some ds=>
     erw[ea] at W2
     exact W2 _ _ _ (MR.leave M2 hl _ ol.symm ea)
   |some d=>
    erw[e] at W2 ok
    cases m with
    |zero=>exact False.elim W2
    |succ f=>
     dsimp only at W2
     cases e2:asg g d s2.σ with
     |none=>erw[e2] at W2;exact False.elim W2
     |some σ3=>
      erw[e2] at W2
      refine .inr ⟨ok.1,λx H2 y=> ?_⟩
      have hx:=ok.2 x H2 y
      refine⟨F.prot A1 ys hf,_,ρ2,s2,d,hx,σ3,e2,λ σv' M3=>⟨F.prot A1 ys hf,_,N3,ρ2,_,M3, ?_⟩⟩
      cases e3:mt {s2 with σ:=σ3} with
      |ex d s4=>erw[e3] at W2;exact False.elim W2
      |no=>erw[e3] at W2;exact False.elim W2
      |ok b s4=>
       intro ρ4 H4 M4
       cases b with
       |false=>
        erw[e3] at W2
        rw[qh n9]
        exact⟨f,m8 _,ρ4,s4,M4,W2⟩
       |true=>
        erw[e3] at W2
        rw[qy rfl]
        by_cases hz:ys.length<qg
        .rw[qy hz] at W2
         refine⟨F.prot A1 ys hf,_,N3,ρ4,s4,M4, ?_⟩
         cases e5:me s4 with
         |ex d s5=>erw[e5] at W2;exact False.elim W2
         |no=>erw[e5] at W2;exact False.elim W2
         |ok y s5=>
          erw[e5] at W2
          intro ρ5 v H5 M5
          obtain⟨hD5,M6⟩:=MR.turnD (ys':=ys++[v]) M5.push
          refine⟨hD5,hz,f,m8 _,ρ5,s5.psh y, ?_, ?_⟩
          .rw[F3,A9,L8,l5,B1]
           exact M6
          .rw[n8];exact W2
        .rw[qh hz] at W2;exact False.elim W2
end
mutual
def Q0(l:Nat):D->Option D
 | .tup ds=>findL l ds
 | .ro ds=>findL l ds
 | .fdc _ vs=>findL l vs
 | .lst k ds=>if k=l then some (.lst k ds) else findL l ds
 | .dct k ks vs=>if k=l then some (.dct k ks vs) else findL l vs
 | .obj k c ns vs=>if k=l then some (.obj k c ns vs) else findL l vs
 | .non=>none| .bool _=>none| .int _=>none| .str _=>none| .exc _=>none| .fn _=>none
def findL(l:Nat):List D->Option D
 |[]=>none
 |d::ds=>match Q0 l d with
  |some x=>some x
  |none=>findL l ds
end
section
variable{G:Gx}{ρ:Nat->Addr}{H:Hp}
mutual
theorem zaH(l:Nat): ∀(t:D) (v:V) (d:D),RD G ρ H t v->Q0 l t=some d->RD G ρ H d (.ref (ρ l))/\∀k∈qq d,k∈qq t
 | .non,v,d,h,e=>by erw[Q0] at e;cases e
 | .bool b,v,d,h,e=>by erw[Q0] at e;cases e
 | .int b,v,d,h,e=>by erw[Q0] at e;cases e
 | .str b,v,d,h,e=>by erw[Q0] at e;cases e
 | .exc b,v,d,h,e=>by erw[Q0] at e;cases e
 | .fn b,v,d,h,e=>by erw[Q0] at e;cases e
 | .tup ds,v,d,h,e=>by
  erw[Q0,RD,qq] at h e⊢
  obtain⟨a,xs,_,_,r⟩:=h
  exact findL_rd l ds xs d r e
 | .ro ds,v,d,h,e=>by
  erw[Q0,RD,qq] at h e⊢
  obtain⟨a,xs,_,_,r⟩:=h
  exact findL_rd l ds xs d r e
 | .fdc ks vs,v,d,h,e=>by
  erw[Q0,RD,qq] at h e⊢
  obtain⟨a,o,u,xs,_,_,_,r⟩:=h
  exact findL_rd l vs _ d r e
 | .lst k ds,v,d,h,e=>by
  erw[Q0] at e
  by_cases hk:k=l
  .rw[qy hk] at e;cases e
   subst hk
   have h':=h
   erw[RD] at h'
   obtain⟨rfl,_⟩:=h'
   exact⟨h,λ_ q=>q⟩
  .rw[qh hk] at e
   erw[RD] at h
   obtain⟨_,xs,_,r⟩:=h
   obtain⟨q1,q2⟩:=findL_rd l ds xs d r e
   exact⟨q1,λj hj=>by erw[qq];exact b7 _ (q2 j hj)⟩
 | .dct k ks vs,v,d,h,e=>by
  erw[Q0] at e
  by_cases hk:k=l
  .rw[qy hk] at e;cases e
   subst hk
   have h':=h
   erw[RD] at h'
   obtain⟨rfl,_⟩:=h'
   exact⟨h,λ_ q=>q⟩
  .rw[qh hk] at e
   erw[RD] at h
   obtain⟨_,⟨kvs,_,_,r⟩|⟨kvs,_,_,r⟩⟩:=h
   .obtain⟨q1,q2⟩:=findL_rd l vs _ d r e
    exact⟨q1,λj hj=>by erw[qq];exact b7 _ (b6 _ (q2 j hj))⟩
   .obtain⟨q1,q2⟩:=findL_rd l vs _ d r e
    exact⟨q1,λj hj=>by erw[qq];exact b7 _ (b6 _ (q2 j hj))⟩
 | .obj k c ns vs,v,d,h,e=>by
  erw[Q0] at e
  by_cases hk:k=l
  .rw[qy hk] at e;cases e
   subst hk
   have h':=h
   erw[RD] at h'
   obtain⟨rfl,_⟩:=h'
   exact⟨h,λ_ q=>q⟩
  .rw[qh hk] at e
   erw[RD] at h
   obtain⟨_,C,dx,fs,_,_,_,r⟩:=h
   obtain⟨q1,q2⟩:=findL_rd l vs _ d r e
   exact⟨q1,λj hj=>by erw[qq];exact b7 _ (q2 j hj)⟩
theorem findL_rd(l:Nat): ∀(t:List D) (v:List V) (d:D),RDs G ρ H t v->findL l t=some d->RD G ρ H d (.ref (ρ l))/\∀k∈qq d,k∈qx t
 |[],v,d,h,e=>by erw[findL] at e;cases e
 |t::ts,v,d,h,e=>by
  erw[findL,RDs,qx] at h e⊢
  obtain⟨x,r,_,h1,h2⟩:=h
  cases e1:Q0 l t with
  |some y=>
   rw[e1] at e;cases e
   obtain⟨q1,q2⟩:=zaH l t x _ h1 e1
   exact⟨q1,λj hj=>e6 _ (q2 j hj)⟩
  |none=>
   rw[e1] at e
   obtain⟨q1,q2⟩:=findL_rd l ts r d h2 e
   exact⟨q1,λj hj=>b6 _ (q2 j hj)⟩
end
def roL_two(k:KD K H)(h:RoL K H a xs)(h':RoL K H a ys):xs=ys:=SqL.two k h.sq h'.sq
def z6D(G:Gx)(H:Hp)(a:Addr):Nat->Prop
 |0=> ∃xs,SqT G.K H a xs
 |1=> ∃xs,RoL G.K H a xs
 |2=> ∃xs,H a=some (.lst xs)
 |3=>(∃kvs,H a=some (.dK kvs))\/∃kvs,H a=some (.dT kvs)
 |4=> ∃C dx fs,H a=some (.ins C dx fs)
 |5=> ∃o φ,H a=some (.frz o (.ext φ))
 |6=> ∃c,G.cl c=some a
 |_=> ∃o u,H a=some (.frz o u)/\((∃kvs,u= .dK kvs)\/∃kvs,u= .dT kvs)
open Classical in
def kd(K:W.Frag)(H:Hp)(a:Addr):Nat:=match H a with
 |some (.tup _)=>0|some (.frz _ (.tup _))=>0|some (.frz _ (.lst _))=>1|some (.lst _)=>2|some (.dK _)=>3|some (.dT _)=>3|some (.ins _ _ _)=>4|some (.frz _ (.ext _))=>5|some (.frz _ (.dT _))=>7|some (.frz _ (.dK _))=>7
 |some _=>9
 |none=>match K.lookup a with
  |some o=>if(∃its n,o.data= .seq its n) then(if o.cls= .type "tuple" then 0 else 1) else 6
  |none=>8
def kd_at{a:Addr}(k:KD G.K H): ∀{i:Nat},z6D G H a i->i<=7->kd G.K H a=i:=by
 have tl: ¬((.type "list" :bb)= .type "tuple"):=by intro h;injection h with h;exact absurd h (by decide)
 intro i hi li
 match i,hi,li with
 |0,⟨xs,h⟩,_=>
  rcases h with(h|⟨o,h⟩)|⟨o,its,n,h,hc,hd,_⟩
  .delta kd;rw[h]
  .delta kd;rw[h]
  .delta kd;rw[k _ _ h];dsimp only;rw[h];dsimp only;rw[qy ⟨its,n,hd⟩,qy hc]
 |1,⟨xs,h⟩,_=>
  rcases h with⟨o,h⟩|⟨o,its,n,h,hc,_,hd,_⟩
  .delta kd;rw[h]
  .delta kd;rw[k _ _ h];dsimp only;rw[h];dsimp only;rw[qy ⟨its,n,hd⟩,qh (by rw[hc];exact tl)]
 |2,⟨xs,h⟩,_=>delta kd;rw[h]
 |3,h,_=>rcases h with⟨_,h⟩|⟨_,h⟩<;>(delta kd;rw[h])
 |4,⟨_,_,_,h⟩,_=>delta kd;rw[h]
 |5,⟨_,_,h⟩,_=>delta kd;rw[h]
 |6,⟨c,h⟩,_=>
  obtain⟨o,h1,h2⟩:=G.ck c a h
  delta kd;rw[k _ _ h1];dsimp only;rw[h1];dsimp only;rw[qh (λ⟨its,n,q⟩=>h2 its n q)]
 |7,⟨_,_,h,e⟩,_=>rcases e with⟨_,e⟩|⟨_,e⟩<;>(delta kd;rw[h,e])
 |n+8,_,li=>lia
def zaI(k:KD G.K H){i j:Nat}(hi:z6D G H a i)(hj:z6D G H a j)(li:i<=7)(lj:j<=7):i=j:=(kd_at k hi li).symm.trans (kd_at k hj lj)
def ix:D->Nat
 | .tup _=>0| .ro _=>1| .lst _ _=>2| .dct _ _ _=>3| .obj _ _ _ _=>4| .exc _=>5| .fn _=>6| .fdc _ _=>7|_=>8
def flD:V->D
 | .bl b=> .bool b| .int b=> .int b| .str b=> .str b|_=> .non
def RD.kind(h:RD G ρ H t v):(t=flD v/\∀a,v≠ .ref a)\/∃a,v= .ref a/\ix t<=7/\z6D G H a (ix t):=by
 cases t<;>erw[RD] at h
 .exact .inl (by rw[h];exact⟨rfl,nofun⟩)
 .exact .inl (by rw[h];exact⟨rfl,nofun⟩)
 .exact .inl (by rw[h];exact⟨rfl,nofun⟩)
 .exact .inl (by rw[h];exact⟨rfl,nofun⟩)
 .obtain⟨a',xs,e,s,r⟩:=h;exact .inr ⟨a',e,A6 rfl,xs,SqT.of s⟩
 .obtain⟨a',xs,e,s,r⟩:=h;exact .inr ⟨a',e,A6 rfl,xs,s⟩
 .obtain⟨e,xs,s,r⟩:=h;exact .inr ⟨_,e,A6 rfl,xs,s⟩
 .obtain⟨e,⟨kvs,s,_⟩|⟨kvs,s,_⟩⟩:=h
  .exact .inr ⟨_,e,A6 rfl, .inl ⟨kvs,s⟩⟩
  .exact .inr ⟨_,e,A6 rfl, .inr ⟨kvs,s⟩⟩
 .obtain⟨e,C,dx,fs,_,s,_⟩:=h;exact .inr ⟨_,e,A6 rfl,C,dx,fs,s⟩
 .obtain⟨a',o,C,e,_,_,_,s⟩:=h;exact .inr ⟨a',e,A6 rfl,o,_,s⟩
 .obtain⟨a',e,s⟩:=h;exact .inr ⟨a',e,A6 rfl,_,s⟩
 .obtain⟨a',o,u,xs,e,s,f,_⟩:=h
  refine .inr ⟨a',e,A6 rfl,o,u,s, ?_⟩
  obtain⟨kvs,e,_⟩|⟨kvs,e,_⟩:=f
  .exact .inl ⟨kvs,e⟩
  .exact .inr ⟨kvs,e⟩
def ix0(h:ix t=0): ∃ds,t= .tup ds:=by cases t<;>first|exact⟨_,rfl⟩|cases h
def ix1(h:ix t=1): ∃ds,t= .ro ds:=by cases t<;>first|exact⟨_,rfl⟩|cases h
def ix2(h:ix t=2): ∃l ds,t= .lst l ds:=by cases t<;>first|exact⟨_,_,rfl⟩|cases h
def ix3(h:ix t=3): ∃l ks vs,t= .dct l ks vs:=by cases t<;>first|exact⟨_,_,_,rfl⟩|cases h
def ix4(h:ix t=4): ∃l c ns vs,t= .obj l c ns vs:=by cases t<;>first|exact⟨_,_,_,_,rfl⟩|cases h
def ix5(h:ix t=5): ∃c,t= .exc c:=by cases t<;>first|exact⟨_,rfl⟩|cases h
def ix6(h:ix t=6): ∃c,t= .fn c:=by cases t<;>first|exact⟨_,rfl⟩|cases h
def ix7(h:ix t=7): ∃ks vs,t= .fdc ks vs:=by cases t<;>first|exact⟨_,_,rfl⟩|cases h
def RD.ixE(k:KD G.K H)(h:RD G ρ H t v)(h':RD G ρ H t' v):t=t'\/ix t=ix t':=by
 rcases RD.kind h with⟨e,n⟩|⟨a,e,l,q⟩<;>rcases RD.kind h' with⟨e',n'⟩|⟨a',e',l',q'⟩
 .exact .inl (e.trans e'.symm)
 .exact absurd e' (n _)
 .exact absurd e (n' _)
 .cases e.symm.trans e';exact .inr (zaI k q q' l l')
section
variable(k:KD G.K H){n:Nat}(inj: ∀i j,i<n->j<n->ρ i=ρ j->i=j)
include k inj
mutual
theorem RD.uniq: ∀(t t':D) (v:V),RD G ρ H t v->RD G ρ H t' v->(∀l∈qq t,l<n)->(∀l∈qq t',l<n)->t=t'
 | .non,t',v,h,h',_,_=>(RD.kind h').elim (λe=>by erw[RD] at h;subst h;exact e.1.symm) λ⟨_,e,_⟩=>by erw[RD] at h;subst h;cases e
 | .bool b,t',v,h,h',_,_=>(RD.kind h').elim (λe=>by erw[RD] at h;subst h;exact e.1.symm) λ⟨_,e,_⟩=>by erw[RD] at h;subst h;cases e
 | .int b,t',v,h,h',_,_=>(RD.kind h').elim (λe=>by erw[RD] at h;subst h;exact e.1.symm) λ⟨_,e,_⟩=>by erw[RD] at h;subst h;cases e
 | .str b,t',v,h,h',_,_=>(RD.kind h').elim (λe=>by erw[RD] at h;subst h;exact e.1.symm) λ⟨_,e,_⟩=>by erw[RD] at h;subst h;cases e
 | .exc c,t',v,h,h',lb,lb'=>by
  rcases RD.ixE k h h' with e|e
  .exact e
  obtain⟨c',rfl⟩:=ix5 e.symm
  erw[RD] at h h'
  obtain⟨a,o,C,rfl,h1,h2,_,s⟩:=h
  obtain⟨a',o',C',e,h1',h2',_,s'⟩:=h'
  cases e
  rw[s] at s';cases s'
  rw[h2] at h2';cases h2'
  rw[G.ci c c' C h1 h1']
 | .fn c,t',v,h,h',lb,lb'=>by
  rcases RD.ixE k h h' with e|e
  .exact e
  obtain⟨c',rfl⟩:=ix6 e.symm
  erw[RD] at h h'
  obtain⟨a,rfl,h1⟩:=h
  obtain⟨a',e,h1'⟩:=h'
  cases e
  rw[G.ci c c' a h1 h1']
 | .tup ds,t',v,h,h',lb,lb'=>by
  rcases RD.ixE k h h' with e|e
  .exact e
  obtain⟨es,rfl⟩:=ix0 e.symm
  obtain⟨a,xs,rfl,s,r⟩:=h.tupq
  obtain⟨a',ys,e,s',r'⟩:=h'.tupq
  cases e
  cases SqT.two k s s'
  rw[RDs.uniq ds es xs r r' lb lb']
 | .fdc ks vs,t',v,h,h',lb,lb'=>by
  rcases RD.ixE k h h' with e|e
  .exact e
  obtain⟨ks',vs',rfl⟩:=ix7 e.symm
  erw[RD] at h h'
  obtain⟨a,o,u,xs,rfl,s,s2,r⟩:=h
  obtain⟨a',o',u',xs',e,s',s2',r'⟩:=h'
  cases e
  rw[s] at s';cases s'
  obtain⟨rfl,rfl⟩:=s2.one s2'
  rw[RDs.uniq vs vs' _ r r' lb lb']
 | .ro ds,t',v,h,h',lb,lb'=>by
  rcases RD.ixE k h h' with e|e
  .exact e
  obtain⟨es,rfl⟩:=ix1 e.symm
  erw[RD] at h h'
  obtain⟨a,xs,rfl,s,r⟩:=h
  obtain⟨a',ys,e,s',r'⟩:=h'
  cases e
  cases roL_two k s s'
  rw[RDs.uniq ds es xs r r' lb lb']
 | .lst l ds,t',v,h,h',lb,lb'=>by
  rcases RD.ixE k h h' with e|e
  .exact e
  obtain⟨l',es,rfl⟩:=ix2 e.symm
  erw[RD] at h h'
  obtain⟨rfl,xs,s,r⟩:=h
  obtain⟨e,ys,s',r'⟩:=h'
  cases inj l l' (lb l (.head _)) (lb' l' (.head _)) (V.ref.inj e)
  rw[s] at s';cases s'
  rw[RDs.uniq ds es xs r r' (λj hj=>lb j (.tail _ hj)) λj hj=>lb' j (.tail _ hj)]
 | .dct l ks vs,t',v,h,h',lb,lb'=>by
  rcases RD.ixE k h h' with e|e
  .exact e
  obtain⟨l',ks',vs',rfl⟩:=ix3 e.symm
  erw[RD] at h h'
  obtain⟨rfl,q⟩:=h
  obtain⟨e,q'⟩:=h'
  cases inj l l' (lb l (.head _)) (lb' l' (.head _)) (V.ref.inj e)
  have b1: ∀j∈qx vs,j<n:=λj hj=>lb j (.tail _ (b6 _ hj))
  have b2: ∀j∈qx vs',j<n:=λj hj=>lb' j (.tail _ (b6 _ hj))
  rcases q with⟨kvs,s,s2,r⟩|⟨kvs,s,s2,r⟩<;>rcases q' with⟨kvs',s',s2',r'⟩|⟨kvs',s',s2',r'⟩<;>rw[s] at s'<;>cases s'
  .rw[s2,s2',RDs.uniq vs vs' _ r r' b1 b2]
  .rw[s2,s2',RDs.uniq vs vs' _ r r' b1 b2]
 | .obj l c ns vs,t',v,h,h',lb,lb'=>by
  rcases RD.ixE k h h' with e|e
  .exact e
  obtain⟨l',c',ns',vs',rfl⟩:=ix4 e.symm
  erw[RD] at h h'
  obtain⟨rfl,C,dx,fs,hC,s,s2,r⟩:=h
  obtain⟨e,C',dx',fs',hC',s',s2',r'⟩:=h'
  cases inj l l' (lb l (.head _)) (lb' l' (.head _)) (V.ref.inj e)
  rw[s] at s';cases s'
  rw[s2,s2',G.ci c c' C hC hC',RDs.uniq vs vs' _ r r' (λj hj=>lb j (.tail _ hj)) λj hj=>lb' j (.tail _ hj)]
theorem RDs.uniq: ∀(t t':List D) (v:List V),RDs G ρ H t v->RDs G ρ H t' v->(∀l∈qx t,l<n)->(∀l∈qx t',l<n)->t=t'
 |[],t',v,h,h',_,_=>by
  erw[RDs] at h;subst h
  cases t' with
  |nil=>rfl
  |cons d ds=>erw[RDs] at h';obtain⟨_,_,e,_⟩:=h';cases e
 |d::ds,t',v,h,h',lb,lb'=>by
  erw[RDs] at h
  obtain⟨x,q,rfl,h1,h2⟩:=h
  cases t' with
  |nil=>erw[RDs] at h';cases h'
  |cons d' ds'=>
   erw[RDs] at h'
   obtain⟨_,_,e,h1',h2'⟩:=h'
   cases e
   rw[RD.uniq d d' x h1 h1' (λl hl=>lb l (by erw[qx];exact e6 _ hl)) λl hl=>lb' l (by erw[qx];exact e6 _ hl),
    RDs.uniq ds ds' q h2 h2' (λl hl=>lb l (by erw[qx];exact b6 _ hl)) λl hl=>lb' l (by erw[qx];exact b6 _ hl)]
end
end
end
open PySem.Spec PyProof.Rows
inductive RF where
 |ok (t:D) (ts:List D) (n:Nat)|ex (d:D) (ts:List D) (n:Nat)|no
abbrev FM:=List D->Nat->RF
structure z7c(G:Gx)(ρ:Nat->Addr)(n:Nat)(ts:List D)(vs:List V)(H:Hp)(ρ':Nat->Addr)(n':Nat)(ts':List D)(H':Hp):Prop where
 old: ∀l,l<n->ρ' l=ρ l
 le:n<=n'
 inj: ∀i j,i<n'->j<n'->ρ' i=ρ' j->i=j
 dom: ∀l,l<n'->∃o,H' (ρ' l)=some o
 rd:RDs G ρ' H' ts' vs
 lb: ∀l∈qx ts',l<n'/\(l<n->l∈qx ts)
 fr: ∀a o,H a=some o->(∃o',H' a=some o')/\((∀l∈qx ts,a≠ρ l)->H' a=some o)
 new: ∀l,n<=l->l<n'->H (ρ' l)=none
 kd:KD G.K H'
section
variable{G:Gx}{ρ ρ':Nat->Addr}{H H':Hp}
def z8G(k:Key):qq (X3 k)=[]:=by cases k<;>erw[X3,qq]
theorem z8H: ∀ks:List Key,qx (ks.map X3)=[]
 |[]=>by erw[l0,qx]
 |k::ks=>by erw[b8,qx,z8G,z8H ks,e8]
def z62(z:Key⊕List Key):qq (nkD z)=[]:=by
 cases z with
 |inl k=>exact z8G k
 |inr ks=>erw[nkD,qq,z8H]
mutual
theorem z8I: ∀(t:D) (v:V),RD G ρ H t v->∀l∈qq t,∃o,H (ρ l)=some o/\(∀xs,o≠ .tup xs)/\∀u w,o≠ .frz u w
 | .non,v,h,l,hl=>by erw[qq] at hl;cases hl
 | .bool b,v,h,l,hl=>by erw[qq] at hl;cases hl
 | .int b,v,h,l,hl=>by erw[qq] at hl;cases hl
 | .str b,v,h,l,hl=>by erw[qq] at hl;cases hl
 | .exc b,v,h,l,hl=>by erw[qq] at hl;cases hl
 | .fn b,v,h,l,hl=>by erw[qq] at hl;cases hl
 | .tup ds,v,h,l,hl=>by
  erw[qq,RD] at h hl
  obtain⟨a,xs,_,_,r⟩:=h
  exact labL_mut ds xs r l hl
 | .fdc ks vs,v,h,l,hl=>by
  erw[qq,RD] at h hl
  obtain⟨a,o,u,xs,_,_,_,r⟩:=h
  exact labL_mut vs _ r l hl
 | .ro ds,v,h,l,hl=>by
  erw[qq,RD] at h hl
  obtain⟨a,xs,_,_,r⟩:=h
  exact labL_mut ds xs r l hl
 | .lst k ds,v,h,l,hl=>by
  erw[qq,RD] at h hl
  obtain⟨_,xs,s,r⟩:=h
  rcases c8.mp hl with rfl|hl
  .exact⟨_,s,(λ_ q=>nomatch q),(λ_ _ q=>nomatch q)⟩
  .exact labL_mut ds xs r l hl
 | .dct k ks vs,v,h,l,hl=>by
  erw[qq,RD] at h hl
  obtain⟨_,⟨kvs,s,s2,r⟩|⟨kvs,s,s2,r⟩⟩:=h
  .rcases c8.mp hl with rfl|hl
   .exact⟨_,s,(λ_ q=>nomatch q),(λ_ _ q=>nomatch q)⟩
   .rcases e9.mp hl with hl|hl
    .rw[s2] at hl
     obtain⟨d,hd,hl⟩:=K2 hl
     rcases c8.mp hd with rfl|hd
     .erw[qq] at hl;cases hl
     obtain⟨p,_,rfl⟩:=i0.mp hd
     obtain⟨kk,_⟩:=p
     cases kk<;>erw[X3,qq] at hl<;>cases hl
    .exact labL_mut vs _ r l hl
  .rcases c8.mp hl with rfl|hl
   .exact⟨_,s,(λ_ q=>nomatch q),(λ_ _ q=>nomatch q)⟩
   .rcases e9.mp hl with hl|hl
    .rw[s2] at hl
     obtain⟨d,hd,hl⟩:=K2 hl
     obtain⟨p,_,rfl⟩:=i0.mp hd
     erw[dkD,qq] at hl
     obtain⟨d,hd,hl⟩:=K2 hl
     obtain⟨kk,_,rfl⟩:=i0.mp hd
     rw[z62] at hl;cases hl
    .exact labL_mut vs _ r l hl
 | .obj k c ns vs,v,h,l,hl=>by
  erw[qq,RD] at h hl
  obtain⟨_,C,dx,fs,_,s,_,r⟩:=h
  rcases c8.mp hl with rfl|hl
  .exact⟨_,s,(λ_ q=>nomatch q),(λ_ _ q=>nomatch q)⟩
  .exact labL_mut vs _ r l hl
theorem labL_mut: ∀(t:List D) (v:List V),RDs G ρ H t v->∀l∈qx t,∃o,H (ρ l)=some o/\(∀xs,o≠ .tup xs)/\∀u w,o≠ .frz u w
 |[],v,h,l,hl=>by erw[qx] at hl;cases hl
 |d::ds,v,h,l,hl=>by
  erw[qx,RDs] at h hl
  obtain⟨x,r,_,h1,h2⟩:=h
  rcases e9.mp hl with hl|hl
  .exact z8I d x h1 l hl
  .exact labL_mut ds r h2 l hl
end
def z7d{kvs:List (Key×V)}{l:Nat}(hl:l∈qx (kvs.map λp=>X3 p.1)):False:=by
 obtain⟨d,hd,hl⟩:=K2 hl
 obtain⟨p,_,rfl⟩:=i0.mp hd
 obtain⟨kk,_⟩:=p
 cases kk<;>erw[X3,qq] at hl<;>cases hl
def z63{kvs:List (NK×V)}{l:Nat}(hl:l∈qx (kvs.map λp=>dkD p.1)):False:=by
 obtain⟨d,hd,hl⟩:=K2 hl
 obtain⟨p,_,rfl⟩:=i0.mp hd
 erw[dkD,qq] at hl
 obtain⟨d,hd,hl⟩:=K2 hl
 obtain⟨kk,_,rfl⟩:=i0.mp hd
 rw[z62] at hl;cases hl
mutual
theorem z7e(l:Nat): ∀(t:D) (v:V),RD G ρ H t v->l∈qq t->(Q0 l t).isSome=true
 | .non,v,h,hl=>by erw[qq] at hl;cases hl
 | .bool b,v,h,hl=>by erw[qq] at hl;cases hl
 | .int b,v,h,hl=>by erw[qq] at hl;cases hl
 | .str b,v,h,hl=>by erw[qq] at hl;cases hl
 | .exc b,v,h,hl=>by erw[qq] at hl;cases hl
 | .fn b,v,h,hl=>by erw[qq] at hl;cases hl
 | .tup ds,v,h,hl=>by
  erw[qq,RD,Q0] at h hl⊢
  obtain⟨a,xs,_,_,r⟩:=h
  exact findL_some l ds xs r hl
 | .fdc ks vs,v,h,hl=>by
  erw[qq,RD,Q0] at h hl⊢
  obtain⟨a,o,u,xs,_,_,_,r⟩:=h
  exact findL_some l vs _ r hl
 | .ro ds,v,h,hl=>by
  erw[qq,RD,Q0] at h hl⊢
  obtain⟨a,xs,_,_,r⟩:=h
  exact findL_some l ds xs r hl
 | .lst k ds,v,h,hl=>by
  erw[qq,RD,Q0] at h hl⊢
  obtain⟨_,xs,s,r⟩:=h
  by_cases e:k=l
  .rw[qy e];rfl
  .rw[qh e]
   rcases c8.mp hl with q|q
   .exact absurd q.symm e
   .exact findL_some l ds xs r q
 | .dct k ks vs,v,h,hl=>by
  erw[qq,RD,Q0] at h hl⊢
  obtain⟨_,⟨kvs,s,s2,r⟩|⟨kvs,s,s2,r⟩⟩:=h
  .by_cases e:k=l
   .rw[qy e];rfl
   .rw[qh e]
    rcases c8.mp hl with q|q
    .exact absurd q.symm e
    .rcases e9.mp q with q|q
     .rw[s2] at q;exact(z7d q).elim
     .exact findL_some l vs _ r q
  .by_cases e:k=l
   .rw[qy e];rfl
   .rw[qh e]
    rcases c8.mp hl with q|q
    .exact absurd q.symm e
    .rcases e9.mp q with q|q
     .rw[s2] at q;exact(z63 q).elim
     .exact findL_some l vs _ r q
 | .obj k c ns vs,v,h,hl=>by
  erw[qq,RD,Q0] at h hl⊢
  obtain⟨_,C,dx,fs,_,s,_,r⟩:=h
  by_cases e:k=l
  .rw[qy e];rfl
  .rw[qh e]
   rcases c8.mp hl with q|q
   .exact absurd q.symm e
   .exact findL_some l vs _ r q
theorem findL_some(l:Nat): ∀(t:List D) (v:List V),RDs G ρ H t v->l∈qx t->(findL l t).isSome=true
 |[],v,h,hl=>by erw[qx] at hl;cases hl
 |d::ds,v,h,hl=>by
  erw[qx,RDs,findL] at h hl⊢
  obtain⟨x,r,_,h1,h2⟩:=h
  cases e:Q0 l d with
  |some y=>rfl
  |none=>
   rcases e9.mp hl with q|q
   .have:=z7e l d x h1 q
    rw[e] at this;cases this
   .exact findL_some l ds r h2 q
end
def z7c.stays{n n':Nat}(P:z7c G ρ n ts vs H ρ' n' ts' H')(r:RDs G ρ H ts vs):G5 H H':=by
 refine⟨λb xs e=>(P.fr b _ e).2 λl hl z=> ?_,λb o u e=>(P.fr b _ e).2 λl hl z=> ?_⟩
 .obtain⟨o,q,q1,_⟩:=labL_mut ts vs r l hl
  rw[<-z,e] at q;cases q;exact q1 _ rfl
 .obtain⟨o,q,_,q1⟩:=labL_mut ts vs r l hl
  rw[<-z,e] at q;cases q;exact q1 _ _ rfl
section
variable(k:KD G.K H){n:Nat}(inj: ∀i j,i<n->j<n->ρ i=ρ j->i=j){ts:List D}{vs:List V}(r:RDs G ρ H ts vs)(lb: ∀l∈qx ts,l<n)
include k inj r lb
mutual
theorem z3E: ∀(t:D) (v:V),RD G ρ H t v->(∀l∈qq t,l<n)->rp (λl=>findL l ts) t=t
 | .non,v,h,hl=>rfl
 | .bool b,v,h,hl=>rfl
 | .int b,v,h,hl=>rfl
 | .str b,v,h,hl=>rfl
 | .exc b,v,h,hl=>rfl
 | .fn b,v,h,hl=>rfl
 | .tup ds,v,h,hl=>by
  erw[qq,RD,rp] at h hl⊢
  obtain⟨a,xs,_,_,r1⟩:=h
  rw[rpL_find_id ds xs r1 hl]
 | .fdc ks vs,v,h,hl=>by
  erw[qq,RD,rp] at h hl⊢
  obtain⟨a,o,u,xs,_,_,_,r1⟩:=h
  rw[rpL_find_id vs _ r1 hl]
 | .ro ds,v,h,hl=>by
  erw[qq,RD,rp] at h hl⊢
  obtain⟨a,xs,_,_,r1⟩:=h
  rw[rpL_find_id ds xs r1 hl]
 | .lst l ds,v,h,hl=>by
  erw[rp]
  cases e:findL l ts with
  |some d=>
   dsimp only
   obtain⟨q1,q2⟩:=findL_rd l ts vs d r e
   have h':=h
   erw[RD] at h'
   obtain⟨rfl,_⟩:=h'
   exact RD.uniq k inj _ _ _ q1 h (λj hj=>lb j (q2 j hj)) hl
  |none=>
   dsimp only
   erw[qq,RD] at h hl
   obtain⟨_,xs,s,r1⟩:=h
   rw[rpL_find_id ds xs r1 λj hj=>hl j (b7 _ hj)]
 | .dct l ks vs',v,h,hl=>by
  erw[rp]
  cases e:findL l ts with
  |some d=>
   dsimp only
   obtain⟨q1,q2⟩:=findL_rd l ts vs d r e
   have h':=h
   erw[RD] at h'
   obtain⟨rfl,_⟩:=h'
   exact RD.uniq k inj _ _ _ q1 h (λj hj=>lb j (q2 j hj)) hl
  |none=>
   dsimp only
   erw[qq,RD] at h hl
   obtain⟨_,⟨kvs,s,s2,r1⟩|⟨kvs,s,s2,r1⟩⟩:=h
   .rw[rpL_find_id vs' _ r1 λj hj=>hl j (b7 _ (b6 _ hj))]
   .rw[rpL_find_id vs' _ r1 λj hj=>hl j (b7 _ (b6 _ hj))]
 | .obj l c ns vs',v,h,hl=>by
  erw[rp]
  cases e:findL l ts with
  |some d=>
   dsimp only
   obtain⟨q1,q2⟩:=findL_rd l ts vs d r e
   have h':=h
   erw[RD] at h'
   obtain⟨rfl,_⟩:=h'
   exact RD.uniq k inj _ _ _ q1 h (λj hj=>lb j (q2 j hj)) hl
  |none=>
   dsimp only
   erw[qq,RD] at h hl
   obtain⟨_,C,dx,fs,_,s,_,r1⟩:=h
   rw[rpL_find_id vs' _ r1 λj hj=>hl j (b7 _ hj)]
theorem rpL_find_id: ∀(t:List D) (v:List V),RDs G ρ H t v->(∀l∈qx t,l<n)->rpL (λl=>findL l ts) t=t
 |[],v,h,hl=>rfl
 |d::ds,v,h,hl=>by
  erw[qx,RDs,rpL] at h hl⊢
  obtain⟨x,q,_,h1,h2⟩:=h
  rw[z3E d x h1 λj hj=>hl j (e6 _ hj),rpL_find_id ds q h2 λj hj=>hl j (b6 _ hj)]
end
theorem z0u: ∀(t:List (Option D)) (v:List (Option V)),Sl G ρ H t v->(∀l∈Z4 t,l<n)->rpO (λl=>findL l ts) t=t
 |[],v,h,hl=>rfl
 |none::r',v,h,hl=>by
  erw[Z4,Sl,rpO] at h hl⊢
  obtain⟨o,q,_,h⟩:=h
  rw[z0u r' q h hl]
 |some d::ds,v,h,hl=>by
  erw[Z4,Sl,rpO] at h hl⊢
  obtain⟨x,q,_,h1,h2⟩:=h
  rw[z3E k inj r lb d x h1 λj hj=>hl j (e6 _ hj),z0u ds q h2 λj hj=>hl j (b6 _ hj)]
end
variable{F:Fy}{σv tv:List (Option V)}{s:Stt}{np:Nat}
def MR.call{n':Nat}(M:MR G F.toFx ρ H σv tv s)(r:RDs G ρ H ts vs)(lb:LB F.toFx ρ s.n (qx ts))(P:z7c G ρ s.n ts vs H ρ' n' ts' H')
 (hc: ∀l∈J2 s,l∈qx ts->(findL l ts').isSome=true):MR G F.toFx ρ' H' σv tv {σ:=rpO (λl=>findL l ts') s.σ,tm:=rpO (λl=>findL l ts') s.tm,n:=n'}:=by
 have st:=P.stays r
 have step: ∀l∈J2 s,ρ' l=ρ l/\(match findL l ts' with|some d=>RD G ρ' H' d (.ref (ρ l))|none=> ∀o,H (ρ l)=some o->H' (ρ l)=some o):=λl hl=>by
  have ol:=P.old l (M.lab l hl)
  refine⟨ol, ?_⟩
  cases e:findL l ts' with
  |some d=>
   have q:=(findL_rd l ts' vs d P.rd e).1
   rw[ol] at q;exact q
  |none=>
   intro o e1
   refine(P.fr _ _ e1).2 λj hj z=> ?_
   have:l=j:=M.inj l j (M.lab l hl) (lb j hj).1 z
   subst this
   have:=hc l hl hj
   rw[e] at this;cases this
 have hn: ∀l,l<n'->l<s.n\/H (ρ' l)=none:=λl hl=>by
  by_cases h:l<s.n
  .exact .inl h
  .exact .inr (P.new l (L7.mp h) hl)
 have hlab: ∀(xs:List (Option D)),(∀l∈Z4 xs,l∈J2 s)->∀l∈Z4 (rpO (λl=>findL l ts') xs),l<n'/\(l<s.n->l∈J2 s\/l∈qx ts):=λxs hx l h=>by
  rcases z2y l xs h with q|⟨k,d,q1,q2,q3⟩
  .exact⟨l4 (M.lab l (hx l q)) P.le,λ_=> .inl (hx l q)⟩
  .obtain⟨b1,b2⟩:=P.lb l ((findL_rd k ts' vs d P.rd q2).2 l q3)
   exact⟨b1,λz=> .inr (b2 z)⟩
 have all: ∀l∈J2 {σ:=rpO (λl=>findL l ts') s.σ,tm:=rpO (λl=>findL l ts') s.tm,n:=n'},l<n'/\(l<s.n->l∈J2 s\/l∈qx ts):=λl h=>by
  rcases e9.mp h with h|h
  .exact hlab s.σ (λl q=>e6 _ q) l h
  .exact hlab s.tm (λl q=>b6 _ q) l h
 refine⟨Sl.rp st M.sl λl hl=>step l (e6 _ hl),Sl.rp st M.tm λl hl=>step l (b6 _ hl),P.inj,P.dom,λl h=>(all l h).1,λl h=> ?_,λa o e=> ?_,P.kd,λl hl z=> ?_,⟨C1 M.bas.1 P.le,λl hl=> ?_⟩⟩
 .rcases hn l (all l h).1 with q|q
  .rw[P.old l q]
   rcases(all l h).2 q with z|z
   .exact M.own l z
   .exact(lb l z).2
  .exact .inr (M.fresh0 q)
 .obtain⟨⟨o1,e1⟩,e2⟩:=M.frm a o e
  obtain⟨e3,e4⟩:=P.fr a o1 e1
  refine⟨e3,λnA=> ?_⟩
  have e5:=e2 nA
  rw[e1] at e5;cases e5
  refine e4 λl hl z=> ?_
  rcases(lb l hl).2 with q|q
  .exact nA (z▸q)
  .rw[<-z,e] at q;cases q
 .rcases hn l hl with q|q
  .rw[P.old l q] at z;exact M.frb l q z
  .obtain⟨⟨o,e⟩,_⟩:=F.zA _ z
   obtain⟨⟨o',e'⟩,_⟩:=M.frm _ o e
   rw[q] at e';cases e'
 .rw[P.old l (l4 hl M.bas.1)];exact M.bas.2 l hl
def MR.call0{n':Nat}(M:MR G F.toFx ρ H σv tv s)(r:RDs G ρ H ts vs)(lb:LB F.toFx ρ s.n (qx ts))(P:z7c G ρ s.n ts vs H ρ' n' ts H'):MR G F.toFx ρ' H' σv tv {s with n:=n'}:=by
 have hf: ∀l∈qx ts,(findL l ts).isSome=true:=λl hl=>findL_some l ts vs r hl
 have M2:=M.call r lb P λl _ hl=>hf l hl
 rw[z0u M.kd M.inj r (λl hl=>(lb l hl).1) s.σ σv M.sl λl hl=>M.lab l (e6 _ hl),z0u M.kd M.inj r (λl hl=>(lb l hl).1) s.tm tv M.tm λl hl=>M.lab l (b6 _ hl)] at M2
 exact M2
open Classical in
def z1I(r:RF)(ts:List D):M D:=λs=>match r with
 | .ok t ts' n'=>if ts'=ts then .ok t {s with n:=n'} else
  if ∀l∈J2 s,l∈qx ts->(findL l ts').isSome=true then .ok t {σ:=rpO (λl=>findL l ts') s.σ,tm:=rpO (λl=>findL l ts') s.tm,n:=n'} else .no
 |_=> .no
def Z0(f:FM)(ms:List (M D)):M D:=bd (Y0 ms) λts s=>z1I (f ts s.n) ts s
def spM(G:Gx)(np:Nat)(f:FM):Sp:=λvs H Q _=>vs.length=np/\∃ρ n ts,RDs G ρ H ts vs/\(∀i j,i<n->j<n->ρ i=ρ j->i=j)/\(∀l,l<n->∃o,H (ρ l)=some o)/\(∀l∈qx ts,l<n)/\KD G.K H/\match f ts n with
 | .ok t ts' n'=> ∀ρ' v H',z7c G ρ n ts vs H ρ' n' ts' H'->RD G ρ' H' t v->(∀l∈qq t,l<n'/\(l<n->l∈qx ts))->Q v H'
 |_=>False
def z8J{vs:List V}(hl:vs.length=np)(M:MRL G F.toFx ρ H σv tv s ts vs)(W:wM G F σv tv (z1I (f ts s.n) ts s) Q):spM G np f vs H Q E:=by
 refine⟨hl,ρ,s.n,ts,M.rd,M.m.inj,M.m.dom,λl h=>(M.lb l h).1,M.m.kd, ?_⟩
 cases e:f ts s.n with
 |no=>rw[e] at W;exact W
 |ex d ts' n'=>rw[e] at W;exact W
 |ok t ts' n'=>
  rw[e] at W
  intro ρ' v H' P rd lbt
  have own: ∀l∈qq t,F.A0 (ρ' l)\/F.H0 (ρ' l)=none:=λl h=>by
   obtain⟨b1,b2⟩:=lbt l h
   by_cases hn:l<s.n
   .rw[P.old l hn];exact(M.lb l (b2 hn)).2
   .exact .inr (M.m.fresh0 (P.new l (L7.mp hn) b1))
  delta z1I at W
  dsimp only at W
  split at W
  .rename_i et
   subst et
   exact W.out (M.m.call0 M.rd M.lb P) rd λl h=>⟨(lbt l h).1,own l h⟩
  .split at W
   .rename_i hc
    exact W.out (M.m.call M.rd M.lb P hc) rd λl h=>⟨(lbt l h).1,own l h⟩
   .exact False.elim W
def z8K: ∀ms s ts s',Y0 ms s= .ok ts s'->ts.length=ms.length:=by
 intro ms
 induction ms with
 |nil=>intro s ts s' e;erw[Y0,rt,Res.ok.injEq] at e;rw[<-e.1];rfl
 |cons m ms ih=>
  intro s ts s' e
  erw[Y0,bd,psh] at e
  cases e1:m s with
  |ok t s1=>
   erw[e1] at e
   cases e2:Y0 ms (s1.psh t) with
   |ok ys s2=>
    erw[e2,pop] at e
    cases e3:s2.tm with
    |nil=>erw[e3] at e;cases e
    |cons o r=>
     cases o with
     |none=>erw[e3] at e;cases e
     |some t'=>
      erw[e3,rt,Res.ok.injEq] at e
      rw[<-e.1,l8,l8,ih _ _ _ e2]
   |ex d s2=>erw[e2] at e;cases e
   |no=>erw[e2] at e;cases e
  |ex d s1=>erw[e1] at e;cases e
  |no=>erw[e1] at e;cases e
def z2S(nl:Nat)(mb:MS):FM:=λts n=>match mb {σ:=ts.map some++m7 (nl -ts.length) none,tm:=ts.map some,n:=n} with
 | .nx s'=>match Y6 s'.tm with|some ts'=> .ok .non ts' s'.n|none=> .no
 | .rt t s'=>match Y6 s'.tm with|some ts'=> .ok t ts' s'.n|none=> .no
 | .ex d s'=>match Y6 s'.tm with|some ts'=> .ex d ts' s'.n|none=> .no
 |_=> .no
def zaJ(G:Gx)(ρ:Nat->Addr)(n:Nat)(ts:List D)(vs:List V)(H:Hp)(lb: ∀l∈qx ts,l<n)(dom: ∀l,l<n->∃o,H (ρ l)=some o):Fy where
 A0:=λa=> ∃l∈qx ts,a=ρ l
 H0:=H
 Z:=λa=>(∃o,H a=some o)/\∀l,l<n->a≠ρ l
 zA:=λa z=>⟨z.1,λ⟨l,hl,e⟩=>z.2 l (lb l hl) e⟩
 aH:=λa ⟨l,hl,e⟩=>e▸dom l (lb l hl)
 n0:=n
 ρ0:=ρ
 tv0:=vs.map some
 xw:=λ_ _=>False
theorem RDs.sl: ∀{ts:List D} {vs:List V},RDs G ρ H ts vs->Sl G ρ H (ts.map some) (vs.map some)/\Z4 (ts.map some)=qx ts
 |[],vs,h=>by erw[RDs] at h;subst h;simp[Sl,Z4,qx]
 |d::ds,vs,h=>by
  erw[RDs] at h
  obtain⟨x,q,rfl,h1,h2⟩:=h
  obtain⟨q1,q2⟩:=RDs.sl h2
  refine⟨?_,by erw[b8,Z4,qx,q2]⟩
  erw[b8,Sl]
  exact⟨_,_,rfl,h1,q1⟩
def z6E{ts ts':List D}{vs:List V}{n:Nat}{lb: ∀l∈qx ts,l<n}{dom: ∀l,l<n->∃o,H (ρ l)=some o}(inj: ∀i j,i<n->j<n->ρ i=ρ j->i=j)(M:MR G (zaJ G ρ n ts vs H lb dom).toFx ρ' H' σv (vs.map some) s)(e:Y6 s.tm=some ts'):
 z7c G ρ n ts vs H ρ' s.n ts' H'/\∀l,l<s.n->((zaJ G ρ n ts vs H lb dom).A0 (ρ' l)\/H (ρ' l)=none)->l<n->l∈qx ts:=by
 have own: ∀l,l<s.n->((zaJ G ρ n ts vs H lb dom).A0 (ρ' l)\/H (ρ' l)=none)->l<n->l∈qx ts:=λl hl q hn=>by
  have ol:=M.bas.2 l hn
  have ol:ρ' l=ρ l:=ol
  rcases q with⟨j,hj,q⟩|q
  .rw[ol] at q
   rw[inj l j hn (lb j hj) q];exact hj
  .rw[ol] at q
   obtain⟨o,z⟩:=dom l hn
   rw[z] at q;cases q
 obtain⟨r1,r2⟩:=Sl.all M.tm e
 refine⟨⟨M.bas.2,M.bas.1,M.inj,M.dom,r1,λl hl=> ?_,λa o e1=> ?_,λl h1 h2=> ?_,M.kd⟩,own⟩
 .rw[r2] at hl
  have m:l∈J2 s:=b6 _ hl
  exact⟨M.lab l m,own l (M.lab l m) (M.own l m)⟩
 .obtain⟨q1,q2⟩:=M.frm a o e1
  exact⟨q1,λz=>q2 λ⟨l,hl,e⟩=>z l hl e⟩
 .cases q:H (ρ' l) with
  |none=>rfl
  |some o=>
   refine absurd ⟨⟨o,q⟩,λj hj e=> ?_⟩ (M.frb l h2)
   have oj:ρ' j=ρ j:=M.bas.2 j hj
   have:=M.inj l j h2 (l4 hj M.bas.1) (e.trans oj.symm)
   lia
end
mutual
def sz:D->Nat
 | .tup ds=>szL ds+1
 | .ro ds=>szL ds+1
 | .fdc _ vs=>szL vs+1
 | .lst _ ds=>szL ds+1
 | .dct _ _ vs=>szL vs+1
 | .obj _ _ _ vs=>szL vs+1
 | .non=>1| .bool _=>1| .int _=>1| .str _=>1| .exc _=>1| .fn _=>1
def szL:List D->Nat
 |[]=>0
 |d::ds=>sz d+szL ds
end
mutual
theorem zaK(l:Nat): ∀(t d:D),Q0 l t=some d->sz d<=sz t
 | .non,d,e=>by erw[Q0] at e;cases e
 | .bool b,d,e=>by erw[Q0] at e;cases e
 | .int b,d,e=>by erw[Q0] at e;cases e
 | .str b,d,e=>by erw[Q0] at e;cases e
 | .exc b,d,e=>by erw[Q0] at e;cases e
 | .fn b,d,e=>by erw[Q0] at e;cases e
 | .tup ds,d,e=>by erw[Q0,sz] at e⊢;have:=findL_sz l ds d e;lia
 | .ro ds,d,e=>by erw[Q0,sz] at e⊢;have:=findL_sz l ds d e;lia
 | .fdc ks vs,d,e=>by erw[Q0,sz] at e⊢;have:=findL_sz l vs d e;lia
 | .lst k ds,d,e=>by
  erw[Q0] at e
  by_cases h:k=l
  .rw[qy h] at e;cases e;exact b9 _
  .rw[qh h] at e;erw[sz];have:=findL_sz l ds d e;lia
 | .dct k ks vs,d,e=>by
  erw[Q0] at e
  by_cases h:k=l
  .rw[qy h] at e;cases e;exact b9 _
  .rw[qh h] at e;erw[sz];have:=findL_sz l vs d e;lia
 | .obj k c ns vs,d,e=>by
  erw[Q0] at e
  by_cases h:k=l
  .rw[qy h] at e;cases e;exact b9 _
  .rw[qh h] at e;erw[sz];have:=findL_sz l vs d e;lia
theorem findL_sz(l:Nat): ∀(t:List D) (d:D),findL l t=some d->sz d<=szL t
 |[],d,e=>by erw[findL] at e;cases e
 |t::ts,d,e=>by
  erw[findL] at e
  erw[szL]
  cases e1:Q0 l t with
  |some y=>rw[e1] at e;cases e;have:=zaK l t _ e1;lia
  |none=>rw[e1] at e;have:=findL_sz l ts d e;lia
end
section
variable{G:Gx}{F:Fy}{ρ:Nat->Addr}{H:Hp}{σv tv:List (Option V)}{s:Stt}{t:D}{ts ds es:List D}{v:V}{vs xs ys:List V}{l:Nat}{Q:VK}
def z64(M:MR G F.toFx ρ H σv tv s)(h:RD G ρ H (.lst l ds) v)(lb: ∀j∈qq (.lst l ds),j<s.n):l∉qx ds:=λhl=>by
 have h0:=h
 erw[RD] at h0
 obtain⟨rfl,xs,q,r⟩:=h0
 have:=findL_some l ds xs r hl
 cases e:findL l ds with
 |none=>rw[e] at this;cases this
 |some d=>
  obtain⟨q1,q2⟩:=findL_rd l ds xs d r e
  have e2:=RD.uniq M.kd M.inj _ _ _ q1 h (λj hj=>lb j (by erw[qq];exact b7 _ (q2 j hj))) lb
  have e3:=findL_sz l ds d e
  rw[e2] at e3
  erw[sz] at e3
  lia
def MR.put2(M:MR G F.toFx ρ H σv tv s)(ln:l<s.n)(ow:F.A0 (ρ l)\/F.H0 (ρ l)=none)(ts:G5 H (upd H (ρ l) o))(k:KD G.K (upd H (ρ l) o))(hd:RD G ρ (upd H (ρ l) o) d (.ref (ρ l)))(hb:LB F.toFx ρ s.n (qq d)):
 MR G F.toFx ρ (upd H (ρ l) o) σv tv (s.put l d):=by
 have step: ∀k,k∈J2 s->ρ k=ρ k/\(match (if k=l then some d else none:Option D) with|some d=>RD G ρ (upd H (ρ l) o) d (.ref (ρ k))|none=> ∀o',H (ρ k)=some o'->upd H (ρ l) o (ρ k)=some o'):=λk hk=>by
  refine⟨rfl, ?_⟩
  by_cases e:k=l
  .rw[qy e];subst e;exact hd
  .rw[qh e]
   intro o' q
   rw[y3 (λz=>e (M.inj k l (M.lab k hk) ln z))]
   exact q
 have sub: ∀(xs:List (Option D)) (j:Nat),j∈Z4 (rpO (λk=>if k=l then some d else none) xs)->(∀i∈Z4 xs,i∈J2 s)->j<s.n/\(F.A0 (ρ j)\/F.H0 (ρ j)=none):=λxs j h hx=>by
  rcases z2y j xs h with q|⟨k,d',q1,q2,q3⟩
  .exact⟨M.lab j (hx j q),M.own j (hx j q)⟩
  .by_cases e:k=l
   .rw[qy e] at q2;cases q2;exact hb j q3
   .rw[qh e] at q2;cases q2
 have all: ∀j∈J2 (s.put l d),j<s.n/\(F.A0 (ρ j)\/F.H0 (ρ j)=none):=λj h=>by
  rcases e9.mp h with h|h
  .exact sub s.σ j h λi hi=>e6 _ hi
  .exact sub s.tm j h λi hi=>b6 _ hi
 refine⟨Sl.rp ts M.sl λk hk=>step k (e6 _ hk),Sl.rp ts M.tm λk hk=>step k (b6 _ hk),M.inj,λk hk=> ?_,λj h=>(all j h).1,λj h=>(all j h).2,λa o' e=> ?_,k,M.frb,M.bas⟩
 .by_cases e:ρ k=ρ l
  .rw[e];exact⟨o,y6⟩
  .rw[y3 e];exact M.dom k hk
 .obtain⟨⟨o1,e1⟩,e2⟩:=M.frm a o' e
  by_cases ea:a=ρ l
  .subst ea
   refine⟨⟨o,y6⟩,λn=> ?_⟩
   rcases ow with q|q
   .exact absurd q n
   .rw[e] at q;cases q
  .rw[y3 ea]
   exact⟨⟨o1,e1⟩,e2⟩
def z6F(k:KD G.K H)(e:H a=some o):KD G.K (upd H a o'):=λb ob q=>by
 by_cases h:b=a
 .subst h;rw[k _ _ q] at e;cases e
 .rw[y3 h];exact k _ _ q
def z51{o':HO}{a:Addr}{xs:List V}(e:H a=some (.lst xs)):G5 H (upd H a o'):=
 ⟨λb ys q=>by rw[y3 (z0o q e (by intro z;cases z))];exact q,λb o u q=>by rw[y3 (z0o q e (by intro z;cases z))];exact q⟩
def RDs.upd{a:Addr}(st:G5 H (upd H (ρ l) o))(inj: ∀i j,i<s.n->j<s.n->ρ i=ρ j->i=j)(ln:l<s.n)(r:RDs G ρ H ds xs)(lb: ∀j∈qx ds,j<s.n/\j≠l):RDs G ρ (L2.upd H (ρ l) o) ds xs:=
 RDs.stay st ds xs r λj hj=>⟨rfl,λo' e=>by rw[y3 (λz=>(lb j hj).2 (inj j l (lb j hj).1 ln z))];exact e⟩
def MR.putL(M:MR G F.toFx ρ H σv tv s)(hl:H (ρ l)=some (.lst xs))(ln:l<s.n)(ow:F.A0 (ρ l)\/F.H0 (ρ l)=none)(r:RDs G ρ H es ys)(lb:LB F.toFx ρ s.n (qx es))(ne:l∉qx es):
 MR G F.toFx ρ (upd H (ρ l) (.lst ys)) σv tv (s.put l (.lst l es)):=by
 refine M.put2 ln ow (z51 hl) (z6F M.kd hl) ?_ λj hj=> ?_
 .erw[RD]
  exact⟨trivial,ys,y6,RDs.upd (a:=0) (z51 hl) M.inj ln r λj hj=>⟨(lb j hj).1,λz=>ne (z▸hj)⟩⟩
 .erw[qq] at hj
  rcases c8.mp hj with q|q
  .rw[q];exact⟨ln,ow⟩
  .exact lb j q
end
def z8L:D->List D->M D
 | .lst l ds,[y]=>λs=>if ds.length<qg/\l∉qq y then .ok .non (s.put l (.lst l (ds++[y]))) else .no
 |_,_=>fl
def z7x:D->List D->M D
 | .lst l ds,[y]=>λs=>match z48 y with
  |some es=>if ds.length+es.length<=qg/\l∉qx es then .ok .non (s.put l (.lst l (ds++es))) else .no
  |none=> .no
 |_,_=>fl
def isL(x:D):M Unit:=λs=>match z5G x with|some _=> .ok () s|none=> .no
def z1p(mo:M D)(ms:List (M D))(g:D->List D->M D):M D:=bd mo λx=>bd (isL x) λ_=>bd (psh x) λ_=>bd (Y0 ms) λys=>bd pop λx'=>g x' ys
section
variable{X:Cx}{G:Gx}{F:Fy}{e o:bn}{es:List bn}{apos cpos:bN}
def zgp(G:Gx)(F:Fy)(r:V->List V->Hp->VK->Prop)(g:D->List D->M D):Prop:= ∀ρ s t ts v vs H σv tv Q,MRL G F.toFx ρ H σv tv s (t::ts) (v::vs)->wM G F σv tv (g t ts s) Q->r v vs H (λw H'=>KD G.K H'->Q w H')
def MRL.hd{s:Stt}(M:MRL G F.toFx ρ H σv tv s (t::ts) (v::vs)):RD G ρ H t v/\RDs G ρ H ts vs/\LB F.toFx ρ s.n (qq t)/\LB F.toFx ρ s.n (qx ts):=by
 have h:=M.rd
 erw[RDs] at h
 obtain⟨_,_,e,h1,h2⟩:=h
 cases e
 exact⟨h1,h2,λl h=>M.lb l (by erw[qx];exact e6 _ h),λl h=>M.lb l (by erw[qx];exact b6 _ h)⟩
def zgq:zgp G F z7X z8L:=by
 intro ρ s t ts v vs H σv tv Q M W
 obtain⟨h1,h2,b1,b2⟩:=M.hd
 delta z8L at W
 split at W
 .rename_i l ds y
  split at W
  .rename_i hc
   have h1':=h1
   erw[RD] at h1
   obtain⟨rfl,xs,hx,r⟩:=h1
   erw[RDs] at h2
   obtain⟨u,q,rfl,h2,rfl⟩:=h2
   have ns:=z64 M.m h1' λj hj=>(b1 j hj).1
   have bl:=b1 l (by erw[qq];exact c9 ..)
   refine⟨_,xs,u,rfl,rfl,hx,by rw[<-r.length];exact hc.1,λ_=>W.out (M.m.putL hx bl.1 bl.2 (r.append (RDs.one h2)) ?_ ?_) (by erw[RD]) λl h=>by simp[qq] at h⟩
   .intro j hj
    rw[J1] at hj
    rcases e9.mp hj with q|q
    .exact b1 j (by erw[qq];exact b7 _ q)
    .exact b2 j q
   .intro hj
    rw[J1] at hj
    rcases e9.mp hj with q|q
    .exact ns q
    .erw[qx,e8] at q;exact hc.2 q
  .exact False.elim W
 .exact wfl W
def zgr:zgp G F (zfV G.K) z7x:=by
 intro ρ s t ts v vs H σv tv Q M W
 obtain⟨h1,h2,b1,b2⟩:=M.hd
 delta z7x at W
 split at W
 .rename_i l ds y
  cases ey:z48 y with
  |none=>erw[ey] at W;exact False.elim W
  |some es=>
   erw[ey] at W
   split at W
   .rename_i hc
    have h1':=h1
    erw[RD] at h1
    obtain⟨rfl,xs,hx,r⟩:=h1
    erw[RDs] at h2
    obtain⟨u,q,rfl,h2,rfl⟩:=h2
    obtain⟨a,ys,rfl,sq,r2,sub⟩:=h2.seq ey
    have ns:=z64 M.m h1' λj hj=>(b1 j hj).1
    have bl:=b1 l (by erw[qq];exact c9 ..)
    refine⟨_,a,xs,ys,rfl,rfl,hx,sq.symm,by rw[<-r.length,<-r2.length];exact hc.1,λ_=>W.out (M.m.putL hx bl.1 bl.2 (r.append r2) ?_ ?_) (by erw[RD]) λl h=>by simp[qq] at h⟩
    .intro j hj
     rw[J1] at hj
     rcases e9.mp hj with q|q
     .exact b1 j (by erw[qq];exact b7 _ q)
     .exact b2 j (by erw[qx,e8];exact sub j q)
    .intro hj
     rw[J1] at hj
     rcases e9.mp hj with q|q
     .exact ns q
     .exact hc.2 q
   .exact False.elim W
 .exact wfl W
def zaL{r:V->List V->Hp->VK->Prop}(hT:T= "list")(hg:zgp G F r g)(h:tM G F (z1p mo ms g) σ H Q):
 tM G F mo σ H λx H1=>tyV G.K T x H1/\tML G F (Y0 ms) σ H1 λxs H2=>r x xs H2 λw H'=>KD G.K H'->Q w H':=by
 obtain⟨tv,h⟩:=h
 have hs:=h.1
 refine⟨tv,(z79 h).mono λv H1 ⟨ρ1,s1,t,M1,W⟩=> ?_⟩
 erw[bd,isL] at W
 cases e1:z5G t with
 |none=>erw[e1] at W;exact False.elim W
 |some ds=>
  erw[e1,psh] at W
  obtain⟨a,xs,rfl,sq,_⟩:=M1.rd1.lstq e1
  refine⟨.inl ⟨hT,xs,sq⟩,some (.ref a)::tv,z5F hs,ρ1,s1.psh t,M1.push, ?_⟩
  cases e2:Y0 ms (s1.psh t) with
  |ex d s2=>erw[e2] at W;exact W
  |no=>erw[e2] at W;exact W
  |ok ys s2=>
   erw[e2,pop] at W
   intro ρ2 us H2 M2
   cases e3:s2.tm with
   |nil=>erw[e3] at W;exact False.elim W
   |cons o r=>
    cases o with
    |none=>erw[e3] at W;exact False.elim W
    |some t'=>
     erw[e3] at W
     exact hg _ _ _ _ _ _ _ _ _ _ (M2.down e3) W
def zdt{name:Str}{id:String}{r:V->List V->Hp->VK->Prop}{mo:M D}{ms:List (M D)}{g:D->List D->M D}(hk:X.K=G.K)(slot:Slot "list" name id)(hty:typeOf (.builtin id)=pure (.type "method_descriptor"))(hm:MtR X id r)(hg:zgp G F r g)(ho:SE X G F o mo)(ha:SA X G F (e::es) (Y0 ms))
 (hbase:cm o name X.env (bA o X.env)=bA o X.env:=by rfl)
 (hfew:((bM cpos (bi (e::es) X.env)).all (λx=> !x.1)&&(cR cpos (cy [] X.env)).all (λx=>x.1.isSome)
  &&decide ((e::es).length+([]:List cq).length+(if([]:List cq).isEmpty then 0 else 1)<30))=true:=by rfl)
 (hline:(apos.endLine==cpos.line)=true:=by rfl) (hs:bi (e::es) X.env=(false,bA e X.env)::bi es X.env:=by rfl) (hplain:(bM cpos (bi es X.env)).any (·.1)=false:=by rfl):SE X G F (.Call (.Attribute o name apos) (e::es) [] cpos) (z1p mo ms g):=by
 refine PE.imp hk (zj5 PySem.F.plainAttrs_list slot hty hm ho ha hbase hfew hline hs hplain) λ σ H Q h=> ?_
 rw[hk]
 exact zaL rfl hg h
def z8M(o i v:D):MS:=λs=>match o,i with
 | .lst l ds, .int k=>match ixN ds.length k with
  |some j=>if l∉qq v then .nx (s.put l (.lst l (ds.set j v))) else .no
  |none=> .no
 |_,_=> .no
def z7y(me mo mi:M D)(g:D->D->D->MS):MS:=z0N me λv=>z0N (psh v) λ_=>z0N mo λo=>z0N (psh o) λ_=>z0N mi λi=>z0N pop λo'=>z0N pop λv'=>g o' i v'
def zaM{mo mi:M D}{g:D->D->D->MS}{Dd:z5L}(hs:F.tv0<:+tv)(M1:MRL G F.toFx ρ1 H1 σ tv s1 [t] [v])
 (W:wS G F tv ((z0N (psh t) λ_=>z0N mo λo=>z0N (psh o) λ_=>z0N mi λi=>z0N pop λo'=>z0N pop λv'=>g o' i v') s1) Dd):
 tM G F mo σ H1 λo H2=>tM G F mi σ H2 λi H3=> ∃ρ s t1 t2 t3,MRL G F.toFx ρ H3 σ tv s [t1,t2,t3] [v,o,i]/\wS G F tv (g t2 t3 t1 s) Dd:=by
 refine⟨some v::tv,z5F hs,ρ1,s1.psh t,M1.push, ?_⟩
 erw[z0N,psh] at W
 cases e1:mo (s1.psh t) with
 |ex d s2=>erw[e1] at W;exact W
 |no=>erw[e1] at W;exact W
 |ok o s2=>
  erw[e1] at W
  intro ρ2 u H2 M2
  refine⟨some u::some v::tv,z5F (z5F hs),ρ2,s2.psh o,M2.push, ?_⟩
  cases e2:mi (s2.psh o) with
  |ex d s3=>erw[e2] at W;exact W
  |no=>erw[e2] at W;exact W
  |ok i s3=>
   erw[e2,pop] at W
   intro ρ3 w H3 M3
   cases e3:s3.tm with
   |nil=>erw[e3] at W;exact False.elim W
   |cons o3 r3=>
    cases o3 with
    |none=>erw[e3] at W;exact False.elim W
    |some x3=>
     erw[e3] at W
     cases r3 with
     |nil=>exact False.elim W
     |cons o4 r4=>
      cases o4 with
      |none=>exact False.elim W
      |some x4=>
       have M4:=M3.down e3
       have M5:=M4.down (s':={s3 with tm:=some x4::r4}) rfl
       exact⟨ρ3,_,x4,x3,i,M5,W⟩
def z8N(h:tSv G F (z7y me mo mi g) tv Dd σ H):
 tM G F me σ H λv H1=>tM G F mo σ H1 λo H2=>tM G F mi σ H2 λi H3=> ∃ρ s t1 t2 t3,MRL G F.toFx ρ H3 σ tv s [t1,t2,t3] [v,o,i]/\wS G F tv (g t2 t3 t1 s) Dd:=
 ⟨tv,(z0t h).mono λv H1 ⟨ρ1,s1,t,M1,W⟩=>zaM h.1 M1 W⟩
def zbQ{ρ:Nat->Addr}{s:Stt}{t1 t2 t3:D}{v o i:V}{H:Hp}{σv tv:List (Option V)}{Dd:z5L}(M:MRL G F.toFx ρ H σv tv s [t1,t2,t3] [v,o,i])(W:wS G F tv (z8M t2 t3 t1 s) Dd):zcO o i v H λH'=>Dd.nx σv H':=by
 have h:=M.rd
 erw[RDs] at h
 obtain⟨_,_,e,h1,_,_,e2,h2,_,_,e3,h3,_⟩:=h
 cases e;cases e2;cases e3
 have b1:LB F.toFx ρ s.n (qq t1):=λl h=>M.lb l (by erw[qx];exact e6 _ h)
 have b2:LB F.toFx ρ s.n (qq t2):=λl h=>M.lb l (by erw[qx];exact b6 _ (e6 _ h))
 cases t2 with
 |lst l ds=>
  cases t3 with
  |int k=>
   erw[z8M] at W
   cases ek:ixN ds.length k with
   |none=>erw[ek] at W;exact False.elim W
   |some j=>
    erw[ek] at W
    by_cases hc:l∉qq t1
    .rw[qy hc] at W
     have h2':=h2
     erw[RD] at h2 h3
     obtain⟨rfl,xs,hx,r⟩:=h2
     subst h3
     have ns:=z64 M.m h2' λj hj=>(b2 j hj).1
     have bl:=b2 l (by erw[qq];exact c9 ..)
     have mm: ∀q,q∈qx (ds.set j t1)->q∈qx ds\/q∈qq t1:=λq hq=>by
      obtain⟨d,h1,h2⟩:=K2 hq
      rcases O5 h1 with z|z
      .exact .inl (qv z q h2)
      .subst z;exact .inr h2
     refine⟨_,xs,k,j,rfl,rfl,hx,by rw[<-r.length];exact ek,W ρ σv _ (M.m.putL hx bl.1 bl.2 (r.set j h1) (λq hq=> ?_) λhq=> ?_)⟩
     .rcases mm q hq with z|z
      .exact b2 q (by erw[qq];exact b7 _ z)
      .exact b1 q z
     .rcases mm l hq with z|z
      .exact ns z
      .exact hc z
    .rw[qh hc] at W;exact False.elim W
  |_=>exact False.elim W
 |_=>exact False.elim W
variable{a b c:bn}{pos:bN}{ma mb mc m:M D}
structure Cm(X:Cx)(G:Gx)(F:Fy)(op:dh)(g:D->D->M D):Prop where
 h: ∃r,OpR X (bE op) r/\z0d G F r g
def z65:Cm X G F .Lt ltD:=⟨_,ziV,zjp⟩
def zdu:Cm X G F .LtE leD:=⟨_,ziW,zjq⟩
def zgs:Cm X G F .Gt gtD:=⟨_,ziX,zjr⟩
def z0g(hk:X.K=G.K)(hu:X.A.units+64<cLine):Cm X G F .Eq eqD:=⟨_,hk▸zfS hu,zjs⟩
def z4e(hk:X.K=G.K)(hu:X.A.units+64<cLine):Cm X G F .NotEq neD:=⟨_,hk▸zfT hu,zjt⟩
def zdv(hk:X.K=G.K)(hu:X.A.units+64<cLine):Cm X G F .In inD:=⟨_,hk▸zfU hu,zju⟩
def zgt(hk:X.K=G.K)(hu:X.A.units+64<cLine):Cm X G F .NotIn zdj:=⟨_,hk▸z8a hu,zg8⟩
def zgu:Cm X G F .Is isN:=⟨_,zff,zg9⟩
def zdw:Cm X G F .IsNot zeI:=⟨_,zcE,zdl⟩
structure Cb(X:Cx)(G:Gx)(F:Fy)(f:bb)(g:List D->M D):Prop where
 h: ∃r,CallR X f r/\k9 G F r g
def zgv(hk:X.K=G.K):Cb X G F (.builtin "len") z4Y:=⟨_,hk▸z4J,zgc⟩
def zgw:Cb X G F (.builtin "abs") zeL:=⟨_,zaa,zgd⟩
def z8O(hc:X.calm=true):Cb X G F (.builtin "min") zaE:=⟨_,z7P hc,zge⟩
def zgx(hc:X.calm=true):Cb X G F (.builtin "max") zeM:=⟨_,z7O hc,zgf⟩
def zbR(hk:X.K=G.K)(hd:X.A.handled=none):Cb X G F (.builtin "all") za0:=⟨_,hk▸z8b hd,zgg⟩
def zbS(hk:X.K=G.K)(hd:X.A.handled=none):Cb X G F (.builtin "any") zdq:=⟨_,hk▸z8c hd,zgh⟩
def zbT:Cb X G F (.type "int") zbO:=⟨_,z7Q,zgi⟩
def z1J(hk:X.K=G.K):Cb X G F (.type "tuple") z6z:=⟨_,hk▸z8h,zdr⟩
def zdx(hk:X.K=G.K):Cb X G F (.type "list") z4Z:=⟨_,hk▸z4K,zaF⟩
structure Cl(X:Cx)(G:Gx)(F:Fy)(id:String)(g:D->List D->M D):Prop where
 h: ∃r,MtR X id r/\zgp G F r g
def z2T:Cl X G F "list.append" z8L:=⟨_,z4L,zgq⟩
def z52(hk:X.K=G.K):Cl X G F "list.extend" z7x:=⟨_,hk▸zd3,zgr⟩
end
noncomputable def G0(K:W.Frag):Gx:=⟨K,λ_=>none,λ_ _ _ h=>(by cases h),λ_ _ h=>(by cases h)⟩
inductive SEs(X:Cx)(G:Gx)(F:Fy):List bn->List (M D)->Prop
 |nil:SEs X G F [] []
 |cons {e:bn} {m:M D} {es:List bn} {ms:List (M D)}:SE X G F e m->nst e=true->SEs X G F es ms->SEs X G F (e::es) (m::ms)
def sa_of{X:Cx}{G:Gx}(hk:X.K=G.K)(h:SEs X G F es ms):SA X G F es (Y0 ms):=by
 induction h with
 |nil=>exact zg3 hk
 |cons h1 h2 _ ih=>exact zdg hk h1 ih h2
section
variable{X:Cx}{G:Gx}{F:Fy}{a b tg:bn}{pos:bN}
def zgy(i:Nat):List (Option D)->Option (Option D)
 |some c::_=>(z5G c).map λds=>(ds[i]?).map λd=> .tup [.int i,d]
 |_=>none
def z66:ItK:=⟨1,zgy,z8E⟩
def z6G{a:Addr}:zbP G (Ite G.K a) z66 [some (.ref a)]:=by
 intro F ρ H σv tvp tv s i M
 dsimp only[z66]
 cases e:s.tm.drop tvp.length with
 |nil=>trivial
 |cons o r=>
  cases o with
  |none=>trivial
  |some c=>
   erw[zgy]
   obtain⟨h,lb⟩:=MR.head (s:=s.popn tvp.length) M.popn e
   cases e1:z5G c with
   |none=>trivial
   |some ds=>
    erw[i9]
    obtain⟨a',xs,ea,sq,rr,sub⟩:=h.lstq e1
    cases ea
    cases e2:ds[i]? with
    |none=>
     erw[u01]
     refine⟨xs,sq, ?_⟩
     rw[<-rr.length]
     exact List.getElem?_eq_none_iff.mp e2
    |some d=>
     erw[i9]
     obtain⟨x,ex,rx⟩:=rr.get i d e2
     refine⟨⟨xs,x,sq,ex⟩, ?_⟩
     rintro x' H' ⟨p,y,hp,rfl,rfl,hx,kd⟩
     rw[hx xs sq] at ex
     cases ex
     have sm:=z0K.new (.tup [.int i,x]) hp
     refine⟨M.same sm kd,RDs.one ?_,λl hl=>lb l (sub l (qv (List.mem_of_getElem? e2) l (by simpa only[qx,qq,e8,l5] using hl)))⟩
     erw[RD]
     refine⟨p,_,rfl,y6, ?_⟩
     have r1:=(RDs.one rx).same sm
     erw[RDs] at r1⊢
     obtain⟨x,r,e,h1,h2⟩:=r1
     cases e
     exact⟨_,_,rfl,by erw[RD],_,_,rfl,h1,rfl⟩
noncomputable def U8(lo:Int)(n:Nat):List D:=(B3 n).map λ(k:Nat)=>D.int (lo+(k:Int))
theorem z8P(lo:Int): ∀ks:List Nat,RDs G ρ H (ks.map λ(k:Nat)=>D.int (lo+(k:Int))) (ks.map λ(k:Nat)=>V.int (lo+(k:Int)))
 |[]=>by erw[l0,RDs]
 |k::ks=>by
  erw[b8,RDs]
  exact⟨_,_,rfl,by erw[RD],z8P lo ks⟩
theorem z6H(lo:Int): ∀ks:List Nat,qx (ks.map λ(k:Nat)=>D.int (lo+(k:Int)))=[]
 |[]=>by erw[l0,qx]
 |k::ks=>by erw[b8,qx,qq,z6H lo ks,l5]
def lrM(ts:List D):M D:=match ts with
 |[.int i, .int j]=>if(-(2^62)<=i/\i<2^62/\-(2^62)<=j/\j<2^62)/\(j -i).toNat<=qg then zbJ (U8 i (j -i).toNat) else fl
 |_=>fl
end
open PyProof.Rows (envOfC)
open Classical in
def zkG(r:RF)(ts:List D):M D:=λs=>match r with
 | .ok t ts' n'=>if ts'=ts then .ok t {s with n:=n'} else
  if ∀l∈J2 s,l∈qx ts->(findL l ts').isSome=true then .ok t {σ:=rpO (λl=>findL l ts') s.σ,tm:=rpO (λl=>findL l ts') s.tm,n:=n'} else .no
 | .ex d ts' n'=>if ts'=ts then .ex d {s with n:=n'} else
  if ∀l∈J2 s,l∈qx ts->(findL l ts').isSome=true then .ex d {σ:=rpO (λl=>findL l ts') s.σ,tm:=rpO (λl=>findL l ts') s.tm,n:=n'} else .no
 | .no=> .no
def U5:D->Option Key
 | .int i=>some (.inl i)
 | .str x=>some (.inr x)
 |_=>none
noncomputable def z1K:List D->Option (List Key)
 |[]=>some []
 |d::ds=>match U5 d with
  |some k=>match z1K ds with
   |some ks=>some (k::ks)
   |none=>none
  |none=>none
def zeN:D->Option (Key⊕List Key)
 | .tup ds=>match z1K ds with|some ks=>some (.inr ks)|none=>none
 |d=>match U5 d with|some k=>some (.inl k)|none=>none
noncomputable def z53:List D->Option NK
 |[]=>some []
 |d::ds=>match zeN d with
  |some k=>match z53 ds with
   |some ks=>some (k::ks)
   |none=>none
  |none=>none
def tkey:D->Option NK
 | .tup ds=>z53 ds
 |_=>none
def isT:List D->Bool
 | .non::_=>false
 |_=>true
section
variable{G:Gx}{ρ:Nat->Addr}{H:Hp}
def z1L(h:RD G ρ H d v)(e:U5 d=some k):v=kV k/\d=X3 k:=by
 cases d<;>erw[U5] at e<;>cases e<;>(erw[RD] at h;exact⟨h,rfl⟩)
theorem z54: ∀{ds:List D} {xs:List V} {ks:List Key},RDs G ρ H ds xs->z1K ds=some ks->xs=ks.map kV/\ds=ks.map X3
 |[],xs,ks,h,e=>by erw[RDs] at h;erw[z1K] at e;cases e;exact⟨h,rfl⟩
 |d::ds,xs,ks,h,e=>by
  erw[RDs] at h
  obtain⟨x,r,rfl,h1,h2⟩:=h
  erw[z1K] at e
  cases e1:U5 d with
  |none=>rw[e1] at e;cases e
  |some k=>
   rw[e1] at e
   cases e2:z1K ds with
   |none=>erw[e2] at e;cases e
   |some ks'=>
    erw[e2] at e
    cases e
    obtain⟨a1,a2⟩:=z1L h1 e1
    obtain⟨b1,b2⟩:=z54 h2 e2
    rw[a1,b1,a2,b2]
    exact⟨rfl,rfl⟩
def zdy(h:RD G ρ H d v)(e:zeN d=some k):TKi H k v/\d=nkD k:=by
 have flat: ∀{d:D} {v:V},RD G ρ H d v->(match U5 d with|some k=>some (Sum.inl k:Key⊕List Key)|none=>none)=some k->TKi H k v/\d=nkD k:=by
  intro d v h e
  cases e1:U5 d with
  |none=>rw[e1] at e;cases e
  |some k'=>
   rw[e1] at e
   cases e
   obtain⟨a1,a2⟩:=z1L h e1
   exact⟨a1,a2⟩
 cases d with
 |tup ds=>
  erw[zeN] at e
  cases e1:z1K ds with
  |none=>rw[e1] at e;cases e
  |some ks=>
   rw[e1] at e
   cases e
   erw[RD] at h
   obtain⟨a,xs,e2,s,r⟩:=h
   obtain⟨b1,b2⟩:=z54 r e1
   exact⟨⟨a,e2,b1▸s⟩,by rw[b2];rfl⟩
 |_=>exact flat h e
theorem z6I: ∀{ds:List D} {xs:List V} {ks:NK},RDs G ρ H ds xs->z53 ds=some ks->bH (TKi H) ks xs/\ds=ks.map nkD
 |[],xs,ks,h,e=>by erw[RDs] at h;erw[z53] at e;cases e;subst h;exact⟨.nil,rfl⟩
 |d::ds,xs,ks,h,e=>by
  erw[RDs] at h
  obtain⟨x,r,rfl,h1,h2⟩:=h
  erw[z53] at e
  cases e1:zeN d with
  |none=>rw[e1] at e;cases e
  |some k=>
   rw[e1] at e
   cases e2:z53 ds with
   |none=>erw[e2] at e;cases e
   |some ks'=>
    erw[e2] at e
    cases e
    obtain⟨a1,a2⟩:=zdy h1 e1
    obtain⟨b1,b2⟩:=z6I h2 e2
    rw[a2,b2]
    exact⟨.cons a1 b1,rfl⟩
def zdz(h:RD G ρ H t v)(e:tkey t=some k): ∃b,v= .ref b/\TK H k b/\t=dkD k:=by
 cases t<;>erw[tkey] at e<;>try cases e
 erw[RD] at h
 obtain⟨a,xs,e1,s,r⟩:=h
 obtain⟨b1,b2⟩:=z6I r e
 exact⟨a,e1,⟨xs,s,b1⟩,by rw[b2];rfl⟩
theorem z3F: ∀k:List Key,z1K (k.map X3)=some k
 |[]=>rfl
 |k::ks=>by
  erw[b8,z1K]
  have:U5 (X3 k)=some k:=by cases k<;>rfl
  rw[this,z3F ks]
def zdA(z:Key⊕List Key):zeN (nkD z)=some z:=by
 cases z with
 |inl k=>cases k<;>rfl
 |inr ks=>erw[nkD,zeN,z3F]
theorem z55: ∀k:NK,z53 (k.map nkD)=some k
 |[]=>rfl
 |k::ks=>by erw[b8,z53,zdA,z55 ks]
def z27(k:NK):tkey (dkD k)=some k:=z55 k
theorem z67: ∀k:List Key,RDs G ρ H (k.map X3) (k.map kV)
 |[]=>by erw[l0,RDs]
 | .inl i::k=>by erw[b8,RDs];exact⟨_,_,rfl,by erw[X3,RD];rfl,z67 k⟩
 | .inr i::k=>by erw[b8,RDs];exact⟨_,_,rfl,by erw[X3,RD];rfl,z67 k⟩
theorem z8Q: ∀{k:NK} {xs:List V},bH (TKi H) k xs->RDs G ρ H (k.map nkD) xs
 |_,_, .nil=>by erw[l0,RDs]
 | .inl i::k,_, .cons a b=>by
  have e:=(show _=kV i from a)
  erw[b8,RDs]
  refine⟨_,_,rfl, ?_,z8Q b⟩
  rw[e]
  cases i<;>(erw[nkD,X3,RD];rfl)
 | .inr ks::k,_, .cons a b=>by
  obtain⟨c,e,hc⟩:=a
  erw[b8,RDs]
  refine⟨_,_,rfl, ?_,z8Q b⟩
  erw[nkD,RD]
  exact⟨c,_,e,hc,z67 ks⟩
def RD.dctq{l:Nat}(h:RD G ρ H (.dct l ks vs) v)(hn:isT ks=true):v= .ref (ρ l)/\∃kvs:List (NK×V),H (ρ l)=some (.dT kvs)/\ks=kvs.map (λp=>dkD p.1)/\RDs G ρ H vs (kvs.map (·.2)):=by
 erw[RD] at h
 obtain⟨e,⟨kvs,s,s2,r⟩|h⟩:=h
 .rw[s2] at hn;cases hn
 .exact⟨e,h⟩
noncomputable def findK:List D->List D->NK->Option D
 |d::ks,v::vs,k=>if tkey d=some k then some v else findK ks vs k
 |_,_,_=>none
theorem z3G: ∀(kvs:List (NK×V)) (vs:List D) (t:D),RDs G ρ H vs (kvs.map (·.2))->findK (kvs.map λp=>dkD p.1) vs k=some t->∃v,valV kvs k=some v/\RD G ρ H t v/\t∈vs
 |[],_,_,_,e=>by erw[l0,findK] at e;cases e
 |p::kvs,[],_,_,e=>by erw[b8,findK] at e;cases e
 |p::kvs,w::vs,t,h,e=>by
  erw[b8,RDs] at h
  obtain⟨x,r,e1,h1,h2⟩:=h
  cases e1
  erw[b8,findK,z27,Option.some.injEq] at e
  by_cases hk:p.1=k
  .rw[qy hk] at e;cases e
   exact⟨_,z1g hk,h1,c9 ..⟩
  .rw[qh hk] at e
   obtain⟨v,a,b,c⟩:=z3G kvs vs t h2 e
   exact⟨v,by rw[z03 hk];exact a,b,b7 _ c⟩
theorem z3H: ∀(kvs:List (NK×V)) (vs:List D),RDs G ρ H vs (kvs.map (·.2))->findK (kvs.map λp=>dkD p.1) vs k=none->valV kvs k=none
 |[],_,_,_=>rfl
 |p::kvs,[],h,_=>by erw[b8,RDs] at h;cases h
 |p::kvs,w::vs,h,e=>by
  erw[b8,RDs] at h
  obtain⟨x,r,e1,h1,h2⟩:=h
  cases e1
  erw[b8,findK,z27,Option.some.injEq] at e
  by_cases hk:p.1=k
  .rw[qy hk] at e;cases e
  .rw[qh hk] at e
   rw[z03 hk];exact z3H kvs vs h2 e
def z7f(ks:List D)(k:NK):List D:=if(ks.any λd=>decide (tkey d=some k))=true then ks else ks++[dkD k]
def z56(ks vs:List D)(k:NK)(v:D):List D:=if(ks.any λd=>decide (tkey d=some k))=true then D1 (λd w=>if tkey d=some k then v else w) ks vs else vs++[v]
def zgz(kvs:List (NK×V)):((kvs.map λp=>dkD p.1).any λd=>decide (tkey d=some k))=kvs.any λkv=>decide (kv.1=k):=by
 rw[L4]
 congr 1
 funext p
 erw[Function.comp,z27,Option.some.injEq]
theorem z68{k:NK}(h:RD G ρ H t v): ∀(kvs:List (NK×V)) (vs:List D),RDs G ρ H vs (kvs.map (·.2))->
 RDs G ρ H (D1 (λd w=>if tkey d=some k then t else w) (kvs.map λp=>dkD p.1) vs) ((kvs.map (λkv=>if kv.1=k then(kv.1,v) else kv)).map (·.2))
 |[],[],_=>by simp[RDs]
 |[],_::_,h=>by erw[l0,RDs] at h;obtain⟨_,_,e,_⟩:=h;cases e
 |p::kvs,[],h=>by erw[b8,RDs] at h;cases h
 |p::kvs,w::vs,h'=>by
  erw[b8,RDs] at h'
  obtain⟨x,r,e1,h1,h2⟩:=h'
  cases e1
  erw[b8,C7,RDs,z27,Option.some.injEq]
  by_cases hk:p.1=k
  .rw[qy hk,qy hk];exact⟨_,_,rfl,h,z68 h kvs vs h2⟩
  .rw[qh hk,qh hk];exact⟨_,_,rfl,h1,z68 h kvs vs h2⟩
def zgA{k:NK}{kvs:List (NK×V)}(h:RD G ρ H t v)(r:RDs G ρ H vs (kvs.map (·.2))):
 z7f (kvs.map λp=>dkD p.1) k=(z0M kvs k v).map (λp=>dkD p.1)/\RDs G ρ H (z56 (kvs.map λp=>dkD p.1) vs k t) ((z0M kvs k v).map (·.2)):=by
 delta z7f z56 z0M
 rw[zgz]
 cases e:kvs.any λkv=>decide (kv.1=k) with
 |true=>
  erw[if_true]
  refine⟨?_,z68 h kvs vs r⟩
  rw[A4]
  refine A7 λp _=> ?_
  erw[Function.comp]
  split<;>rfl
 |false=>
  erw[C5,if_false,B1,b8,l0]
  exact⟨trivial,r.append (RDs.one h)⟩
variable{X:Cx}{F:Fy}{a b e:bn}{ma mb:M D}{pos:bN}
def zaN:M D:=λs=> .ok (.dct s.n [] []) s.nxt
def z4f(o i v:D):MS:=λs=>match o with
 | .dct l ks vs=>match tkey i with
  |some k=>if isT ks=true/\ks.length<qg/\qq v=[]/\qx vs=[] then .nx (s.put l (.dct l (z7f ks k) (z56 ks vs k v))) else .no
  |none=> .no
 |_=> .no
def z8R(k:NK):qq (dkD k)=[]:=by
 have h: ∀k:NK,qx (k.map nkD)=[]:=λk=>by
  induction k with
  |nil=>rfl
  |cons z k ih=>erw[b8,qx,z62,ih,e8]
 erw[dkD,qq,h]
theorem z6J: ∀kvs:List (NK×V),qx (kvs.map λp=>dkD p.1)=[]
 |[]=>rfl
 |p::kvs=>by
  have e:qq (dkD p.1)=[]:=z8R p.1
  erw[b8,qx,e,z6J kvs];rfl
theorem z2U: ∀{ds:List D},(∀d∈ds,qq d=[])->qx ds=[]
 |[],_=>rfl
 |d::ds,h=>by erw[qx,h d (c9 ..),z2U λx hx=>h x (b7 _ hx)];rfl
def z57(h:qx ds=[]): ∀d∈ds,qq d=[]:=λd hd=>by
 cases e:qq d with
 |nil=>rfl
 |cons l r=>exact absurd (qv hd l (by rw[e];exact c9 ..)) (by rw[h];exact i3)
def z6K(hv:qq v=[])(h:qx vs=[]):qx (z56 ks vs k v)=[]:=by
 have h':=z57 h
 delta z56
 split
 .refine z2U λd hd=> ?_
  obtain⟨i,hi,e⟩:=C9 hd
  rw[R6] at e
  subst e
  split
  .exact hv
  .exact h' _ (l6 _)
 .refine z2U λd hd=> ?_
  rcases e9.mp hd with q|q
  .exact h' d q
  .rw[i4.mp q];exact hv
def zdB{ρ:Nat->Addr}{s:Stt}{t1 t2 t3:D}{v o i:V}{H:Hp}{σv tv:List (Option V)}{Dd:z5L}(M:MRL G F.toFx ρ H σv tv s [t1,t2,t3] [v,o,i])(W:wS G F tv (z4f t2 t3 t1 s) Dd): ∃a H4,o= .ref a/\zeH H a i v H4/\Dd.nx σv H4:=by
 have h:=M.rd
 erw[RDs] at h
 obtain⟨_,_,e,h1,_,_,e2,h2,_,_,e3,h3,_⟩:=h
 cases e;cases e2;cases e3
 have b2:LB F.toFx ρ s.n (qq t2):=λl h=>M.lb l (by erw[qx];exact b6 _ (e6 _ h))
 delta z4f at W
 cases t2 with
 |dct l ks vs=>
  dsimp only at W
  cases ek:tkey t3 with
  |none=>rw[ek] at W;exact False.elim W
  |some k=>
   rw[ek] at W
   dsimp only at W
   by_cases hc:isT ks=true/\ks.length<qg/\qq t1=[]/\qx vs=[]
   .rw[qy hc] at W
    obtain⟨hT,hz,hv,hvs⟩:=hc
    obtain⟨rfl,kvs,hx,rfl,r⟩:=h2.dctq hT
    obtain⟨b,rfl,hb,_⟩:=zdz h3 ek
    have bl:=b2 l (by erw[qq];exact c9 ..)
    have st:G5 H (upd H (ρ l) (.dT (z0M kvs k v))):=
     ⟨λb ys q=>by rw[y3 (z0o q hx (by intro z;cases z))];exact q,λb o u q=>by rw[y3 (z0o q hx (by intro z;cases z))];exact q⟩
    have pr:=zgA (k:=k) h1 r
    refine⟨ρ l,_,rfl,zeH.t hx hb (by simpa using hz),W ρ σv _ (M.m.put2 bl.1 bl.2 st (z6F M.m.kd hx) ?_ λj hj=> ?_)⟩
    .erw[RD]
     refine⟨trivial, .inr ⟨z0M kvs k v,y6,pr.1, ?_⟩⟩
     exact RDs.stay st _ _ pr.2 λj hj=>by rw[z6K hv hvs] at hj;cases hj
    .erw[qq,pr.1,z6J,z6K hv hvs,e8,i4] at hj
     rw[hj];exact bl
   .rw[qh hc] at W;exact False.elim W
 |_=>exact False.elim W
end
section
variable{G:Gx}{F:Fy}{ρ:Nat->Addr}{H:Hp}{σv tv:List (Option V)}{s:Stt}{a:Addr}{o:HO}{ha:F.A0 a\/F.H0 a=none}{hz: ¬F.Z a}
theorem z6L: ∀{os:List (Option D)} {vs:List (Option V)},Sl G ρ H os vs->∀l∈Z4 os,∃o,H (ρ l)=some o/\(∀xs,o≠ .tup xs)/\∀u w,o≠ .frz u w
 |[],_,_,l,hl=>by erw[Z4] at hl;cases hl
 |none::os,_,h,l,hl=>by
  erw[Sl,Z4] at h hl
  obtain⟨_,_,_,h⟩:=h
  exact z6L h l hl
 |some d::os,_,h,l,hl=>by
  erw[Sl,Z4] at h hl
  obtain⟨v,_,_,h1,h2⟩:=h
  rcases e9.mp hl with q|q
  .exact z8I d v h1 l q
  .exact z6L h2 l q
end
section
variable{X:Cx}{G:Gx}{F:Fy}{e a b c tg iter:bn}{pos:bN}
noncomputable def z4g(lo c:Int)(n:Nat):ItK:=⟨0,λi _=>some (if i<n then some (.int (lo+(i:Int)*c)) else none),λ_=>n⟩
def z8S{lo c:Int}{n:Nat}:zbP G (zjh lo c n) (z4g lo c n) []:=by
 intro F ρ H σv tvp tv s i M
 erw[z4g]
 by_cases h:i<n
 .rw[qy h]
  refine⟨h, ?_⟩
  rintro x H' ⟨rfl,rfl⟩
  exact⟨M,RDs.one (by erw[RD]),λl hl=>by simp[qx,qq] at hl⟩
 .rw[qh h]
  exact L7.mp h
variable{ρ:Nat->Addr}{H:Hp}
def z0S(k:Key):U5 (X3 k)=some k:=by cases k<;>rfl
noncomputable def z28:List D->List D->Key->Option D
 |d::ks,v::vs,k=>if U5 d=some k then some v else z28 ks vs k
 |_,_,_=>none
theorem z29: ∀(kvs:List (Key×V)) (vs:List D) (t:D),RDs G ρ H vs (kvs.map (·.2))->z28 (kvs.map λp=>X3 p.1) vs k=some t->∃v,valV kvs k=some v/\RD G ρ H t v/\t∈vs
 |[],_,_,_,e=>by erw[l0,z28] at e;cases e
 |p::kvs,[],_,_,e=>by erw[b8,z28] at e;cases e
 |p::kvs,w::vs,t,h,e=>by
  erw[b8,RDs] at h
  obtain⟨x,r,e1,h1,h2⟩:=h
  cases e1
  erw[b8,z28,z0S,Option.some.injEq] at e
  by_cases hk:p.1=k
  .rw[qy hk] at e;cases e
   exact⟨_,z1g hk,h1,c9 ..⟩
  .rw[qh hk] at e
   obtain⟨v,a,b,c⟩:=z29 kvs vs t h2 e
   exact⟨v,by rw[z03 hk];exact a,b,b7 _ c⟩
theorem z3I: ∀(kvs:List (Key×V)) (vs:List D),RDs G ρ H vs (kvs.map (·.2))->z28 (kvs.map λp=>X3 p.1) vs k=none->valV kvs k=none
 |[],_,_,_=>rfl
 |p::kvs,[],h,_=>by erw[b8,RDs] at h;cases h
 |p::kvs,w::vs,h,e=>by
  erw[b8,RDs] at h
  obtain⟨x,r,e1,h1,h2⟩:=h
  cases e1
  erw[b8,z28,z0S,Option.some.injEq] at e
  by_cases hk:p.1=k
  .rw[qy hk] at e;cases e
  .rw[qh hk] at e
   rw[z03 hk];exact z3I kvs vs h2 e
theorem RDs.at': ∀{ds:List D} {xs:List V} {i:Nat} {d:D},RDs G ρ H ds xs->ds[i]? =some d->∃x,xs[i]? =some x/\RD G ρ H d x
 |[],xs,i,d,h,e=>by simp at e
 |d::ds,xs,0,d',h,e=>by erw[RDs] at h;obtain⟨x,q,rfl,h1,_⟩:=h;simp at e;subst e;exact⟨x,rfl,h1⟩
 |d::ds,xs,i+1,d',h,e=>by
  erw[RDs] at h
  obtain⟨x,q,rfl,h1,h2⟩:=h
  erw[List.getElem?_cons_succ] at e⊢
  exact RDs.at' h2 e
def zdC(ds:List D):List D:=(So.perm ds.length (zd7 (erL ds))).map λi=>ds.getD i .non
def z7g:List D->M D
 |[.lst l ds]=>λs=>if(plainL ds&&z4S (erL ds)&&(qx ds).isEmpty)=true then .ok (.lst s.n (zdC ds)) s.nxt else .no
 |_=>fl
theorem RDs.len2: ∀{ds:List D} {xs:List V},RDs G ρ H ds xs->ds.length=xs.length
 |[],xs,h=>by erw[RDs] at h;subst h;rfl
 |d::ds,xs,h=>by erw[RDs] at h;obtain⟨x,q,rfl,_,h2⟩:=h;rw[l8,l8,RDs.len2 h2]
theorem RDs.perm{ds:List D}{xs:List V}(h:RDs G ρ H ds xs): ∀q:List Nat,(∀i∈q,i<ds.length)->RDs G ρ H (q.map λi=>ds.getD i .non) (q.map λi=>xs.getD i .non)
 |[],_=>by erw[l0,RDs]
 |i::q,hq=>by
  erw[b8,RDs]
  refine⟨_,_,rfl, ?_,RDs.perm h q λj hj=>hq j (b7 _ hj)⟩
  have hi:=hq i c9
  obtain⟨x,ex,rx⟩:=RDs.at' (i:=i) (d:=ds.getD i .non) h (by simp[hi])
  rw[show xs.getD i .non=x by rw[List.getD_eq_getElem?_getD,ex];rfl]
  exact rx
theorem z58{ds:List D}(h:qx ds=[]): ∀q:List Nat,qx (q.map λi=>ds.getD i .non)=[]
 |[]=>by erw[l0,qx]
 |i::q=>by
  erw[b8,qx]
  rw[z58 h q,e8]
  have gen: ∀(ds:List D) (i:Nat),qx ds=[]->qq (ds.getD i .non)=[]:=by
   intro ds
   induction ds with
   |nil=>intro i _;simp[qq]
   |cons d ds ih=>
    intro i h
    erw[qx,C8] at h
    cases i with
    |zero=>simpa using h.1
    |succ i=>simpa using ih i h.2
  exact gen ds i h
def zgB:k9 G F (zfX G.K) z7g:=by
 intro ρ s ts vs H σv tv Q M W
 delta z7g at W
 split at W
 .rename_i l ds
  split at W
  .rename_i hc
   erw[l9,T6] at hc
   obtain⟨⟨c1,c2⟩,c3⟩:=hc
   obtain⟨v,rfl,h,_⟩:=M.one
   obtain⟨p,xs,rfl,s1,r1,_⟩:=id (h.lstq (ds:=ds) rfl)
   refine⟨p,xs,erL ds,rfl,s1,RDs.dp _ _ r1 c1,c2,λl hl k=> ?_⟩
   have e:=RDs.len2 r1
   rw[<-e] at k⊢
   exact z0Q W M.m (RDs.perm r1 _ So.perm_lt) (λj hj=>by delta zdC at hj;rw[z58 c3] at hj;cases hj) hl k
  .exact False.elim W
 .exact wfl W
def z8T(hk:X.K=G.K)(hu:X.A.units+64<cLine):Cb X G F (.builtin "sorted") z7g:=⟨_,hk▸zas hu,zgB⟩
variable{pos':bN}
def zgC(i:D):M D:=λs=>match s.tm,i with
 |some (.lst l ds)::_, .int k=>(match atI ds k with|some (.int a)=> .ok (.int a) s|_=> .no)
 |_,_=> .no
def ziv:D->D->D->D->MS
 |o,i, .int a, .int b=>z8M o i (.int (a+b))
 |_,_,_,_=>λ_=> .no
def z8U(mo mi me:M D):MS:=z0N mo λo=>z0N (psh o) λ_=>z0N mi λi=>z0N (zgC i) λx=>z0N me λy=>z0N pop λo'=>ziv o' i x y
def zdD{k a:Int}(r:RDs G ρ H ds xs)(e:atI ds k=some (.int a)):atI xs k=some (.int a):=by
 obtain⟨x,h1,h2⟩:=zbL r e
 erw[RD] at h2
 subst h2
 exact h1
def z69(i:Nat)(ds es:List D):Option D:=match ds[i]?,es[i]? with
 |some d,some e=>some (.tup [d,e])
 |_,_=>none
def zgD(i:Nat):List (Option D)->Option (Option D)
 |some c2::some c1::_=>match z5G c1,z5G c2 with
  |some ds,some es=>some (z69 i ds es)
  |_,_=>none
 |_=>none
def zgE:List (Option D)->Nat
 |some c2::some c1::_=>match z5G c1,z5G c2 with
  |some ds,some es=>min ds.length es.length
  |_,_=>0
 |_=>0
def ziw:ItK:=⟨2,zgD,zgE⟩
def zaO{a b:Addr}:zbP G (Itz G.K a b) ziw [some (.ref b),some (.ref a)]:=by
 intro F ρ H σv tvp tv s i M
 dsimp only[ziw]
 cases e:s.tm.drop tvp.length with
 |nil=>trivial
 |cons o r=>
  cases o with
  |none=>trivial
  |some c2=>
   cases r with
   |nil=>trivial
   |cons o r=>
    cases o with
    |none=>trivial
    |some c1=>
     have M0:MR G F ρ H σv (some (.ref b)::some (.ref a)::tv) (s.popn tvp.length):=M.popn
     obtain⟨h2,lb2⟩:=MR.head (s:=s.popn tvp.length) M0 e
     have e':s.tm.drop (tvp++[some (V.ref b)]).length=some c1::r:=by
      rw[n8,<-D2,e];rfl
     have M1:MR G F ρ H σv ((tvp++[some (.ref b)])++(some (.ref a)::tv)) s:=by simpa using M
     have M1':MR G F ρ H σv (some (.ref a)::tv) (s.popn (tvp++[some (V.ref b)]).length):=M1.popn
     obtain⟨h1,lb1⟩:=MR.head (s:=s.popn (tvp++[some (V.ref b)]).length) M1' e'
     erw[zgD]
     cases e1:z5G c1 with
     |none=>trivial
     |some ds=>
      cases e2:z5G c2 with
      |none=>trivial
      |some es=>
       obtain⟨a',xs,ea,sq,rr,sub⟩:=h1.lstq e1
       cases ea
       obtain⟨b',ys,ea,sq',rr',sub'⟩:=h2.lstq e2
       cases ea
       erw[z69]
       cases e3:ds[i]? with
       |none=>exact⟨xs,ys,sq,sq', .inl (by rw[<-rr.length];exact List.getElem?_eq_none_iff.mp e3)⟩
       |some d=>
        cases e4:es[i]? with
        |none=>exact⟨xs,ys,sq,sq', .inr (by rw[<-rr'.length];exact List.getElem?_eq_none_iff.mp e4)⟩
        |some d'=>
         obtain⟨x,ex,rx⟩:=rr.get i d e3
         obtain⟨y,ey,ry⟩:=rr'.get i d' e4
         refine⟨⟨xs,ys,x,y,sq,sq',ex,ey⟩, ?_⟩
         rintro x' H' ⟨p,x1,y1,hp,rfl,rfl,hx,hy,kd⟩
         rw[hx xs sq] at ex
         cases ex
         rw[hy ys sq'] at ey
         cases ey
         have sm:=z0K.new (.tup [x,y]) hp
         refine⟨M.same sm kd,RDs.one ?_,λl hl=> ?_⟩
         .erw[RD]
          refine⟨p,_,rfl,y6, ?_⟩
          have r1:=(RDs.one rx).same sm
          have r2:=(RDs.one ry).same sm
          erw[RDs] at r1 r2⊢
          obtain⟨x,r,e,h1,h2⟩:=r1
          cases e
          obtain⟨y,r,e,h1',h2'⟩:=r2
          cases e
          exact⟨_,_,rfl,h1,_,_,rfl,h1',rfl⟩
         .erw[qx,qq,e8] at hl
          rcases e9.mp hl with q|q
          .exact lb1 l (sub l (qv (List.mem_of_getElem? e3) l q))
          .exact lb2 l (sub' l (qv (List.mem_of_getElem? e4) l q))
def MRL.push2{s:Stt}(M:MRL G F.toFx ρ H σv tv s [t,t'] [v,u]):MR G F.toFx ρ H σv (some u::some v::tv) ((s.psh t).psh t'):=by
 have M1:MRL G F.toFx ρ H σv tv s [t] [v]:=⟨M.m,RDs.one M.rd2.1,λl h=>M.lb2.1 l (by simpa only[qx,e8] using h)⟩
 exact MRL.push ⟨M1.push,RDs.one M.rd2.2,λl h=>M.lb2.2 l (by simpa only[qx,e8] using h)⟩
def zkH(ts:List D):M ItK:=λs=>match ts with
 |[c1,c2]=>match z5G c1,z5G c2 with
  |some _,some _=> .ok ziw ((s.psh c1).psh c2)
  |_,_=> .no
 |_=> .no
def zgF(ms:List (M D)):M ItK:=bd (Y0 ms) zkH
def RD.dctp{l:Nat}(h:RD G ρ H (.dct l (.non::ks) vs) v):v= .ref (ρ l)/\∃kvs:List (Key×V),H (ρ l)=some (.dK kvs)/\ks=kvs.map (λp=>X3 p.1)/\RDs G ρ H vs (kvs.map (·.2)):=by
 erw[RD] at h
 obtain⟨e,⟨kvs,s,s2,r⟩|⟨kvs,s,s2,r⟩⟩:=h
 .injection s2 with _ s2
  exact⟨e,kvs,s,s2,r⟩
 .cases kvs with
  |nil=>cases s2
  |cons p kvs=>erw[b8,dkD] at s2;injection s2 with s2 _;cases s2
def z8V(ks:List D)(k:Key):List D:=if(ks.any λd=>decide (U5 d=some k))=true then ks else ks++[X3 k]
def z59(ks vs:List D)(k:Key)(v:D):List D:=if(ks.any λd=>decide (U5 d=some k))=true then D1 (λd w=>if U5 d=some k then v else w) ks vs else vs++[v]
def zgG(kvs:List (Key×V)):((kvs.map λp=>X3 p.1).any λd=>decide (U5 d=some k))=kvs.any λkv=>decide (kv.1=k):=by
 rw[L4]
 congr 1
 funext p
 erw[Function.comp,z0S,Option.some.injEq]
theorem z4h{k:Key}(h:RD G ρ H t v): ∀(kvs:List (Key×V)) (vs:List D),RDs G ρ H vs (kvs.map (·.2))->
 RDs G ρ H (D1 (λd w=>if U5 d=some k then t else w) (kvs.map λp=>X3 p.1) vs) ((kvs.map (λkv=>if kv.1=k then(kv.1,v) else kv)).map (·.2))
 |[],[],_=>by simp[RDs]
 |[],_::_,h=>by erw[l0,RDs] at h;obtain⟨_,_,e,_⟩:=h;cases e
 |p::kvs,[],h=>by erw[b8,RDs] at h;cases h
 |p::kvs,w::vs,h'=>by
  erw[b8,RDs] at h'
  obtain⟨x,r,e1,h1,h2⟩:=h'
  cases e1
  erw[b8,C7,RDs,z0S,Option.some.injEq]
  by_cases hk:p.1=k
  .rw[qy hk,qy hk];exact⟨_,_,rfl,h,z4h h kvs vs h2⟩
  .rw[qh hk,qh hk];exact⟨_,_,rfl,h1,z4h h kvs vs h2⟩
def zdE{k:Key}{kvs:List (Key×V)}(h:RD G ρ H t v)(r:RDs G ρ H vs (kvs.map (·.2))):
 z8V (kvs.map λp=>X3 p.1) k=(z0M kvs k v).map (λp=>X3 p.1)/\RDs G ρ H (z59 (kvs.map λp=>X3 p.1) vs k t) ((z0M kvs k v).map (·.2)):=by
 delta z8V z59 z0M
 rw[zgG]
 cases e:kvs.any λkv=>decide (kv.1=k) with
 |true=>
  erw[if_true]
  refine⟨?_,z4h h kvs vs r⟩
  rw[A4]
  refine A7 λp _=> ?_
  erw[Function.comp]
  split<;>rfl
 |false=>
  erw[C5,if_false,B1,b8,l0]
  exact⟨trivial,r.append (RDs.one h)⟩
theorem z2V: ∀kvs:List (Key×V),qx (kvs.map λp=>X3 p.1)=[]
 |[]=>rfl
 |p::kvs=>by
  have e:qq (X3 p.1)=[]:=by cases p.1<;>rfl
  erw[b8,qx,e,z2V kvs];rfl
variable{o:bn}{apos cpos:bN}{mo mi mx:M D}
def zaP:M D:=λs=> .ok (.dct s.n [.non] []) s.nxt
def zix(o:D):M Unit:=λs=>match o with
 | .dct l (.non::ks) vs=> .ok () (s.psh (.dct l (.non::ks) vs))
 |_=> .no
def zbU:D->D->D
 | .tup xs,v=> .tup (xs++[v])
 |_,_=> .non
def zgH:D->Bool
 | .tup xs=>decide (xs.length<1000)
 |_=>false
def z7h(ks vs:List D):Bool:=isT ks&&(qx vs).isEmpty&&ks.all zgH&&decide (ks.length<qg)
def fdK(ks vs:List D)(d:D):D:=((tkey d).bind (findK ks vs)).getD .non
def zdF(o:D):M D:=λs=>match o with
 | .dct _ ks vs=>if z7h ks vs=true then .ok (.lst s.n (ks.map λd=>zbU d (fdK ks vs d))) s.nxt else .no
 |_=> .no
theorem z8W: ∀{ps:List Addr} {kvs:List (NK×V)} {ds:List D} {vs:List V},RDs G ρ H2 ds vs->z6w H2 kvs vs ps->vs.length=kvs.length->RDs G ρ H2 (D1 zbU (kvs.map λp=>dkD p.1) ds) (ps.map V.ref)
 |[],[],ds,vs,_,_,_=>by simp[RDs]
 |[],k::kvs,_,_,_,h,_=>by have:=h.1;simp at this
 |p::ps,[],_,_,_,h,_=>by have:=h.1;simp at this
 |p::ps,k::kvs,ds,[],_,_,hv=>by simp at hv
 |p::ps,k::kvs,[],v::vs,r,_,_=>by erw[RDs] at r;cases r
 |p::ps,k::kvs,d::ds,v::vs,r,h,hv=>by
  erw[RDs] at r
  obtain⟨_,_,e1,r1,r2⟩:=r
  cases e1
  obtain⟨xs,p1,p2⟩:=h.2 0 p k v rfl rfl rfl
  have ih:=z8W (ps:=ps) (kvs:=kvs) (vs:=vs) r2 ⟨by have:=h.1;simpa using this,λj b q v h1 h2 h3=>h.2 (j+1) b q v (by simpa using h1) (by simpa using h2) (by simpa using h3)⟩ (by simpa using hv)
  erw[b8,C7,RDs]
  refine⟨_,_,rfl, ?_,ih⟩
  show RD G ρ H2 (.tup (k.1.map nkD++[d])) (.ref p)
  erw[RD]
  exact⟨p,_,rfl,p2,(z8Q p1).append (RDs.one r1)⟩
theorem z5a: ∀(kvs:List (NK×V)) (ds:List D),qx ds=[]->qx (D1 zbU (kvs.map λp=>dkD p.1) ds)=[]
 |[],ds,_=>by simp[qx]
 |k::kvs,[],_=>by simp[qx]
 |k::kvs,d::ds,h=>by
  erw[qx,C8] at h
  have e:=z8R k.1
  erw[dkD,qq] at e
  erw[b8,C7,qx,z5a kvs ds h.2,e8]
  show qq (.tup (k.1.map nkD++[d]))=[]
  erw[qq,J1,e,qx,h.1,e8]
def zdG ks vs:D1 zbU ks (ks.map (fdK ks vs))=ks.map λd=>zbU d (fdK ks vs d):=by
 rw[List.zipWith_map_right]
 generalize fdK ks vs=f
 induction ks with
 |nil=>rfl
 |cons k ks ih=>erw[C7,b8,ih]
def zaQ{ρ:Nat->Addr}{H1 H2:Hp}{D:Addr}{s:Stt}{σv tv:List (Option V)}{Q:VK}{ps:List Addr}{kvs:List (NK×V)}{ds:List Mi.D}{vs:List V}(W:wM G F σv tv (.ok (.lst s.n (D1 zbU (kvs.map λp=>dkD p.1) ds)) s.nxt) Q)(M:MR G F.toFx ρ H1 σv tv s)
 (r:RDs G ρ H1 ds vs) (hl:qx ds=[]) (hD:H1 D=none) (h2:H2 D=some (.lst (ps.map V.ref))) (sm:z0K H1 H2) (rw':z6w H2 kvs vs ps) (hv:vs.length=kvs.length) (kd:KD G.K H2):Q (.ref D) H2:=by
 have e:H2=upd (λb=>if b=D then none else H2 b) D (.lst (ps.map V.ref)):=by
  funext b
  by_cases hb:b=D
  .rw[hb,y6,h2]
  .rw[y3 hb,qh hb]
 have sm':z0K H1 (λb=>if b=D then none else H2 b):=λb o q=>by
  have hb:b≠D:=λz=>by rw[z,hD] at q;cases q
  show(if b=D then none else H2 b)=some o
  rw[qh hb];exact sm b o q
 have tn: ∀b xs,H2 b=some (.tup xs)->(λb=>if b=D then none else H2 b) b=some (.tup xs):=λb xs q=>by
  have hb:b≠D:=z0o q h2 (by intro z;cases z)
  show(if b=D then none else H2 b)=some _
  rw[qh hb];exact q
 have kd':KD G.K (λb=>if b=D then none else H2 b):=λb o' q=>by
  by_cases hb:b=D
  .show(if b=D then none else H2 b)=none
   rw[qy hb]
  .show(if b=D then none else H2 b)=none
   rw[qh hb];exact kd b o' q
 have rr:RDs G ρ (λb=>if b=D then none else H2 b) (D1 zbU (kvs.map λp=>dkD p.1) ds) (ps.map V.ref):=z8W (r.same sm') ⟨rw'.1,λj b q v h1 h2' h3=>by
  obtain⟨xs,z1,z2⟩:=rw'.2 j b q v h1 h2' h3
  exact⟨xs,TKi.tups tn z1,tn _ _ z2⟩⟩ hv
 rw[e] at kd⊢
 exact z0Q W (M.same sm' kd') rr (λj hj=>by rw[z5a kvs ds hl] at hj;cases hj) (by show(if D=D then none else H2 D)=none;rw[qy rfl]) kd
end
theorem zbV{kvs:List (NK×V)}(r:RDs G ρ H vs (kvs.map (·.2))): ∀l:List (NK×V),RDs G ρ H ((l.map λp=>dkD p.1).map (fdK (kvs.map λp=>dkD p.1) vs)) (l.map λq=>(valV kvs q.1).getD .non)
 |[]=>by simp[RDs]
 |q::l=>by
  erw[b8,RDs]
  refine⟨_,_,rfl, ?_,zbV r l⟩
  delta fdK
  rw[z27,P4]
  cases ef:findK (kvs.map λp=>dkD p.1) vs q.1 with
  |none=>rw[z3H kvs vs r ef];erw[RD,E4]
  |some d=>
   obtain⟨w,hv,hd,_⟩:=z3G kvs vs d r ef
   rw[hv];exact hd
theorem z6M(h:qx vs=[]): ∀l:List D,qx (l.map (fdK ks vs))=[]
 |[]=>rfl
 |d::l=>by
  erw[b8,qx,z6M h l,e8]
  delta fdK
  cases tkey d with
  |none=>rfl
  |some k=>
   have gen: ∀(ks vs:List D),qx vs=[]->∀d,findK ks vs k=some d->qq d=[]:=λks=>by
    induction ks with
    |nil=>intro vs _ d e;cases vs<;>simp[findK] at e
    |cons a ks ih=>
     intro vs hv d e
     cases vs with
     |nil=>simp[findK] at e
     |cons v vs=>
      erw[qx,C8] at hv
      erw[findK] at e
      split at e
      .cases e;exact hv.1
      .exact ih vs hv.2 d e
   erw[P4]
   cases ef:findK ks vs k with
   |none=>rfl
   |some d=>exact gen ks vs h d ef
def zaR{ks vs:List D}(h:z7h ks vs=true):isT ks=true/\qx vs=[]/\(∀d∈ks,zgH d=true)/\ks.length<qg:=by
 erw[z7h,l9,T6,B2,decide_eq_true_eq] at h
 exact⟨h.1.1.1,h.1.1.2,h.1.2,h.2⟩
def zgI{kvs:List (NK×V)}(h: ∀d∈kvs.map (λp=>dkD p.1),zgH d=true): ∀q∈kvs,q.1.length<1000:=λq hq=>by
 have:=h _ (i0.mpr ⟨q,hq,rfl⟩)
 simpa[dkD,zgH] using this
end Mi
namespace So
open PySem PySem.W PyProof.Rows
variable{n:Nat}{cmp:Nat->Nat->Bool}
def zdH(h2: ¬n<2)(h:n<64):perm n cmp=(ev (λi j=>cmp (i %n) (j %n)) (fc n)).toList:=by
 delta perm
 rw[qh h2]
 have:=(z0O n λi j=>cmp (i %n) (j %n)).choose_spec.1.2.2 (by lia) h
 exact congrArg Array.toList this
def perm_pm(h:n<64):(perm n cmp).Perm (B3 n):=by
 by_cases h2:n<2
 .delta perm;rw[qy h2]
 .rw[zdH h2 h]
  have:=(zbE (cmp:=λi j=>cmp (i %n) (j %n)) (n:=n) (by lia)).ev.1
  have:=this.toList
  simpa using this
end So
namespace Mi
open PySem L2 PySem.Spec PyProof.Rows
def zdI ds:erL ds=ds.map er:=by
 induction ds with
 |nil=>rfl
 |cons d ds ih=>erw[erL,b8,ih]
end Mi
namespace L2
open PySem PySem.Spec PyProof.Rows
section
variable{X:Cx}{a b c d:bn}{pos:bN}{ta tb tc td:TE}
def z8X(r r' r'':R2)(ta tb tc td:TE):TE:=λ σ H Q=>ta σ H λx H1=>tb σ H1 λy H2=>r x y H2 λz H3=> ∃k,z= .bl k/\
 (if k=true then tc σ H3 λw H4=>r' y w H4 λz' H5=> ∃k',z'= .bl k'/\(if k'=true then td σ H5 λu H6=>r'' w u H6 Q else Q (.bl false) H5) else Q (.bl false) H3)
def z8Y(ho:OpR X (bE op) r)(ho':OpR X (bE op') r')(ho'':OpR X (bE op'') r'')(ha:PE X a ta)(hb:PE X b tb)(hc:PE X c tc)(hd:PE X d td)
 (hm:dA [op,op',op''] [b,c,d]=false:=by with_unfolding_all rfl):PT X (.Compare a [op,op',op''] [b,c,d] pos) (zfg (z8X r r' r'' ta tb tc td)):=by
 intro qz s σ H Q I h
 refine isTrue_chain (thn (ha qz s σ H _ I h) λv s1 ⟨x,H1,I1,r1,q1⟩=>test_link (thn (hb qz s1 σ H1 _ I1 q1) λu s2 ⟨y,H2,I2,r2,q2⟩=>
  thn (ho qz s2 σ H2 x y v u _ I2 r1 r2 q2) λd s3 ⟨z,H3,I3,r3,k,e,q3⟩=> ?_)) hm
 subst e
 cases r3
 refine bB ?_
 cases k with
 |false=>
  obtain⟨k',e',q'⟩:=q3
  cases e'
  exact ite_ff ⟨H3,I3,q'⟩
 |true=>
  refine ite_tt (test_link (thn (hc qz s3 σ H3 _ I3 q3) λw' s4 ⟨z',H4,I4,r4,q4⟩=>thn (ho' qz s4 σ H4 y z' u w' _ I4 r2 r4 q4) ?_))
  rintro d' s5 ⟨z2,H5,I5,r5,k2,e2,q5⟩
  subst e2
  cases r5
  refine bB ?_
  cases k2 with
  |false=>
   obtain⟨k',e',q'⟩:=q5
   cases e'
   exact ite_ff ⟨H5,I5,q'⟩
  |true=>
   refine ite_tt (test_last (thn (hd qz s5 σ H5 _ I5 q5) λw6 s6 ⟨z6,H6,I6,r6,q6⟩=>thn (ho'' qz s6 σ H6 z' z6 w' w6 _ I6 r4 r6 q6) ?_))
   rintro d7 s7 ⟨z7,H7,I7,r7,k7,e7,q7⟩
   subst e7
   cases r7
   exact bB ⟨H7,I7,q7⟩
end
end L2
namespace Mi
open PySem L2 PySem.Spec
def z8Z(y:D)(mc:M D)(g:D->D->M D)(f:D->M D):M D:=bd mc λz=>z2Q z (bd (J3 (g y z)) λk=>z3D k (f z) (rt (.bool false)))
def z2W(ma mb mc md:M D)(g g' g'':D->D->M D):M D:=bd ma λx=>bd (psh x) λ_=>bd mb λy=>bd pop λx'=>z2Q y (bd (J3 (g x' y)) λk=>z3D k (z8Z y mc g' λz=>bd md λw=>g'' z w) (rt (.bool false)))
section
variable{X:Cx}{G:Gx}{F:Fy}{a b c d:bn}{pos:bN}
def z7i(hg:z0d G F r g)(hg':z0d G F r' g')(hg'':z0d G F r'' g'')(h:tM G F (z2W ma mb mc md g g' g'') σ H Q):z8X r r' r'' (tM G F ma) (tM G F mb) (tM G F mc) (tM G F md) σ H Q:=by
 obtain⟨tv,h⟩:=h
 refine⟨tv,(z4W (g:=λx' y=>z2Q y (bd (J3 (g x' y)) λk=>z3D k (z8Z y mc g' λz=>bd md λw=>g'' z w) (rt (.bool false)))) h).mono ?_⟩
 rintro v H1 h1
 refine⟨_,h1.mono ?_⟩
 rintro u H2 ⟨ρ,s,t,t',M,W⟩
 refine z4b (f:=λy=>z8Z y mc g' λz=>bd md λw=>g'' z w) (kf:=λu σ H Q=>tM G F mc σ H λw H4=>r' u w H4 λz' H5=> ∃k',z'= .bl k'/\(if k'=true then tM G F md σ H5 λu H6=>r'' w u H6 Q else Q (.bl false) H5)) h.1 hg M ?_ W
 intro H3 e h5
 refine⟨tv,(z79 h5).mono ?_⟩
 rintro w' H4 ⟨ρ4,s4,t4,M4,W4⟩
 refine z4b (f:=λz=>bd md λw=>g'' z w) (kf:=λu σ H Q=>tM G F md σ H λw H6=>r'' u w H6 Q) h.1 hg' (z61 e M4) ?_ W4
 intro H5 e5 h7
 refine⟨tv,(z79 h7).mono ?_⟩
 rintro w8 H8 ⟨ρ8,s8,t8,M8,W8⟩
 exact hg'' ρ8 s8 t4 t8 w' w8 H8 σ tv Q (z61 e5 M8) W8
end
open PyProof.Rows
section
variable{X:Cx}{G:Gx}{F:Fy}{e:bn}
def z6N{s:Stt}{l:Nat}(M:MR G F.toFx ρ H σv tv s)(h:RD G ρ H (.dct l ks ds) v)(r:RDs G ρ H ds xs)(lb: ∀j∈qq (.dct l ks ds),j<s.n):l∉qx ds:=λhl=>by
 have e0:v= .ref (ρ l):=by erw[RD] at h;exact h.1
 subst e0
 have:=findL_some l ds xs r hl
 cases e:findL l ds with
 |none=>rw[e] at this;cases this
 |some d=>
  obtain⟨q1,q2⟩:=findL_rd l ds xs d r e
  have e2:=RD.uniq M.kd M.inj _ _ _ q1 h (λj hj=>lb j (by erw[qq];exact b7 _ (b6 _ (q2 j hj)))) lb
  have e3:=findL_sz l ds d e
  rw[e2] at e3
  erw[sz] at e3
  lia
theorem z5b{j:Nat}: ∀{ds:List D},j∈qx ds->∃d∈ds,j∈qq d
 |[],h=>by erw[qx] at h;cases h
 |d::ds,h=>by
  erw[qx] at h
  rcases e9.mp h with q|q
  .exact⟨d,c9 ..,q⟩
  .obtain⟨e,he,hj⟩:=z5b q
   exact⟨e,b7 _ he,hj⟩
variable{tg iter:bn}{pos:bN}
def tSx(G:Gx)(mb:MS):TS:=λD σ H=> ∃F:Fy,tS G F mb D σ H
variable{b:bn}
def zeO(ts:List D):M ItK:=match ts with
 |[.int j]=>if 0<=j/\j<2^62 then rt (z4g (j - 1) (-1) j.toNat) else fl
 |_=>fl
def z90(ms:List (M D)):M ItK:=bd (Y0 ms) zeO
variable{o a:bn}{apos cpos:bN}{mo mi mx:M D}
def z7j{j:Nat}(h:j∈qx (z59 ks vs k v)):j∈qq v\/j∈qx vs:=by
 obtain⟨d,hd,hj⟩:=z5b h
 delta z59 at hd
 split at hd
 .obtain⟨i,hi,e⟩:=C9 hd
  rw[R6] at e
  subst e
  split at hj
  .exact .inl hj
  .exact .inr (qv (l6 _) j hj)
 .rcases e9.mp hd with q|q
  .exact .inr (qv q j hj)
  .rw[i4.mp q] at hj;exact .inl hj
def z5c(o i x:D):M D:=λs=>match o with
 | .dct l (.non::ks) vs=>match U5 i with
  |some k=>if ks.length<qg/\l∉qq x then(match z28 ks vs k with
   |some d=> .ok d s
   |none=> .ok x (s.put l (.dct l (.non::z8V ks k) (z59 ks vs k x)))) else .no
  |none=> .no
 |_=> .no
def z6a(mo mi mx:M D):M D:=bd mo λo=>bd (zix o) λ_=>bd mi λi=>bd (psh i) λ_=>bd mx λx=>bd pop λi'=>bd pop λo'=>z5c o' i' x
def zaS{σ:L2.St}{H:Hp}{Q:VK}(h:tM G F (z6a mo mi mx) σ H Q):zbG (tM G F mo) (tM G F mi) (tM G F mx) σ H (λv H'=>KD G.K H'->Q v H'):=by
 obtain⟨tv,hs,ρ,s,M,W⟩:=h
 refine⟨tv,hs,ρ,s,M, ?_⟩
 delta z6a at W
 erw[bd] at W
 cases e0:mo s with
 |ex d s1=>erw[e0] at W;exact W
 |no=>erw[e0] at W;exact W
 |ok o s1=>
  erw[e0] at W
  intro ρ1 v H1 M1
  delta zix at W
  try dsimp only at W
  split at W
  .rename_i u s1' hh
   split at hh
   .rename_i l ks vs
    cases hh
    have h1:=M1.rd1
    obtain⟨rfl,kvs,hx,rfl,r⟩:=h1.dctp
    refine⟨ρ1 l,rfl, .inl ⟨kvs, .inl hx⟩, ?_⟩
    refine⟨some (.ref (ρ1 l))::tv,z5F hs,ρ1,_,M1.push, ?_⟩
    cases e2:mi (s1.psh (.dct l (.non::kvs.map λp=>X3 p.1) vs)) with
    |ex d s3=>erw[e2] at W;exact W
    |no=>erw[e2] at W;exact W
    |ok i s2=>
     erw[e2,psh] at W
     intro ρ2 y H2 M2
     refine⟨some y::some (.ref (ρ1 l))::tv,z5F (z5F hs),ρ2,s2.psh i,M2.push, ?_⟩
     cases e3:mx (s2.psh i) with
     |ex d s4=>erw[e3] at W;exact W
     |no=>erw[e3] at W;exact W
     |ok x s3=>
      erw[e3,pop] at W
      intro ρ3 z H3 M3
      cases e4:s3.tm with
      |nil=>erw[e4] at W;exact False.elim W
      |cons o3 r3=>
       cases o3 with
       |none=>erw[e4] at W;exact False.elim W
       |some x3=>
        erw[e4] at W
        cases r3 with
        |nil=>exact False.elim W
        |cons o4 r4=>
         cases o4 with
         |none=>exact False.elim W
         |some x4=>
          have M4:=M3.down e4
          have M5:=M4.down (s':={s3 with tm:=some x4::r4}) rfl
          have h:=M5.rd
          erw[RDs] at h
          obtain⟨_,_,e,g1,_,_,e2,g2,_,_,e3,g3,_⟩:=h
          cases e;cases e2;cases e3
          have b1:LB F.toFx ρ3 s3.n (qq x4):=λl h=>M5.lb l (by erw[qx];exact e6 _ h)
          have b3:LB F.toFx ρ3 s3.n (qq x):=λl h=>M5.lb l (by erw[qx,e8];exact b6 _ (b6 _ h))
          delta z5c at W
          dsimp only at W
          split at W
          .rename_i l' ks' vs'
           cases ek:U5 x3 with
           |none=>rw[ek] at W;exact False.elim W
           |some k=>
            rw[ek] at W
            dsimp only at W
            by_cases hc:ks'.length<qg/\l'∉qq x
            .rw[qy hc] at W
             obtain⟨hz,hlx⟩:=hc
             have g1':=g1
             obtain⟨el,kvs',hx',rfl,r'⟩:=g1.dctp
             injection el with el
             obtain⟨rfl,_⟩:=z1L g2 ek
             have ns:=z6N M5.m g1' r' λj hj=>(b1 j hj).1
             have bl:=b1 l' (by erw[qq];exact c9 ..)
             have bv:LB F.toFx ρ3 s3.n (qx vs'):=λj hj=>b1 j (by erw[qq];exact b7 _ (b6 _ hj))
             refine⟨kvs',k,by rw[el];exact hx',rfl,by simpa using hz,λv hv=> ?_,λhv=> ?_⟩
             .cases ef:z28 (kvs'.map λp=>X3 p.1) vs' k with
              |none=>rw[z3I kvs' vs' r' ef] at hv;cases hv
              |some d=>
               rw[ef] at W
               obtain⟨w,hv',hd,hm⟩:=z29 kvs' vs' d r' ef
               rw[hv] at hv'
               cases hv'
               exact λ_=>wM.out (s:={s3 with tm:=r4}) W M5.m hd λj hj=>bv j (qv hm j hj)
             .cases ef:z28 (kvs'.map λp=>X3 p.1) vs' k with
              |some d=>
               obtain⟨w,hv',hd,hm⟩:=z29 kvs' vs' d r' ef
               rw[hv] at hv';cases hv'
              |none=>
               rw[ef] at W
               dsimp only at W
               intro kd
               have st:G5 H3 (upd H3 (ρ3 l') (.dK (z0M kvs' k z))):=
                ⟨λb ys q=>by rw[y3 (z0o q hx' (by intro z;cases z))];exact q,λb o u q=>by rw[y3 (z0o q hx' (by intro z;cases z))];exact q⟩
               have pr:=zdE (k:=k) g3 r'
               have lbp: ∀j∈qx (z59 (kvs'.map λp=>X3 p.1) vs' k x),(j<s3.n/\(F.A0 (ρ3 j)\/F.H0 (ρ3 j)=none))/\j≠l':=λj hj=>by
                rcases z7j hj with q|q
                .exact⟨b3 j q,λz=>hlx (z▸q)⟩
                .exact⟨bv j q,λz=>ns (z▸q)⟩
               rw[el]
               have up:RDs G ρ3 (upd H3 (ρ3 l') (.dK (z0M kvs' k z))) [x] [z]:=RDs.upd (a:=0) st M5.m.inj bl.1 (RDs.one g3) λj hj=>by
                erw[qx,e8] at hj
                exact⟨(b3 j hj).1,λz=>hlx (z▸hj)⟩
               refine wM.out (s:=Stt.put {s3 with tm:=r4} l' (.dct l' (.non::z8V (kvs'.map λp=>X3 p.1) k) (z59 (kvs'.map λp=>X3 p.1) vs' k x))) W (M5.m.put2 bl.1 bl.2 st (z6F M5.m.kd hx') ?_ λj hj=> ?_) (by
                erw[RDs] at up
                obtain⟨_,_,e,h,_⟩:=up
                cases e
                exact h) b3
               .erw[RD]
                refine⟨trivial, .inl ⟨z0M kvs' k z,y6,by rw[pr.1], ?_⟩⟩
                exact RDs.upd (a:=0) st M5.m.inj bl.1 pr.2 λj hj=>⟨(lbp j hj).1.1,(lbp j hj).2⟩
               .erw[qq,qx,pr.1,z2V,l5] at hj
                rcases c8.mp hj with q|q
                .rw[q];exact bl
                .exact(lbp j q).1
            .rw[qh hc] at W;exact False.elim W
          .exact False.elim W
   .cases hh
  .rename_i hh
   split at hh<;>cases hh
  .exact False.elim W
end
def zbW(i:Nat):List (Option D)->Option (Option D)
 |some (.fdc (.non::ks) vs)::_=>some (z69 i ks vs)
 |_=>none
def zdJ:List (Option D)->Nat
 |some (.fdc (.non::ks) _)::_=>ks.length
 |_=>0
def kDitp:ItK:=⟨1,zbW,zdJ⟩
def dzP(d:D)(s:Stt):Option Stt:=match d with
 | .dct l (.non::ks) vs=>some ((s.put l (.fdc (.non::ks) vs)).psh (.fdc (.non::ks) vs))
 | .fdc (.non::ks) vs=>some (s.psh (.fdc (.non::ks) vs))
 |_=>none
def z2v(m:M D):M ItK:=bd m λd s=>match dzP d s with
 |some s'=> .ok kDitp s'
 |none=> .no
def Fy.frw(F:Fy)(a:Addr)(o:HO):Fy where
 A0:=λx=>F.A0 x/\x≠a
 H0:=upd F.H0 a o
 Z:=F.Z
 zA:=λx z=>by
  obtain⟨⟨o',e⟩,n⟩:=F.zA x z
  refine⟨?_,λq=>n q.1⟩
  by_cases hx:x=a
  .exact⟨o,by rw[hx,y6]⟩
  .exact⟨o',by rw[y3 hx];exact e⟩
 aH:=λx q=>by
  obtain⟨o',e⟩:=F.aH x q.1
  exact⟨o',by rw[y3 q.2];exact e⟩
 n0:=F.n0
 ρ0:=F.ρ0
 tv0:=F.tv0
 xw:=F.xw
section
variable{G:Gx}{F:Fy}{ρ:Nat->Addr}{H:Hp}{σv tv:List (Option V)}{s:Stt}{a:Addr}{o:HO}
def MR.frwIn(M:MR G F.toFx ρ H σv tv s)(h:H a=some o)(hm: ∃u w,o= .frz u w):MR G (F.frw a o).toFx ρ H σv tv s:=by
 have ne: ∀l∈J2 s,ρ l≠a:=λl hl e=>by
  obtain⟨u,w,rfl⟩:=hm
  have: ∃o,H (ρ l)=some o/\(∀xs,o≠ .tup xs)/\∀u w,o≠ .frz u w:=by
   rcases e9.mp hl with q|q
   .exact z6L M.sl l q
   .exact z6L M.tm l q
  obtain⟨o',e1,_,e3⟩:=this
  rw[e,h] at e1
  cases e1
  exact e3 _ _ rfl
 refine⟨M.sl,M.tm,M.inj,M.dom,M.lab,λl hl=> ?_,λx o' e=> ?_,M.kd,M.frb,M.bas⟩
 .rcases M.own l hl with q|q
  .exact .inl ⟨q,ne l hl⟩
  .exact .inr (by show upd F.H0 a o (ρ l)=none;rw[y3 (ne l hl)];exact q)
 .have e:upd F.H0 a o x=some o':=e
  by_cases hx:x=a
  .subst hx
   rw[y6] at e
   cases e
   exact⟨⟨o,h⟩,λ_=>h⟩
  .rw[y3 hx] at e
   obtain⟨q1,q2⟩:=M.frm x o' e
   exact⟨q1,λn=>q2 λz=>n ⟨z,hx⟩⟩
def MR.frwOut(w:F.A0 a\/F.H0 a=none\/F.H0 a=some o)(M:MR G (F.frw a o).toFx ρ H σv tv s):MR G F.toFx ρ H σv tv s:=by
 refine⟨M.sl,M.tm,M.inj,M.dom,M.lab,λl hl=> ?_,λx o' e=> ?_,M.kd,M.frb,M.bas⟩
 .rcases M.own l hl with q|q
  .exact .inl q.1
  .have q:upd F.H0 a o (ρ l)=none:=q
   by_cases hx:ρ l=a
   .rw[hx,y6] at q;cases q
   .rw[y3 hx] at q;exact .inr q
 .by_cases hx:x=a
  .subst hx
   obtain⟨q,q2⟩:=M.frm x o y6
   refine⟨q,λn=> ?_⟩
   rcases w with z|z|z
   .exact absurd z n
   .rw[z] at e;cases e
   .rw[z] at e;cases e;exact q2 λz=>z.2 rfl
  .obtain⟨q1,q2⟩:=M.frm x o' (by show upd F.H0 a o x=some o';rw[y3 hx];exact e)
   exact⟨q1,λn=>q2 λz=>n z.1⟩
def MRL.frwOut(w:F.A0 a\/F.H0 a=none\/F.H0 a=some o)(M:MRL G (F.frw a o).toFx ρ H σv tv s ts vs):MRL G F.toFx ρ H σv tv s ts vs:=by
 refine⟨M.m.frwOut w,M.rd,λl hl=> ?_⟩
 obtain⟨q1,q⟩:=M.lb l hl
 refine⟨q1, ?_⟩
 rcases q with q|q
 .exact .inl q.1
 .have q:upd F.H0 a o (ρ l)=none:=q
  by_cases hx:ρ l=a
  .rw[hx,y6] at q;cases q
  .rw[y3 hx] at q;exact .inr q
def MR.frwAt(M:MR G (F.frw a o).toFx ρ H σv tv s):H a=some o:=(M.frm a o y6).2 λz=>z.2 rfl
def z91{tvp:List (Option V)}(M:MR G F' ρ H σv (tvp++([some (.ref a)]++tv)) s)(h:H a=some (.frz u (.dK kvs)))(i:Nat):match kDitp.at' i (s.tm.drop tvp.length) with
 |none=>True
 |some none=>(z6x G.K a u kvs).stop i H
 |some (some d)=>(z6x G.K a u kvs).go i H/\∀x H',(z6x G.K a u kvs).yld i H x H'->MRL G F' ρ H' σv (tvp++([some (.ref a)]++tv)) s [d] [x]:=by
 dsimp only[kDitp]
 cases e:s.tm.drop tvp.length with
 |nil=>trivial
 |cons c0 r=>
  cases c0 with
  |none=>trivial
  |some c=>
   obtain⟨hc,lb⟩:=MR.head (s:=s.popn tvp.length) M.popn e
   cases c with
   |fdc ks vs=>
    cases ks with
    |nil=>trivial
    |cons k0 ks=>
     cases k0 with
     |non=>
      erw[zbW]
      erw[RD] at hc
      obtain⟨a',u',w',xs',ea,hx,fz,rv⟩:=hc
      cases ea
      rw[h] at hx
      cases hx
      obtain⟨kvs',e0,hk,hxs⟩|⟨kvs',e0,hk,hxs⟩:=fz
      rotate_left
      .cases e0
      cases e0
      injection hk with _ hk
      subst hk hxs
      have lv:=RDs.len2 rv
      erw[i5] at lv
      erw[z69]
      cases e3:kvs[i]? with
      |none=>
       rw[List.getElem?_map,e3]
       exact⟨List.getElem?_eq_none_iff.mp e3,h⟩
      |some p=>
       have hi:=(List.getElem?_eq_some_iff.mp e3).1
       cases e4:vs[i]? with
       |none=>exact absurd (List.getElem?_eq_none_iff.mp e4) (by lia)
       |some d=>
        rw[List.getElem?_map,e3]
        refine⟨⟨hi,h⟩, ?_⟩
        rintro x H' ⟨q,k,v,hq,rfl,rfl,hk,kd⟩
        rw[hk] at e3
        cases e3
        have sm:=z0K.new (.tup [kV k,v]) hq
        obtain⟨w,ew,rw'⟩:=rv.get i d e4
        have ev:w=v:=by
         rw[List.getElem?_map,hk] at ew
         exact(Option.some.inj ew).symm
        subst ev
        have rk:RD G ρ (upd H q (.tup [kV k,w])) (X3 k) (kV k):=by cases k<;>erw[X3,kV,RD]
        refine⟨M.same sm kd,RDs.one ?_,λl hl=> ?_⟩
        .erw[RD]
         refine⟨q,_,rfl,y6, ?_⟩
         have r1:=(RDs.one rw').same sm
         erw[RDs] at r1⊢
         obtain⟨_,_,e5,h1,_⟩:=r1
         cases e5
         exact⟨_,_,rfl,rk,_,_,rfl,h1,rfl⟩
        .have e1:qq (X3 k)=[]:=by cases k<;>rfl
         erw[qx,qq,e8,e1,l5] at hl
         exact lb l (by erw[qq];exact qv (List.mem_of_getElem? e4) l hl)
     |_=>trivial
   |_=>trivial
variable{σ:List (Option V)}{s1:Stt}{t:D}{v:V}
def zbX(M0:MRL G F.toFx ρ H σ tv s [t] [v])(e:dzP t s=some s1): ∃(a:Addr) (kvs:List (Key×V)),v= .ref a/\((H a=some (.dK kvs)/\∀o,(F.A0 a\/F.H0 a=none\/F.H0 a=some (.frz o (.dK kvs)))/\MR G F.toFx ρ (upd H a (.frz o (.dK kvs))) σ ([some (.ref a)]++tv) s1)\/
 ∃o,H a=some (.frz o (.dK kvs))/\(F.A0 a\/F.H0 a=none\/F.H0 a=some (.frz o (.dK kvs)))/\MR G F.toFx ρ H σ ([some (.ref a)]++tv) s1):=by
 unfold dzP at e
 split at e
 .rename_i l ks vs
  cases e
  have rd0:=M0.rd1
  have rd1:=rd0
  obtain⟨rfl,kvs,hx,hks,r⟩:=rd0.dctp
  have ns:=z6N M0.m rd1 r λj hj=>(M0.lb1 j hj).1
  have bl:=M0.lb1 l (by erw[qq];exact c9 ..)
  have bv:LB F.toFx ρ s.n (qx vs):=λj hj=>M0.lb1 j (by erw[qq];exact b7 _ (b6 _ hj))
  refine⟨ρ l,kvs,rfl, .inl ⟨hx,λu=>⟨?_, ?_⟩⟩⟩
  .rcases bl.2 with q|q
   .exact .inl q
   .exact .inr (.inl q)
  have st:G5 H (upd H (ρ l) (.frz u (.dK kvs))):=
   ⟨λb ys q=>by rw[y3 (z0o q hx (by intro z;cases z))];exact q,λb o w q=>by rw[y3 (z0o q hx (by intro z;cases z))];exact q⟩
  have rdF:RD G ρ (upd H (ρ l) (.frz u (.dK kvs))) (.fdc (.non::ks) vs) (.ref (ρ l)):=by
   erw[RD]
   exact⟨ρ l,u,_,_,rfl,y6, .inl ⟨kvs,rfl,by rw[hks],rfl⟩,RDs.upd (a:=0) st M0.m.inj bl.1 r λj hj=>⟨(bv j hj).1,λz=>ns (z▸hj)⟩⟩
  have lbF: ∀j∈qq (.fdc (.non::ks) vs),j<s.n/\(F.A0 (ρ j)\/F.H0 (ρ j)=none):=λj hj=>bv j (by simpa only[qq] using hj)
  have M2:=M0.m.put2 bl.1 bl.2 st (z6F M0.m.kd hx) rdF lbF
  exact MRL.push ⟨M2,RDs.one rdF,λj hj=>by erw[qx,e8] at hj;exact lbF j hj⟩
 .rename_i ks vs
  cases e
  have rd0:=M0.rd1
  erw[RD] at rd0
  obtain⟨a,o,u,xs,rfl,hx,fz,r⟩:=rd0
  obtain⟨kvs,rfl,hk,hxs⟩|⟨kvs,rfl,hk,hxs⟩:=fz
  rotate_left
  .cases kvs with
   |nil=>cases hk
   |cons p q=>erw[b8,dkD] at hk;injection hk with hk _;cases hk
  refine⟨a,kvs,rfl, .inr ⟨o,hx, ?_,M0.push⟩⟩
  by_cases q:F.A0 a
  .exact .inl q
  .cases e:F.H0 a with
   |none=>exact .inr (.inl rfl)
   |some o0=>
    have:=(M0.m.frm a o0 e).2 q
    rw[hx] at this
    exact .inr (.inr this.symm)
 .cases e
end
noncomputable def zbY(K:ItK)(g:Tg)(mk mv:M D)(ol:Nat):Nat->Nat->List Key->M D
 |f,i,ks=>λs=>match K.at' i (s.tm.drop (ks.length+ol)) with
  |none=> .no
  |some none=>match Y6 (s.tm.take ks.length).reverse with
   |some ds=> .ok (.dct s.n (.non::ks.map X3) ds) {σ:=(s.tm.drop ks.length).take ol,tm:=s.tm.drop (ks.length+ol+K.k),n:=s.n+1}
   |none=> .no
  |some (some d)=>match f with
   |0=> .no
   |f+1=>match asg g d s.σ with
    |none=> .no
    |some σ'=>match mk {s with σ:=σ'} with
     | .ok y s1=>match U5 y with
      |some k=>if(ks.any λx=>decide (x=k))=false/\ks.length<qg then(match mv s1 with
       | .ok z s2=>zbY K g mk mv ol f (i+1) (ks++[k]) (s2.psh z)
       |_=> .no) else .no
      |none=> .no
     |_=> .no
def z3J(mi:M ItK)(g:Tg)(mk mv:M D)(own:Nat)(ix:List Nat):M D:=bd mi λK s=>zbY K g mk mv s.σ.length (K.len s.tm) 0 [] (z2R own ix s)
section
variable{X:Cx}{G:Gx}{F:Fy}{tg iter ke ve:bn}{pos:bN}
def Fy.protD(F:Fy)(D:Addr)(ys:List (Key×V))(h:F.H0 D=none):Fy where
 A0:=F.A0
 H0:=upd F.H0 D (.dK ys)
 Z:=λa=>a=D\/F.Z a
 zA:=λa z=>by
  rcases z with rfl|z
  .exact⟨⟨_,y6⟩,λq=>by obtain⟨o,e⟩:=F.aH _ q;rw[h] at e;cases e⟩
  .obtain⟨⟨o,e⟩,n⟩:=F.zA a z
   exact⟨⟨o,by rw[y3 (j0 e h)];exact e⟩,n⟩
 aH:=λa q=>by
  obtain⟨o,e⟩:=F.aH a q
  exact⟨o,by rw[y3 (j0 e h)];exact e⟩
 n0:=F.n0
 ρ0:=F.ρ0
 tv0:=[]
 xw:=λ_ _=>False
def MR.enterD{ρ:Nat->Addr}{H:Hp}{σv tv:List (Option V)}{s:Stt}{D:Addr}(M:MR G F.toFx ρ H σv tv s)(hD:H D=none)(k:KD G.K (upd H D (.dK [])))(own:Nat)(ix:List Nat):
 MR G (F.protD D [] (M.fresh0 hD)).toFx ρ (upd H D (.dK [])) (z05 own ix σv) (σv++tv) (z2R own ix s):=by
 have sm:=z0K.new (.dK []) hD
 have M1:=M.same sm k
 have nD: ∀l,l<s.n->ρ l≠D:=λl hl e=>by
  obtain⟨o,q⟩:=M.dom l hl
  rw[e,hD] at q;cases q
 have sub: ∀l∈J2 (z2R own ix s),l∈J2 s:=λl h=>by
  rcases e9.mp h with h|h
  .have h:l∈Z4 (m7 own none++ix.map (λi=>(s.σ[i]?).getD none)):=h
   rw[Z7] at h
   rcases e9.mp h with h|h
   .exact absurd h (z1G own)
   .exact e6 _ (z0R h)
  .have h:l∈Z4 (s.σ++s.tm):=h
   rw[Z7] at h
   exact h
 refine⟨?_,M1.sl.append M1.tm,M1.inj,M1.dom,λl h=>M.lab l (sub l h),λl h=> ?_,λa o e=> ?_,k,λl hl z=> ?_,M.bas⟩
 .exact(Sl.none_map own).append (M1.sl.pick ix)
 .rcases M.own l (sub l h) with q|q
  .exact .inl q
  .refine .inr ?_
   show upd F.H0 D (.dK []) (ρ l)=none
   rw[y3 (nD l (M.lab l (sub l h)))];exact q
 .have e:upd F.H0 D (.dK []) a=some o:=e
  by_cases ha:a=D
  .subst ha
   rw[y6] at e;cases e
   exact⟨⟨_,y6⟩,λ_=>y6⟩
  .rw[y3 ha] at e
   exact M1.frm a o e
 .rcases z with z|z
  .exact nD l hl z
  .exact M.frb l hl z
def MR.turnDD{ρ:Nat->Addr}{H:Hp}{σv tv:List (Option V)}{s:Stt}{D:Addr}{ys ys':List (Key×V)}{hf:F.H0 D=none}(M:MR G (F.protD D ys hf).toFx ρ H σv tv s):
 H D=some (.dK ys)/\MR G (F.protD D ys' hf).toFx ρ (upd H D (.dK ys')) σv tv s:=by
 have hD:H D=some (.dK ys):=(M.frm D (.dK ys) y6).2 ((F.protD D ys hf).zA D (.inl rfl)).2
 have nD: ∀l,l<s.n->ρ l≠D:=λl hl e=>M.frb l hl (.inl e)
 have st:G5 H (upd H D (.dK ys')):=⟨λb xs e=>by rw[y3 (z0o e hD (by intro z;cases z))];exact e,λb o u e=>by rw[y3 (z0o e hD (by intro z;cases z))];exact e⟩
 refine⟨hD,⟨Sl.stay st M.sl λl hl=>⟨rfl,λo e=> ?_⟩,Sl.stay st M.tm λl hl=>⟨rfl,λo e=> ?_⟩,M.inj,λl hl=> ?_,M.lab,λl h=> ?_,λa o e=> ?_,λa o e=> ?_,λl hl=>M.frb l hl,M.bas⟩⟩
 .rw[y3 (nD l (M.lab l (e6 _ hl)))];exact e
 .rw[y3 (nD l (M.lab l (b6 _ hl)))];exact e
 .rw[y3 (nD l hl)];exact M.dom l hl
 .rcases M.own l h with q|q
  .exact .inl q
  .refine .inr ?_
   have q:upd F.H0 D (.dK ys) (ρ l)=none:=q
   show upd F.H0 D (.dK ys') (ρ l)=none
   rw[y3 (nD l (M.lab l h))] at q⊢;exact q
 .have e:upd F.H0 D (.dK ys') a=some o:=e
  by_cases ha:a=D
  .subst ha
   rw[y6] at e;cases e
   exact⟨⟨_,y6⟩,λ_=>y6⟩
  .rw[y3 ha] at e⊢
   exact M.frm a o (by show upd F.H0 D (.dK ys) a=some o;rw[y3 ha];exact e)
 .by_cases ha:a=D
  .subst ha
   rw[M.kd a o e] at hD;cases hD
  .rw[y3 ha];exact M.kd a o e
def MR.leaveD{ρ:Nat->Addr}{H:Hp}{σi σv tvs tv:List (Option V)}{s:Stt}{ys:List (Key×V)}{hf:F.H0 A1=none}{ds:List D}{kk:Nat}
 (M:MR G (F.protD A1 ys hf).toFx ρ H σi (((ys.map (·.2)).reverse.map some)++(σv++(tvs++tv))) s) (hk:tvs.length=kk) ol (ho:σv.length=ol) (e:Y6 (s.tm.take ys.length).reverse=some ds):
 MRL G F.toFx (ext ρ s.n A1) H σv tv {σ:=(s.tm.drop ys.length).take ol,tm:=s.tm.drop (ys.length+ol+kk),n:=s.n+1} [.dct s.n (.non::ys.map λp=>X3 p.1) ds] [.ref A1]:=by
 subst hk ho
 have hD:=(MR.turnDD (ys':=ys) M).1
 have nD: ∀l,l<s.n->ρ l≠A1:=λl hl e=>M.frb l hl (.inl e)
 have t0:=Sl.split ((ys.map (·.2)).reverse.map some) M.tm
 erw[i5,F2] at t0
 obtain⟨t1,t2⟩:=t0
 obtain⟨t3,t4⟩:=Sl.split σv t2
 obtain⟨_,t6⟩:=Sl.split tvs t4
 rw[D2] at t4
 rw[D2,D2] at t6
 have t6':Sl G ρ H (s.tm.drop (ys.length+σv.length+tvs.length)) tv:=by rw[F6];exact t6
 have t1':=t1.reverse
 rw[<-P3,M9] at t1'
 obtain⟨r1,r2⟩:=Sl.all t1' e
 have lt: ∀l,l∈Z4 (s.tm.take ys.length)->l∈J2 s:=λl h=>b6 _ (by
  have e:=Z7 (s.tm.take ys.length) (s.tm.drop ys.length)
  rw[B9] at e
  rw[e];exact e6 _ h)
 have ld: ∀l k,l∈Z4 (s.tm.drop k)->l∈J2 s:=λl k h=>b6 _ (by
  have e:=Z7 (s.tm.take k) (s.tm.drop k)
  rw[B9] at e
  rw[e];exact b6 _ h)
 have ldt: ∀l k j,l∈Z4 ((s.tm.drop k).take j)->l∈J2 s:=λl k j h=>ld l k (by
  have e:=Z7 ((s.tm.drop k).take j) ((s.tm.drop k).drop j)
  rw[B9] at e
  rw[e];exact e6 _ h)
 have own: ∀l∈J2 s,F.A0 (ρ l)\/F.H0 (ρ l)=none:=λl h=>by
  rcases M.own l h with q|q
  .exact .inl q
  .refine .inr ?_
   have q:upd F.H0 A1 (.dK ys) (ρ l)=none:=q
   rw[y3 (nD l (M.lab l h))] at q;exact q
 have st:=G5.refl H
 have stay: ∀l,l<s.n->ext ρ s.n A1 l=ρ l/\∀o,H (ρ l)=some o->H (ρ l)=some o:=λl hl=>⟨Y3 hl,λo e=>e⟩
 have all: ∀l∈J2 {σ:=(s.tm.drop ys.length).take σv.length,tm:=s.tm.drop (ys.length+σv.length+tvs.length),n:=s.n+1},l∈J2 s:=λl h=>by
  rcases e9.mp h with h|h
  .exact ldt l _ _ h
  .exact ld l _ h
 have dsl: ∀l∈qx ds,l∈J2 s:=λl h=>lt l (by rw[r2] at h;exact z1H.mp h)
 refine⟨⟨Sl.stay st t3 λl hl=>stay l (M.lab l (ldt l _ _ hl)),Sl.stay st t6' λl hl=>stay l (M.lab l (ld l _ hl)),λi j hi hj eq=> ?_,λl hl=> ?_,λl h=>C6 (M.lab l (all l h)),λl h=> ?_,λa o e=> ?_,M.kd,λl hl z=> ?_,⟨O7 M.bas.1,λl hl=>by rw[Y3 (l4 hl M.bas.1)];exact M.bas.2 l hl⟩⟩, ?_,λl h=> ?_⟩
 .have hi:i<s.n+1:=hi
  have hj:j<s.n+1:=hj
  by_cases h1:i=s.n
  .by_cases h2:j=s.n
   .lia
   .rw[h1,Q4,Y3 (by lia)] at eq
    exact absurd eq.symm (nD j (by lia))
  .by_cases h2:j=s.n
   .rw[h2,Q4,Y3 (by lia)] at eq
    exact absurd eq (nD i (by lia))
   .rw[Y3 (by lia),Y3 (by lia)] at eq
    exact M.inj i j (by lia) (by lia) eq
 .have hl:l<s.n+1:=hl
  by_cases h1:l=s.n
  .subst h1;rw[Q4];exact⟨_,hD⟩
  .rw[Y3 (by lia)];exact M.dom l (by lia)
 .rw[Y3 (M.lab l (all l h))];exact own l (all l h)
 .exact M.frm a o (by show upd F.H0 A1 (.dK ys) a=some o;rw[y3 (j0 e hf)];exact e)
 .have hl:l<s.n+1:=hl
  by_cases h1:l=s.n
  .subst h1;rw[Q4] at z
   obtain⟨⟨o,e⟩,_⟩:=F.zA A1 z
   rw[hf] at e;cases e
  .rw[Y3 (by lia)] at z
   exact M.frb l (by lia) (.inr z)
 .refine RDs.one ?_
  erw[RD]
  rw[Q4]
  exact⟨rfl, .inl ⟨ys,hD,rfl,RDs.stay st ds (ys.map (·.2)) r1 λl hl=>stay l (M.lab l (dsl l hl))⟩⟩
 .erw[qx,qq,z2V,l5,e8] at h
  rcases c8.mp h with q|q
  .rw[q,Q4];exact⟨m8 _, .inr hf⟩
  .have q2:=dsl l q
   exact⟨C6 (M.lab l q2),by rw[Y3 (M.lab l q2)];exact own l q2⟩
def z7k{K:W.Frag}{k:Nat}{ix:List Nat}{m0:M D}{g:Tg}{mk mv:M D}{σ:L2.St}{H:Hp}{Q:VK}(hk:K=G.K)(h:tM G F (z3J (z2v m0) g mk mv k ix) σ H Q):zbH K (zg0 K (tM G F m0)) (tGx G g) (tMx G mk) (tMx G mv) k ix σ H Q:=by
 obtain⟨tv,hsf,ρ,s,M,W⟩:=h
 refine⟨tv,hsf,ρ,s,M, ?_⟩
 unfold z3J z2v bd at W
 subst hk
 cases em:m0 s with
 |ex d s1=>rw[em] at W;exact W
 |no=>rw[em] at W;exact W
 |ok t s0=>
  rw[em] at W
  dsimp only at W
  intro ρ1 v H1 M0
  cases ez:dzP t s0 with
  |none=>rw[ez] at W;exact False.elim W
  |some s1=>
  rw[ez] at W
  dsimp only at W
  obtain⟨a,kvs,rfl,key⟩:=zbX M0 ez
  refine⟨a,kvs,rfl, ?_⟩
  have tail: ∀(u:bJ) (H2:Hp),(F.A0 a\/F.H0 a=none\/F.H0 a=some (.frz u (.dK kvs)))->H2 a=some (.frz u (.dK kvs))->MR G F.toFx ρ1 H2 σ ([some (.ref a)]++tv) s1->∀A1,H2 A1=none->(∀a o,G.K.lookup a=some o->upd H2 A1 (.dK []) a=none)->
   ∃W:Nat->Nat->List (Key×V)->L2.St->Hp->Prop,(∃m,W 0 m [] (z05 k ix σ) (upd H2 A1 (.dK [])))/\∀i m ys σ' H',W i m ys σ' H'->H' A1=some (.dK ys)/\(((z6x G.K a u kvs).stop i H'/\Q (.ref A1) H')\/
    ((z6x G.K a u kvs).go i H'/\∀x H3,(z6x G.K a u kvs).yld i H' x H3->tGx G g x σ' H3 λ σ2 H3=>tMx G mk σ2 H3 λy H4=> ∃k,y=kV k/\tMx G mv σ2 H4 λz H5=>H5 A1=some (.dK ys)/\ys.length<qg/\∃m',m'<m/\W (i+1) m' (z0M ys k z) σ2 (upd H5 A1 (.dK (z0M ys k z))))):=by
   intro u H2 w ha M1 A1 hA1 kd
   have M1:=M1.frwIn ha ⟨_,_,rfl⟩
   have nA:a≠A1:=λe=>by rw[e,hA1] at ha;cases ha
   have outL: ∀{ρ H s ts vs},MRL G (F.frw a (.frz u (.dK kvs))).toFx ρ H σ tv s ts vs->MRL G F.toFx ρ H σ tv s ts vs:=λh=>h.frwOut w
   have at': ∀{ρ H σv tv s ys} {hf:(F.frw a (.frz u (.dK kvs))).H0 A1=none},MR G ((F.frw a (.frz u (.dK kvs))).protD A1 ys hf).toFx ρ H σv tv s->H a=some (.frz u (.dK kvs)):=λ{ρ H σv tv s ys hf} h=>
    (h.frm a _ (by show upd (upd F.H0 a (.frz u (.dK kvs))) A1 (.dK ys) a=some _;rw[y3 nA,y6])).2 λz=>z.2 rfl
   generalize F.frw a (.frz u (.dK kvs))=F1 at*
   have kd:KD G.K (upd H2 A1 (.dK [])):=kd
   have hf:=M1.fresh0 hA1
   refine⟨λi m ys σ' H'=> ∃ρ s,MR G (F1.protD A1 ys hf).toFx ρ H' σ' (((ys.map (·.2)).reverse.map some)++(σ++([some (.ref a)]++tv))) s/\wM G F σ tv (zbY kDitp g mk mv s1.σ.length m i (ys.map (·.1)) s) Q,⟨_,ρ1,_,M1.enterD hA1 kd k ix,W⟩, ?_⟩
   rintro i m ys σ' H' ⟨ρ2,s2,M2,W2⟩
   have hD:=(MR.turnDD (ys':=ys) M2).1
   refine⟨hD, ?_⟩
   have ol:s1.σ.length=σ.length:=M1.sl.length
   have haf:H' a=some (.frz u (.dK kvs)):=at' M2
   have ok:=z91 (tvp:=((ys.map (·.2)).reverse.map some)++σ) (a:=a) (tv:=tv) (by rw[A2];exact M2) haf i
   simp only[n8,i5,F2,<-ol,A2] at ok
   unfold zbY at W2
   erw[i5] at W2
   cases e:kDitp.at' i (s2.tm.drop (ys.length+s1.σ.length)) with
   |none=>erw[e] at W2;exact False.elim W2
   |some o=>
    rw[e] at ok
    cases o with
    |none=>
     erw[e] at W2 ok
     refine .inl ⟨ok, ?_⟩
     cases ea:Y6 (s2.tm.take ys.length).reverse with
     |none=>erw[ea] at W2;exact False.elim W2
     |some ds=>
      erw[ea,A4] at W2
      exact W2 _ _ _ (outL (MR.leaveD M2 rfl _ ol.symm ea))
    |some d=>
     erw[e] at W2 ok
     cases m with
     |zero=>exact False.elim W2
     |succ f=>
      dsimp only at W2
      cases e2:asg g d s2.σ with
      |none=>erw[e2] at W2;exact False.elim W2
      |some σ3=>
       erw[e2] at W2
       refine .inr ⟨ok.1,λx H3 y=> ?_⟩
       have hx:=ok.2 x H3 y
       refine⟨F1.protD A1 ys hf,_,ρ2,s2,d,hx,σ3,e2,λ σv' M3=>⟨F1.protD A1 ys hf,_,N3,ρ2,_,M3, ?_⟩⟩
       cases e3:mk {s2 with σ:=σ3} with
       |ex d s4=>erw[e3] at W2;exact False.elim W2
       |no=>erw[e3] at W2;exact False.elim W2
       |ok yd s4=>
        erw[e3] at W2
        intro ρ4 v H4 M4
        cases ek:U5 yd with
        |none=>erw[ek] at W2;exact False.elim W2
        |some kk=>
         erw[ek] at W2
         obtain⟨rfl,_⟩:=z1L M4.rd1 ek
         refine⟨kk,rfl, ?_⟩
         by_cases hz:((ys.map (·.1)).any λx=>decide (x=kk))=false/\ys.length<qg
         .rw[qy hz] at W2
          refine⟨F1.protD A1 ys hf,_,N3,ρ4,s4,M4.m, ?_⟩
          cases e5:mv s4 with
          |ex d s5=>erw[e5] at W2;exact False.elim W2
          |no=>erw[e5] at W2;exact False.elim W2
          |ok zd s5=>
           erw[e5] at W2
           intro ρ5 v H5 M5
           have hp:z0M ys kk v=ys++[(kk,v)]:=by
            unfold z0M
            rw[qh]
            have:=hz.1
            rw[L4] at this
            rw[show(ys.any λkv=>decide (kv.1=kk))=false from this]
            exact n9
           obtain⟨hD5,M6⟩:=MR.turnDD (ys':=z0M ys kk v) M5.push
           refine⟨hD5,hz.2,f,m8 _,ρ5,s5.psh zd, ?_, ?_⟩
           .rw[hp] at M6⊢
            rw[B1,F3,b8,l0,A9,L8,l5,B1]
            exact M6
           .rw[hp,B1];exact W2
         .rw[qh hz] at W2;exact False.elim W2
  rcases key with⟨ha,key⟩|⟨u,ha,w,M1⟩
  .exact .inl ⟨ha,λu=>tail u _ (key u).1 y6 (key u).2⟩
  .exact .inr ⟨u,ha,tail u _ w ha M1⟩
end
end Mi
namespace L2
open PySem PySem.Spec PyProof.Rows
section
variable{X:Cx}{k v:bn}{pos:bN}{tk tv:TE}
def z92(K:W.Frag)(tk tv:TE):TE:=λ σ H Q=> ∀p,H p=none->(∀a o,K.lookup a=some o->upd H p (.dK []) a=none)->z81 [(tk,tv)] σ (upd H p (.dK [])) λps H2=> ∃y kk,ps=[(kV kk,y)]/\H2 p=some (.dK [])/\Q (.ref p) (upd H2 p (.dK [(kk,y)]))
def z93(hk:PE X k tk)(hv:PE X v tv):PE X (.Dict [some k] [v] pos) (z92 X.K tk tv):=by
 intro qz s σ H Q I q
 have hn:=I.hok.fresh (b9 s.heap.objs.size)
 have I1:=I.laid (a:=s.heap.objs.size) (o:= .dK []) (h':=s.heap.push {cls:= .type "dict",data:= .dict #[]}) (t':=s.toks) (λ_ _ q=>Heap.get?_push_of_some _ q) (b9 _) (z3Y s.heap I.big)
 have hp:PPs X pos [some k] [v] [(tk,tv)]:=zal hk hv zcU
 refine wpAny_Dict_walk (knd:=Y8 X.prog X.w) rfl rfl (by simp) (by simp) (thn (hp qz _ σ _ _ I1 (q _ hn λa o e=>(I1.bs a o (I1.ok.mod.kin a o e)).2)) ?_)
 rintro ws s2 ⟨ps,H2,I2,rel,y,kk,ep,e,q2⟩
 have ep:ps=[(kk,y)].map (λkv=>(kV kv.1,kv.2)):=ep
 subst ep
 obtain⟨rs,c,rk⟩:=z3u (P:=X.prog) (w:=X.w) rel
 obtain⟨z,hd,vs0,r0,dd⟩:=zag I2.hok e
 cases r0
 refine⟨rs,c,dd,λh' dd' hs=>⟨.ref s.heap.objs.size,_, ?_,rfl,q2⟩⟩
 have he: ∃q,h'.get? s.heap.objs.size=some q:=let⟨q,_,_,hq,_⟩:=dd';⟨q,hq⟩
 exact z2D I2 (by rw[e];exact True.intro) hs he (z6s (kvs:=zbs [] [(kk,y)]) (by rw[fy];show 1<=16777216;decide) hd (rk.merge .nil) dd')
end
end L2
namespace Mi
open PySem L2 PySem.Spec PyProof.Rows
section
variable{X:Cx}{G:Gx}{F:Fy}{a b:bn}{pos:bN}
def dpP(d k v:D):M D:=λs=>match d with
 | .dct l [.non] []=>match U5 k with
  |some kk=>if l∉qq v then .ok (.dct l [.non,X3 kk] [v]) (s.put l (.dct l [.non,X3 kk] [v])) else .no
  |none=> .no
 |_=> .no
def z3K(mk mv:M D):M D:=λs=>match mk (s.nxt.psh (.dct s.n [.non] [])) with
 | .ok k s2=>(match mv (s2.psh k) with
  | .ok v s3=>(match s3.tm with
   |some k'::some d'::r=>dpP d' k' v {s3 with tm:=r}
   |_=> .no)
  | .ex d s'=> .ex d s'
  | .no=> .no)
 | .ex d s'=> .ex d s'
 | .no=> .no
def z94{mk mv:M D}{σ:L2.St}{H:Hp}{Q:VK}(h:tM G F (z3K mk mv) σ H Q):z92 G.K (tM G F mk) (tM G F mv) σ H (λv H'=>KD G.K H'->Q v H'):=by
 obtain⟨tv,hs,ρ,s,M,W⟩:=h
 intro p hp kd
 have rd:RD G (ext ρ s.n p) (upd H p (.dK [])) (.dct s.n [.non] []) (.ref p):=by
  erw[RD]
  rw[Q4]
  exact⟨rfl, .inl ⟨[],y6,rfl,by simp[RDs]⟩⟩
 have M1:MR G F.toFx (ext ρ s.n p) (upd H p (.dK [])) σ (some (.ref p)::tv) (s.nxt.psh (.dct s.n [.non] [])):=MRL.push ⟨M.new hp kd,RDs.one rd,λl hl=>by
  erw[qq,qx,e8,i4] at hl
  rw[hl]
  exact⟨m8 _,by rw[Q4];exact .inr (M.fresh0 hp)⟩⟩
 delta z3K at W
 show tM G F mk σ _ λx H1=>tM G F mv σ H1 λy H2=>_
 refine⟨some (.ref p)::tv,z5F hs,_,_,M1, ?_⟩
 cases e1:mk (s.nxt.psh (.dct s.n [.non] [])) with
 |ex d s'=>rw[e1] at W;exact W
 |no=>rw[e1] at W;exact W
 |ok k s2=>
  rw[e1] at W
  dsimp only at W
  intro ρ2 x H2 M2
  refine⟨some x::some (.ref p)::tv,z5F (z5F hs),ρ2,s2.psh k,M2.push, ?_⟩
  cases e2:mv (s2.psh k) with
  |ex d s'=>rw[e2] at W;exact W
  |no=>rw[e2] at W;exact W
  |ok v s3=>
   rw[e2] at W
   dsimp only at W
   intro ρ3 y H3 M3
   cases e3:s3.tm with
   |nil=>erw[e3] at W;exact False.elim W
   |cons o3 r3=>
    cases o3 with
    |none=>erw[e3] at W;exact False.elim W
    |some x3=>
     erw[e3] at W
     cases r3 with
     |nil=>exact False.elim W
     |cons o4 r4=>
      cases o4 with
      |none=>exact False.elim W
      |some x4=>
       dsimp only at W
       have M4:=M3.down e3
       have M5:=M4.down (s':={s3 with tm:=some x4::r4}) rfl
       show ∃y' ks,_
       have h:=M5.rd
       erw[RDs] at h
       obtain⟨_,_,ee,h1,_,_,ee2,h2,_,_,ee3,h3,_⟩:=h
       cases ee;cases ee2;cases ee3
       have b1:LB F.toFx ρ3 s3.n (qq x4):=λl h=>M5.lb l (by erw[qx];exact e6 _ h)
       have b3:LB F.toFx ρ3 s3.n (qq v):=λl h=>M5.lb l (by erw[qx,e8];exact b6 _ (b6 _ h))
       delta dpP at W
       split at W
       .rename_i l
        cases ek:U5 x3 with
        |none=>rw[ek] at W;exact False.elim W
        |some kk=>
         rw[ek] at W
         dsimp only at W
         by_cases hv:l∉qq v
         .rw[qy hv] at W
          obtain⟨ep,kvs,hx,hks,r⟩:=h1.dctp
          have e0:kvs=[]:=by cases kvs with|nil=>rfl|cons _ _=>simp at hks
          subst e0
          obtain⟨rfl,_⟩:=z1L h2 ek
          have ep:p=ρ3 l:=by cases ep;rfl
          subst ep
          refine⟨_,kk,rfl,hx,λkd'=> ?_⟩
          have bl:l<s3.n/\(F.A0 (ρ3 l)\/F.H0 (ρ3 l)=none):=b1 l (by erw[qq];exact c9 ..)
          have st:G5 H3 (upd H3 (ρ3 l) (.dK [(kk,y)])):=
           ⟨λb ys q=>by rw[y3 (z0o q hx (by intro z;cases z))];exact q,λb o u q=>by rw[y3 (z0o q hx (by intro z;cases z))];exact q⟩
          have e:qq (X3 kk)=[]:=by cases kk<;>rfl
          have rd2:RD G ρ3 (upd H3 (ρ3 l) (.dK [(kk,y)])) (.dct l [.non,X3 kk] [v]) (.ref (ρ3 l)):=by
           erw[RD]
           refine⟨trivial, .inl ⟨[(kk,y)],y6,rfl, ?_⟩⟩
           exact RDs.upd (a:=0) st M5.m.inj bl.1 (RDs.one h3) λj hj=>by
            erw[qx,e8] at hj
            exact⟨(b3 j hj).1,λz=>hv (z▸hj)⟩
          have lb2: ∀j∈qq (.dct l [.non,X3 kk] [v]),j<s3.n/\(F.A0 (ρ3 j)\/F.H0 (ρ3 j)=none):=λj hj=>by
           erw[qq,qx,e,e8,l5] at hj
           rcases c8.mp hj with q|q
           .rw[q];exact bl
           .exact b3 j q
          exact W.out (M5.m.put2 bl.1 bl.2 st kd' rd2 lb2) rd2 lb2
         .rw[qh hv] at W;exact False.elim W
       .exact False.elim W
end
end Mi
namespace My
open PySem L2 PySem.Spec PyProof.Rows Mi
@[irreducible] def SE(X:Cx)(G:Gx)(F:Fy)(e:bn)(m:M D):Prop:=Mi.SE X G F e m
def eSE X G F e m:SE X G F e m=Mi.SE X G F e m:=by delta SE;rfl
@[irreducible] def SA(X:Cx)(G:Gx)(F:Fy)(e:List bn)(m:M (List D)):Prop:=Mi.SA X G F e m
def eSA X G F e m:SA X G F e m=Mi.SA X G F e m:=by delta SA;rfl
@[irreducible] def SB(X:Cx)(G:Gx)(F:Fy)(e:bn)(m:M Bool):Prop:=Mi.SB X G F e m
def eSB X G F e m:SB X G F e m=Mi.SB X G F e m:=by delta SB;rfl
@[irreducible] def SW(X:Cx)(G:Gx)(F:Fy)(e:bn)(m:M Bool):Prop:=Mi.SW X G F e m
def eSW X G F e m:SW X G F e m=Mi.SW X G F e m:=by delta SW;rfl
@[irreducible] def SS(X:Cx)(G:Gx)(F:Fy)(e:Stmt)(m:MS):Prop:=Mi.SS X G F e m
def eSS X G F(e:Stmt)(m:MS):SS X G F e m=Mi.SS X G F e m:=by delta SS;rfl
@[irreducible] def SSs(X:Cx)(G:Gx)(F:Fy)(e:List Stmt)(m:MS):Prop:=Mi.SSs X G F e m
def zbZ X G F e(m:MS):SSs X G F e m=Mi.SSs X G F e m:=by delta SSs;rfl
@[irreducible] def SG(X:Cx)(G:Gx)(F:Fy)(e:bn)(m:Tg):Prop:=Mi.SG X G F e m
def eSG X G F e(m:Tg):SG X G F e m=Mi.SG X G F e m:=by delta SG;rfl
@[irreducible] def SGs(X:Cx)(G:Gx)(F:Fy)(e:List bn)(m:List Tg):Prop:=Mi.SGs X G F e m
def zc0 X G F e m:SGs X G F e m=Mi.SGs X G F e m:=by delta SGs;rfl
@[irreducible] def SI(X:Cx)(G:Gx)(F:Fy)(tg e:bn)(m:M ItK):Prop:=Mi.SI X G F tg e m
def eSI X G F tg e m:SI X G F tg e m=Mi.SI X G F tg e m:=by delta SI;rfl
@[irreducible] def SO(X:Cx)(G:Gx)(F:Fy)(e:Option bn)(m:Option (M D)):Prop:=Mi.SO X G F e m
def eSO X G F e m:SO X G F e m=Mi.SO X G F e m:=by delta SO;rfl
@[irreducible] def STs(X:Cx)(G:Gx)(F:Fy)(e:List bn)(m:M Bool):Prop:=Mi.STs X G F e m
def za1 X G F e m:STs X G F e m=Mi.STs X G F e m:=by delta STs;rfl
local macro_rules | `(tactic| walk_at "go") => `(tactic| (simp only [eSE, eSA, eSB, eSW, eSS, zbZ, eSG, zc0, eSI, eSO, za1] at *))
section
variable{X:Cx}{G:Gx}{F:Fy}{e a b c:bn}{pos:bN}
def zgJ i{x:Str}(hk:X.K=G.K)(h:PE X (.Name x pos) (zcw i)):SE X G F (.Name x pos) (y0 i):=by
 walk_at "go"
 refine PE.imp hk h ?_
 rintro σ H Q ⟨tv,hs,ρ,s,M,W⟩
 delta y0 at W
 cases e:s.σ[i]? with
 |none=>rw[e] at W;exact W.elim
 |some o=>
  cases o with
  |none=>rw[e] at W;exact W.elim
  |some t=>
   rw[e] at W
   obtain⟨v,h1,h2⟩:=M.sl.get i t e
   refine⟨v,h1,λ_=>W ρ v H ⟨M,RDs.one h2,λl hl=> ?_⟩⟩
   erw[qx,e8] at hl
   have:=z1F e l hl
   exact⟨M.lab l (e6 _ this),M.own l (e6 _ this)⟩
def ziy(hk:X.K=G.K)(h:PE X e (tC v))(hd:cV d=some v:=by rfl):SE X G F e (mC d):=by
 walk_at "go"
 refine PE.imp hk h λ σ H Q ⟨tv,hs,ρ,s,M,W⟩ _=>W ρ v H ⟨M,RDs.one (z7b hd).1,λl hl=> ?_⟩
 erw[qx,(z7b (G:=G) (ρ:=ρ) (H:=H) hd).2] at hl
 cases hl
def z2X:SO X G F none none:=by
 walk_at "go"
 intro qz s σ H Q I ⟨tv,hs,ρ,ms,M,W⟩
 exact zcJ qz s σ H Q I (W ρ H M)
def z0v(h:SE X G F e m):SO X G F (some e) (some m):=by
 walk_at "go"
 intro qz s σ H Q I ⟨tv,hs,ρ,ms,M,W⟩
 refine zcK h qz s σ H Q I ⟨tv,hs,ρ,ms,M, ?_⟩
 erw[z3r,bd] at W
 cases e1:m ms with
 |ok d s1=>
  rw[e1] at W
  intro ρ' v H' M'
  cases d with
  |int i=>
   have h:=M'.rd1
   erw[RD] at h
   exact⟨i,h,W ρ' H' M'.m⟩
  |_=>exact False.elim W
 |ex d s1=>rw[e1] at W;exact W
 |no=>rw[e1] at W;exact W
def z0w{lo hi:Option bn}{p2:bN}{m:M D}{ml mh:Option (M D)}(hk:X.K=G.K)(he:SE X G F e m)(hl:SO X G F lo ml)(hh:SO X G F hi mh):SE X G F (.Subscript e (.Slice lo hi none p2) pos) (mSl m ml mh):=by
 walk_at "go"
 refine PE.imp hk (zad (r:=λx lo hi H Q=>zjg X.K x lo hi H Q\/zj4 X.K x lo hi H Q) (SlR.or zd4 zcP) he hl hh) λ σ H Q ⟨tv,h⟩=>⟨tv, ?_⟩
 obtain⟨hs,ρ,s,M,W⟩:=z79 h
 refine⟨hs,ρ,s,M,W.mono λv H1 ⟨ρ1,s1,t,M1,W1⟩=>⟨some v::tv,z5F hs,ρ1,s1.psh t,M1.push, ?_⟩⟩
 erw[bd,psh] at W1
 cases e1:z3r ml (s1.psh t) with
 |ex d s2=>rw[e1] at W1;exact W1
 |no=>rw[e1] at W1;exact W1
 |ok l s2=>
  rw[e1] at W1
  intro ρ2 H2 M2
  refine⟨some v::tv,z5F hs,ρ2,s2,M2, ?_⟩
  dsimp only at W1
  cases e2:z3r mh s2 with
  |ex d s3=>rw[e2] at W1;exact W1
  |no=>rw[e2] at W1;exact W1
  |ok h s3=>
   rw[e2] at W1
   intro ρ3 H3 M3
   erw[pop] at W1
   cases e3:s3.tm with
   |nil=>rw[e3] at W1;exact W1.elim
   |cons o r=>
    cases o with
    |none=>rw[e3] at W1;exact W1.elim
    |some t'=>
     rw[e3] at W1
     have M4:MRL G F.toFx ρ3 H3 σ tv {s3 with tm:=r} [t'] [v]:=MRL.down (ts:=[]) (vs:=[]) ⟨M3,rfl,λl h=>by simp[qx] at h⟩ e3
     rw[hk]
     exact zjw M4 W1
def x8{x1}(hk:X.K=G.K)(h:SA X G F es (Y0 ms)):SE X G F (.Tuple es x1 pos) (mCB ms x6):=by
 walk_at "go"
 exact PE.imp hk (zbq h) λ_ _ _ h=>z2z zga h
def G3(hk:X.K=G.K)(h:SA X G F es (Y0 ms)):SE X G F (.List es pos) (mCB ms lstM):=by
 walk_at "go"
 exact PE.imp hk (zfj h) λ_ _ _ h=>z2z zgb h
def SW.sb(h:SW X G F e m):SB X G F e m:=by
 walk_at "go"
 exact PW.pt h
def z95(h:SB X G F a m):SW X G F (.BoolOp .And [a] pos) m:=by
 walk_at "go"
 exact zcx h
def z3L(h:SB X G F a m):SW X G F (.BoolOp .Or [a] pos) m:=by
 walk_at "go"
 exact zeY h
def z6O(ha:SB X G F a m)(hb:SW X G F (.BoolOp .And (b::rest) pos) m'):SW X G F (.BoolOp .And (a::b::rest) pos) (zaA m m'):=by
 walk_at "go"
 refine PW.imp0 (zeZ ha hb) λ σ H Q ⟨tv,h⟩=>⟨tv,(zdo h).mono λb H1 ⟨ρ1,s1,M1,W⟩=> ?_⟩
 cases b with
 |true=>rw[qy rfl];exact⟨tv,h.1,ρ1,s1,M1,W⟩
 |false=>rw[qh n9];exact W ρ1 H1 M1
def z7l(ha:SB X G F a m)(hb:SW X G F (.BoolOp .Or (b::rest) pos) m'):SW X G F (.BoolOp .Or (a::b::rest) pos) (mOr m m'):=by
 walk_at "go"
 refine PW.imp0 (ziF ha hb) λ σ H Q ⟨tv,h⟩=>⟨tv,(zdo h).mono λb H1 ⟨ρ1,s1,M1,W⟩=> ?_⟩
 cases b with
 |true=>rw[qy rfl];exact W ρ1 H1 M1
 |false=>rw[qh n9];exact⟨tv,h.1,ρ1,s1,M1,W⟩
def z96(ha:SB X G F a m):SB X G F (.UnaryOp .Not a pos) (zbM m):=by
 walk_at "go"
 refine PT.imp0 (zf0 ha) λ σ H Q ⟨tv,h⟩=>⟨tv,(zdo h).mono λb H1 ⟨ρ1,s1,M1,W⟩=>W ρ1 H1 M1⟩
def z97{op}(h:SE X G F a m):SE X G F (.BoolOp op [a] pos) m:=by
 walk_at "go"
 exact zf1 h
def zgK{rest:List bn}{m m':M D}(ha:SE X G F a m)(hb:SE X G F (.BoolOp .And (b::rest) pos) m'):SE X G F (.BoolOp .And (a::b::rest) pos) (zaB m m'):=by
 walk_at "go"
 refine PE.imp0 (zf2 ha hb) λ σ H Q h=>(z8B h).mono λx H1 ⟨k,e,ρ1,s1,tv,hs,M1,W⟩=>⟨k,e, ?_⟩
 cases k with
 |true=>rw[qy rfl];exact⟨tv,hs,ρ1,s1,M1,W⟩
 |false=>rw[qh n9];exact W.flat M1 rfl
def zgL{rest:List bn}{m m':M D}(ha:SE X G F a m)(hb:SE X G F (.BoolOp .Or (b::rest) pos) m'):SE X G F (.BoolOp .Or (a::b::rest) pos) (zbN m m'):=by
 walk_at "go"
 refine PE.imp0 (ziI ha hb) λ σ H Q h=>(z8B h).mono λx H1 ⟨k,e,ρ1,s1,tv,hs,M1,W⟩=>⟨k,e, ?_⟩
 cases k with
 |true=>rw[qy rfl];exact W.flat M1 rfl
 |false=>rw[qh n9];exact⟨tv,hs,ρ1,s1,M1,W⟩
def zgM{m:M D}(ha:SE X G F a m):SE X G F (.UnaryOp .Not a pos) (zaC m):=by
 walk_at "go"
 refine PE.imp0 (zf3 ha) λ σ H Q h=>(z8B h).mono λx H1 ⟨k,e,ρ1,s1,tv,hs,M1,W⟩=>⟨k,e,W.flat M1 rfl⟩
variable{st:Stmt}{sts rest:List Stmt}
def J6:SSs X G F [] sNx:=by
 walk_at "go"
 exact PSs.imp0 zcy λD σ H ⟨tv,hs,ρ,s,M,W⟩=>W ρ σ H M
def y4(h1:SS X G F st m)(h2:SSs X G F rest m'):SSs X G F (st::rest) (W9 m m'):=by
 walk_at "go"
 refine PSs.imp0 (za6 h1 h2) λD σ H ⟨tv,hs,ρ,s,M,W⟩=>⟨tv,hs,ρ,s,M, ?_⟩
 delta W9 at W
 cases e:m s with
 |nx s'=>rw[e] at W;exact λ ρ' σv' H' M'=>⟨tv,hs,ρ',s',M',W⟩
 |rt d s'=>rw[e] at W;exact W
 |bk s'=>rw[e] at W;exact W
 |ct s'=>rw[e] at W;exact W
 |ex d s'=>rw[e] at W;exact W
 |no=>rw[e] at W;exact W
def Z3(h1:SS X G F st m):SSs X G F [st] m:=by
 walk_at "go"
 exact zcz h1
def z2Y(he:SE X G F e m)(hs:cD e none pos.line X.env=pure false:=by rfl):SS X G F (.Expr e pos) (z26 m):=by
 walk_at "go"
 exact PS.imp0 (zcA he hs) λD σ H ⟨tv,h⟩=>⟨tv,(z0t h).mono λv H1 ⟨ρ1,s1,t,M1,W⟩=>W ρ1 σ H1 M1.m⟩
def Y4(he:SE X G F e m):SS X G F (.Return (some e) pos) (G2 m):=by
 walk_at "go"
 exact PS.imp0 (zf4 he) λD σ H ⟨tv,h⟩=>⟨tv,(z0t h).mono λv H1 ⟨ρ1,s1,t,M1,W⟩=>W ρ1 σ v H1 M1⟩
def X5(hc:SB X G F c mc)(ha:SSs X G F x m)(hb:SSs X G F y m'):SS X G F (.If c x y pos) (sIf mc m m'):=by
 walk_at "go"
 refine PS.imp0 (ziL hc ha hb) λD σ H ⟨tv,h⟩=>⟨tv,(z8D h).mono λk H1 ⟨ρ1,s1,M1,W⟩=> ?_⟩
 cases k with
 |true=>rw[qy rfl];exact⟨tv,h.1,ρ1,s1,M1,W⟩
 |false=>rw[qh n9];exact⟨tv,h.1,ρ1,s1,M1,W⟩
def Y1{i:Nat}(h:PG X (.Name x p) (z5M i)):SG X G F (.Name x p) (.nm i):=by
 walk_at "go"
 intro qz s σ H v u Q I r ⟨tv,ρ,ms,t,M,σ',e,k⟩
 erw[asg,Option.some.injEq] at e
 subst e
 exact h qz s σ H v u Q I r (k _ (M.setS i).m)
def X6:SGs X G F [] []:=by
 walk_at "go"
 intro qz s σ H vs us Q I r ⟨tv,ρ,ms,ts,M,σ',e,k⟩
 cases ts with
 |nil=>
  erw[asgL,Option.some.injEq] at e
  subst e
  have h:=M.rd
  erw[RDs] at h
  exact zcB qz s σ H vs us Q I r ⟨h,k _ M.m⟩
 |cons d ds=>erw[asgL] at e;cases e
def Y2(h1:SG X G F e g)(h2:SGs X G F es gs)(hs:(bG (e::es) X.env).map (·.2)=cz e X.env::(bG es X.env).map (·.2):=by rfl):SGs X G F (e::es) (g::gs):=by
 walk_at "go"
 refine PGs.imp0 (za7 h1 h2 hs) ?_
 rintro vs σv H Q ⟨tv,ρ,s,ts,M,σ',e,k⟩
 cases ts with
 |nil=>erw[asgL] at e;cases e
 |cons d ds=>
  erw[asgL] at e
  cases e1:asg g d s.σ with
  |none=>rw[e1] at e;cases e
  |some σ1=>
   rw[e1] at e
   obtain⟨v,r,rfl,M1,h2,lb⟩:=M.cons_inv
   exact⟨v,r,rfl,tv,ρ,s,d,M1,σ1,e1,λ σv1 M2=>⟨tv,ρ,{s with σ:=σ1},ds,⟨M2,h2,lb⟩,σ',e,k⟩⟩
def z0G{k:Nat}{gs:List Tg}(hk:X.K=G.K)(hc:X.calm=true)(h:SGs X G F es gs)(hn:(bG es X.env).length=gs.length:=by rfl)(hst:(bG es X.env).findIdx? (·.1)=none:=by rfl):SG X G F (.Tuple es k pos) (.tp gs):=by
 walk_at "go"
 refine PG.imp0 (zfW hc h hn hst) ?_
 rintro v σv H Q ⟨tv,ρ,s,t,M,σ',e,kk⟩
 have len: ∀{gs:List Tg} {ds:List D} {σ σ':List (Option D)},asgL gs ds σ=some σ'->ds.length=gs.length:=by
  intro gs
  induction gs with
  |nil=>intro ds σ σ' e;cases ds with
   |nil=>rfl
   |cons _ _=>erw[asgL] at e;cases e
  |cons g gs ih=>intro ds σ σ' e;cases ds with
   |nil=>erw[asgL] at e;cases e
   |cons d ds=>
    erw[asgL] at e
    cases e1:asg g d σ with
    |none=>rw[e1] at e;cases e
    |some σ1=>rw[e1] at e;rw[l8,l8,ih e]
 cases t with
 |tup ds=>
  erw[asg] at e
  obtain⟨a,xs,rfl,sq,r⟩:=M.rd1.tupq
  refine⟨a,xs,rfl, .inl (hk▸sq),by rw[<-r.length];exact len e,tv,ρ,s,ds,⟨M.m,r,λl h=>M.lb1 l (by erw[qq];exact h)⟩,σ',e,kk⟩
 |lst l ds=>
  erw[asg] at e
  obtain⟨a,xs,rfl,sq,r,sub⟩:=M.rd1.lstq (ds:=ds) rfl
  refine⟨a,xs,rfl, .inr (hk▸sq),by rw[<-r.length];exact len e,tv,ρ,s,ds,⟨M.m,r,λl h=>M.lb1 l (sub l h)⟩,σ',e,kk⟩
 |_=>erw[asg] at e;cases e
def zgN(he:SE X G F e m)(hg:SG X G F tg g)(hs:cE [tg] e pos.line X.env=pure false:=by rfl)(hw:cF [tg] e X.env=pure none:=by rfl)
 (h1:(bG [tg] X.env).map (·.2)=[cz tg X.env]:=by rfl):SS X G F (.Assign [tg] e pos) (J8 g m):=by
 walk_at "go"
 refine PS.imp0 (zbl he hg hs hw h1) λD σ H ⟨tv,h⟩=>⟨tv,(z0t h).mono λv H1 ⟨ρ1,s1,t,M1,W⟩=> ?_⟩
 cases e:asg g t s1.σ with
 |none=>erw[e] at W;exact False.elim W
 |some σ'=>
  erw[e] at W
  exact⟨tv,ρ1,s1,t,M1,σ',e,λ σv' M2=>W ρ1 σv' H1 M2⟩
def z1M{i:Nat}(h: ∀{te:TE},PE X e te->PS X (.Assign [.Name x p] e pos) (ziO te (z5M i)))(he:SE X G F e m):SS X G F (.Assign [.Name x p] e pos) (J8 (.nm i) m):=by
 walk_at "go"
 refine PS.imp0 (h he) λD σ H ⟨tv,h⟩=>⟨tv,(z0t h).mono λv H1 ⟨ρ1,s1,t,M1,W⟩=> ?_⟩
 erw[asg] at W
 exact W ρ1 _ H1 (M1.setS i).m
variable{tg iter:bn}
def x9(hk:X.K=G.K)(h:SE X G F e m):SI X G F tg e (Q5 m):=by
 walk_at "go"
 refine PI.imp0 (zgm h) λ σ H R ⟨tv,hs,ρ,s,M,W⟩=>⟨tv,hs,ρ,s,M, ?_⟩
 unfold Q5 bd at W
 cases e:m s with
 |ex d s1=>rw[e] at W;exact W
 |no=>rw[e] at W;exact W
 |ok t s1=>
  rw[e] at W
  intro ρ1 v H1 M1
  rw[hk]
  cases t with
  |tup ds=>
   obtain⟨a,xs,rfl,sq,r⟩:=M1.rd1.tupq
   exact⟨a,rfl, .inr ⟨⟨xs,sq⟩,W ρ1 H1 [some (.ref a)] _ rfl M1.push zaG⟩⟩
  |lst n ds=>
   obtain⟨a,xs,rfl,sq,r,_⟩:=M1.rd1.lstq (ds:=ds) rfl
   exact⟨a,rfl, .inl ⟨⟨xs,sq⟩,W ρ1 H1 [some (.ref a)] _ rfl M1.push z6A⟩⟩
  |ro ds=>
   obtain⟨a,xs,rfl,sq,r,_⟩:=M1.rd1.lstq (ds:=ds) rfl
   exact⟨a,rfl, .inl ⟨⟨xs,sq⟩,W ρ1 H1 [some (.ref a)] _ rfl M1.push z6A⟩⟩
  |_=>exact False.elim W
def z0x{p:bN}(hg:Gl X "range")(hm:X.mg "range" =none)(ha:SA X G F [a] (Y0 ms))(hs:bi [a] X.env=[(false,bA a X.env)]:=by rfl):SI X G F tg (.Call (.Name "range" p) [a] [] pos) (X4 ms):=by
 walk_at "go"
 refine PI.imp0 (z7L hg hm ha hs) λ σ H R ⟨tv,hs,ρ,s,M,W⟩=>⟨tv,hs,ρ,s,M, ?_⟩
 unfold X4 bd at W
 cases e:Y0 ms s with
 |ex d s1=>rw[e] at W;exact W
 |no=>rw[e] at W;exact W
 |ok ts s1=>
  rw[e] at W
  intro ρ1 vs H1 M1
  unfold zgn at W
  dsimp only at W
  split at W
  .rename_i ts' j K s' hh
   split at hh
   .split at hh
    .rename_i j' hc
     cases hh
     obtain⟨v,rfl,h,_⟩:=M1.one
     erw[RD] at h
     subst h
     exact⟨j',rfl,hc.1,hc.2,W ρ1 H1 [] _ rfl M1.m z6B⟩
    .cases hh
   .cases hh
  .rename_i hh
   split at hh
   .split at hh<;>cases hh
   .cases hh
  .exact False.elim W
def z98{p:bN}(hg:Gl X "range")(hm:X.mg "range" =none)(ha:SA X G F [a,b] (Y0 ms))(hs:bi [a,b] X.env=[(false,bA a X.env),(false,bA b X.env)]:=by rfl)(hs2:bi [b] X.env=[(false,bA b X.env)]:=by rfl):SI X G F tg (.Call (.Name "range" p) [a,b] [] pos) (z50 ms):=by
 walk_at "go"
 refine PI.imp0 (z7M hg hm ha hs hs2) λ σ H R ⟨tv,hs,ρ,s,M,W⟩=>⟨tv,hs,ρ,s,M, ?_⟩
 unfold z50 bd at W
 cases e:Y0 ms s with
 |ex d s1=>rw[e] at W;exact W
 |no=>rw[e] at W;exact W
 |ok ts s1=>
  rw[e] at W
  intro ρ1 vs H1 M1
  unfold zgo at W
  dsimp only at W
  split at W
  .rename_i ts' j K s' hh
   split at hh
   .split at hh
    .rename_i i' j' hc
     cases hh
     obtain⟨v,u,rfl,h,h'⟩:=M1.two
     erw[RD] at h h'
     subst h h'
     exact⟨i',j',rfl,hc,W ρ1 H1 [] _ rfl M1.m z6B⟩
    .cases hh
   .cases hh
  .rename_i hh
   split at hh
   .split at hh<;>cases hh
   .cases hh
  .exact False.elim W
def z0H{body:List Stmt}{mi:M ItK}{g:Tg}{mb:MS}(hp:fZ (bo X.prog X.w) X.A X.env X.xe)(hc:X.calm=true)(hi:SI X G F tg iter mi)(hg:SG X G F tg g)(hb:SSs X G F body mb)(hst: ∀x,bC iter X.env x=pure x:=by intro _;rfl):SS X G F (.For tg iter body [] pos) (z1A mi g mb):=by
 walk_at "go"
 refine PS.imp0 (zbm hp hc hi hg hb hst) λD σ H ⟨tv,h⟩=>z8F h λK ρ' H' tvs J s' hl M' hok W=> ?_
 have hs:=h.1
 refine⟨λi m σ H=> ∃ρ s,MR G F.toFx ρ H σ (tvs++tv) s/\wS G F tv (forGo K g mb m i s) D,⟨_,ρ',s',M',W⟩, ?_⟩
 rintro i m σ H ⟨ρ,s,M,W⟩
 have ok:=hok F.toFx ρ H σ [] tv s i M
 erw[C2,D9,l5] at ok
 unfold forGo at W
 cases e:K.at' i s.tm with
 |none=>erw[e] at W;exact False.elim W
 |some o=>
  cases o with
  |none=>
   erw[e] at W ok
   refine .inl ⟨ok,W ρ σ H ?_⟩
   rw[<-hl]
   exact M.popn
  |some d=>
   erw[e] at W ok
   cases m with
   |zero=>exact False.elim W
   |succ f=>
    dsimp only at W
    cases e2:asg g d s.σ with
    |none=>erw[e2] at W;exact False.elim W
    |some σ'=>
     erw[e2] at W
     refine .inr ⟨ok.1,λ σ H=> ∃ρ s,MR G F.toFx ρ H σ (tvs++tv) s/\wS G F tv (forGo K g mb f (i+1) s) D,λ σ' H' q=>⟨f,m8 _,q⟩,λx H2 y=> ?_⟩
     refine⟨tvs++tv,ρ,s,d,ok.2 x H2 y,σ',e2,λ σv' M2=>⟨tvs++tv,zlb hs,ρ,_,M2, ?_⟩⟩
     cases e3:mb {s with σ:=σ'} with
     |nx s2=>erw[e3] at W;exact λ ρ3 σ3 H3 M3=>⟨ρ3,s2,M3,W⟩
     |ct s2=>erw[e3] at W;exact λ ρ3 σ3 H3 M3=>⟨ρ3,s2,M3,W⟩
     |bk s2=>erw[e3] at W;exact λ ρ3 σ3 H3 M3=>W ρ3 σ3 H3 (by rw[<-hl];exact M3.popn)
     |rt t s2=>erw[e3] at W;exact λ ρ3 σ3 v H3 M3=>W ρ3 σ3 v H3 (by rw[<-hl];exact M3.popn)
     |ex d s2=>erw[e3] at W;exact W
     |no=>erw[e3] at W;exact W
variable{elt:bn}
def j9:STs X G F [] (rt true):=by
 walk_at "go"
 exact λqz s σ H Q I ⟨tv,hs,ρ,ms,M,W⟩=>z8j qz s σ H Q I (W ρ H M)
def zdK(h:SB X G F c m):STs X G F [c] m:=by
 walk_at "go"
 exact zd5 h
variable{ρ:Nat->Addr}{H:Hp}
section
variable(k:KD G.K H){n:Nat}(inj: ∀i j,i<n->j<n->ρ i=ρ j->i=j)
include k inj
end
variable{ρ':Nat->Addr}{H':Hp}
section
variable(k:KD G.K H){n:Nat}(inj: ∀i j,i<n->j<n->ρ i=ρ j->i=j){ts:List D}{vs:List V}(r:RDs G ρ H ts vs)(lb: ∀l∈qx ts,l<n)
include k inj r lb
end
variable{F:Fy}{σv tv:List (Option V)}{s:Stt}{np:Nat}
def zdL{X:Cx}{e:bn}{es:List bn}{pos p:bN}{k:Nat}{ps:List Str}{ms:List (M D)}(hk:X.K=G.K)(Fn:z0L X.prog X.w X.K X.mg X.base CX k fa fd ps (spM G ps.length f))(hr:z3p k X.A)(hg:Gl X x)(hm:X.mg x=some (.ref fa))(hkp:W.keepIn X.K (.ref fa)=true)(hb:z5O X.K fd ps [])(hx:z4C CX X E)
 (ha:SA X G F (e::es) (Y0 ms)) (hln:ms.length=ps.length) (hdb:(x==("__debug__" :Str))=false:=by decide) (he:bi (e::es) X.env=(false,bA e X.env)::bi es X.env:=by rfl) (hpl:(bM pos (bi es X.env)).any (·.1)=false:=by rfl):
 SE X G F (.Call (.Name x p) (e::es) [] pos) (Z0 f ms):=by
 walk_at "go"
 refine PE.imp0 (zcH Fn hr hg hm hkp hb .nil hx ha hdb he hpl) λ σ H Q ⟨tv,hs,ρ,s,M,W⟩=>⟨tv,hs,ρ,s,M, ?_⟩
 delta Z0 bd at W
 cases e1:Y0 ms s with
 |ex d s1=>rw[e1] at W;exact W
 |no=>rw[e1] at W;exact W
 |ok ts s1=>
  rw[e1] at W
  intro ρ1 vs H1 M1
  rw[e8]
  exact z8J (by rw[<-M1.rd.length,z8K ms s ts s1 e1,hln]) M1 W
def zlc{P:bp}{w:br}{K:W.Frag}{mg:Str->Option bb}{base:Heap}{x qual:Str}{st:Stmt}{fa:Addr}{fd:bI}{N ps:List Str}{k:Nat}{mb:MS}(Fn:Fun K x qual st fa fd)(S:Q3 N ps (Z2 st))(hG:G.K=K)
 (hb: ∀(cdv:bb) (A:bu) (outer:List dw) (s:be) (H:Hp) (E:XK) (F:Fy),z3p k (A.deeper (envOfC qual (Z2 st) s.heap.objs.size fa cdv))->SSs (zbr CX0 P w K mg base N qual (Z2 st) fa cdv A outer s H E).nox G F (z0b st) mb):
 z0L P w K mg base CX0 (k+1) fa fd ps (spM G ps.length (z2S N.length mb)):=by
 walk_at "go"
 refine Fn.ok S (λvs H Q E h=>h.1) λcdv A outer s H vs Q E hr h=> ?_
 obtain⟨hl,ρ,n,ts,r,inj,dom,lb,kd,W⟩:=h
 refine⟨_,hb cdv A outer s H E (zaJ G ρ n ts vs H lb dom) hr,vs.map some,List.suffix_refl _,ρ,{σ:=ts.map some++m7 (N.length -ts.length) none,tm:=ts.map some,n:=n}, ?_, ?_⟩
 .obtain⟨r1,r2⟩:=RDs.sl r
  have hlen:=r.length
  have sub: ∀l∈J2 {σ:=ts.map some++m7 (N.length -ts.length) none,tm:=ts.map some,n:=n},l∈qx ts:=λl h=>by
   rcases e9.mp h with h|h
   .have h:l∈Z4 (ts.map some++m7 (N.length -ts.length) none):=h
    rw[Z7] at h
    rcases e9.mp h with h|h
    .rw[<-r2];exact h
    .exact absurd h (z1G _)
   .rw[<-r2];exact h
  refine⟨?_,r1,inj,dom,λl h=>lb l (sub l h),λl h=> .inl ⟨l,sub l h,rfl⟩,λa o e=>⟨⟨o,e⟩,λ_=>e⟩,kd,λl hl z=>z.2 l hl rfl,⟨b9 _,λl _=>rfl⟩⟩
  show Sl G ρ H _ (vs.map some++m7 (N.length -vs.length) none)
  rw[<-hlen]
  exact r1.append (Sl.none_map _)
 .delta z2S at W
  cases e:mb {σ:=ts.map some++m7 (N.length -ts.length) none,tm:=ts.map some,n:=n} with
  |nx s'=>
   erw[e] at W
   cases ea:Y6 s'.tm with
   |none=>erw[ea] at W
   |some ts'=>
    erw[ea] at W
    intro ρ' σv' H' M
    obtain⟨P,_⟩:=z6E inj M ea
    exact W ρ' .non H' P (by erw[RD]) λl h=>by simp[qq] at h
  |rt t s'=>
   erw[e] at W
   cases ea:Y6 s'.tm with
   |none=>erw[ea] at W
   |some ts'=>
    erw[ea] at W
    intro ρ' σv' v H' M
    obtain⟨P,own⟩:=z6E inj M.m ea
    exact W ρ' v H' P M.rd1 λl h=>⟨(M.lb1 l h).1,own l (M.lb1 l h).1 (M.lb1 l h).2⟩
  |bk s'=>erw[e] at W
  |ct s'=>erw[e] at W
  |ex d s'=>
   erw[e] at W
   cases ea:Y6 s'.tm with
   |none=>erw[ea] at W
   |some ts'=>erw[ea] at W
  |no=>erw[e] at W
variable{o:bn}{es:List bn}{apos cpos:bN}
def z6b{ob ix:bn}{pos tpos:bN}{mo mi me:M D}(he:SE X G F e me)(ho:SE X G F ob mo)(hi:SE X G F ix mi)(hg: ∀{to ti:TE},PE X ob to->PE X ix ti->PG X (.Subscript ob ix tpos) (zkz to ti zcO))(hs:cE [.Subscript ob ix tpos] e pos.line X.env=pure false:=by rfl)(hw:cF [.Subscript ob ix tpos] e X.env=pure none:=by rfl)
 (h1:(bG [.Subscript ob ix tpos] X.env).map (·.2)=[cz (.Subscript ob ix tpos) X.env]:=by rfl):SS X G F (.Assign [.Subscript ob ix tpos] e pos) (z7y me mo mi z8M):=by
 walk_at "go"
 refine PS.imp0 (zbl he (hg ho hi) hs hw h1) ?_
 rintro Dd σ H ⟨tv,h⟩
 exact(z8N h).mono λv H1 h1=>h1.mono λo H2 h2=>h2.mono λi H3 ⟨ρ,s,t1,t2,t3,M,W⟩=>zbQ M W
variable{ma mb mc m:M D}
def G4(hk:X.K=G.K)(ha:SE X G F a ma)(hb:SE X G F b mb):SE X G F (.BinOp a .Add b pos) (y8 ma mb K9):=by
 walk_at "go"
 exact z7a hk (r:=λx y H Q=>rI0 (λi j=> .int (i+j)) x y H Q\/zar G.K x y H Q\/zj6 x y H Q\/∃i j,x= .str i/\y= .str j/\i.length+j.length<=qg/\Q (.str (i++j)) H) (hk▸OpR.or zfa (OpR.or z8g (OpR.or zfp z6Z))) zg4 ha hb
def zc1(hk:X.K=G.K)(ha:SE X G F a ma)(hb:SE X G F b mb):SE X G F (.BinOp a .Sub b pos) (y8 ma mb zdi):=by
 walk_at "go"
 exact z7a hk zfb zg5 ha hb
def z99(hk:X.K=G.K)(ha:SE X G F a ma)(hb:SE X G F b mb):SE X G F (.BinOp a .FloorDiv b pos) (y8 ma mb z5Y):=by
 walk_at "go"
 exact z7a hk zcD zdk ha hb
def z0T(hk:X.K=G.K)(ha:SE X G F a ma)(hb:SE X G F b mb):SE X G F (.BinOp a .Mod b pos) (y8 ma mb z3o):=by
 walk_at "go"
 exact z7a hk zfd zg6 ha hb
def z9a(hk:X.K=G.K)(ha:SE X G F a ma)(hb:SE X G F b mb):SE X G F (.BinOp a .Pow b pos) (y8 ma mb zbK):=by
 walk_at "go"
 exact z7a hk zfe zg7 ha hb
def z0U(hc:Cm X G F op g)(ha:SE X G F a ma)(hb:SE X G F b mb)(hm:bW op b=false):SE X G F (.Compare a [op] [b] pos) (y8 ma mb g):=by
 walk_at "go"
 obtain⟨r,h1,h2⟩:=hc.h
 exact zdf h1 h2 ha hb hm
def Q7(hc:Cm X G F op g)(ha:SE X G F a ma)(hb:SE X G F b mb)(hm:bW op b=false):SB X G F (.Compare a [op] [b] pos) (J3 (y8 ma mb g)):=by
 walk_at "go"
 obtain⟨r,h1,h2⟩:=hc.h
 exact zdn h1 h2 ha hb hm
def zdM(hc:Cm X G F op g)(hc':Cm X G F op' g')(ha:SE X G F a ma)(hb:SE X G F b mb)(hcc:SE X G F c mc)(hm:dA [op,op'] [b,c]=false:=by with_unfolding_all rfl):SE X G F (.Compare a [op,op'] [b,c] pos) (z4X ma mb mc g g'):=by
 walk_at "go"
 obtain⟨r,h1,h2⟩:=hc.h
 obtain⟨r',h1',h2'⟩:=hc'.h
 exact zaD h1 h2 h1' h2' ha hb hcc hm
def zc2(hk:X.K=G.K)(ha:SE X G F a ma)(hb:SE X G F b mb)(hs:z2C b):SE X G F (.Subscript a b pos) (y8 ma mb ixD):=by
 walk_at "go"
 exact zjo hk (hk▸IxR.or zcN zfn) zjv ha hb hs
def z2a{x:Str}{p:bN}{es:List bn}{ms:List (M D)}{g:List D->M D}{id:String}(hk:X.K=G.K)(hc:Cb X G F (.builtin id) g)(hgl:Gl X x)(hm:X.mg x=none)(hv:bT x=some (.builtin id))(ha:SA X G F (e::es) (Y0 ms))(hn:x≠ "__name__" :=by decide)(hdb:(x==("__debug__" :Str))=false:=by decide)
 (he:bi (e::es) X.env=(false,bA e X.env)::bi es X.env:=by rfl) (hpl:(bM pos (bi es X.env)).any (·.1)=false:=by rfl):SE X G F (.Call (.Name x p) (e::es) [] pos) (mCB ms g):=by
 walk_at "go"
 obtain⟨r,h1,h2⟩:=hc.h
 exact zaz hk h1 h2 hgl hm hv ha hn hdb he hpl
def z5d{p:bN}(hk:X.K=G.K)(hc:Cb X G F (.type T) g)(hgl:Gl X x)(hm:X.mg x=none)(hv:bT x=some (.type T))(ha:SA X G F (e::es) (Y0 ms))(hn:x≠ "__name__" :=by decide)(hdb:(x==("__debug__" :Str))=false:=by decide)
 (he:bi (e::es) X.env=(false,bA e X.env)::bi es X.env:=by rfl) (hpl:(bM pos (bi es X.env)).any (·.1)=false:=by rfl):SE X G F (.Call (.Name x p) (e::es) [] pos) (mCB ms g):=by
 walk_at "go"
 obtain⟨r,h1,h2⟩:=hc.h
 exact z8A hk h1 h2 hgl hm hv ha hn hdb he hpl
def z9b{name:Str}{id:String}{mo:M D}{ms:List (M D)}{g:D->List D->M D}(hk:X.K=G.K)(slot:Slot "list" name id)(hty:typeOf (.builtin id)=pure (.type "method_descriptor"))(hm:Cl X G F id g)(ho:SE X G F o mo)(ha:SA X G F (e::es) (Y0 ms))
 (hbase:cm o name X.env (bA o X.env)=bA o X.env:=by rfl)
 (hfew:((bM cpos (bi (e::es) X.env)).all (λx=> !x.1)&&(cR cpos (cy [] X.env)).all (λx=>x.1.isSome)
  &&decide ((e::es).length+([]:List cq).length+(if([]:List cq).isEmpty then 0 else 1)<30))=true:=by rfl)
 (hline:(apos.endLine==cpos.line)=true:=by rfl) (hs:bi (e::es) X.env=(false,bA e X.env)::bi es X.env:=by rfl) (hplain:(bM cpos (bi es X.env)).any (·.1)=false:=by rfl):SE X G F (.Call (.Attribute o name apos) (e::es) [] cpos) (z1p mo ms g):=by
 walk_at "go"
 obtain⟨r,h1,h2⟩:=hm.h
 exact zdt hk slot hty h1 h2 ho ha hbase hfew hline hs hplain
def z5e{p p2 pos2:bN}(hk:X.K=G.K)(hc:X.calm=true)(hgl:Gl X "list")(hml:X.mg "list" =none)(hgr:Gl X "range")(hmr:X.mg "range" =none)(ha:SA X G F [a,b] (Y0 ms))(hs:bi [a,b] X.env=[(false,bA a X.env),(false,bA b X.env)]:=by rfl)(hs2:bi [b] X.env=[(false,bA b X.env)]:=by rfl)
 (hso:bi [.Call (.Name "range" p2) [a,b] [] pos2] X.env=[(false,bA (.Call (.Name "range" p2) [a,b] [] pos2) X.env)]:=by rfl):SE X G F (.Call (.Name "list" p) [.Call (.Name "range" p2) [a,b] [] pos2] [] pos) (mCB ms lrM):=by
 walk_at "go"
 refine PE.imp hk (z4R hc hgl hml hgr hmr ha hs hs2 hso) λ σ H Q ⟨tv,hs,ρ,s,M,W⟩=>⟨tv,hs,ρ,s,M, ?_⟩
 delta mCB bd at W
 cases e:Y0 ms s with
 |ex d s1=>rw[e] at W;exact W
 |no=>rw[e] at W;exact W
 |ok ts s1=>
  rw[e] at W
  intro ρ1 vs H1 M1
  delta lrM at W
  dsimp only at W
  split at W
  .split at W
   .rename_i i j hc
    obtain⟨v,u,rfl,h,h'⟩:=M1.two
    erw[RD] at h h'
    subst h h'
    refine⟨i,j,rfl,hc.1,hc.2,λl hl kd=> ?_⟩
    exact z0Q W M1.m (z8P i _) (λl hl=>by delta U8 at hl;rw[z6H] at hl;cases hl) hl kd
   .exact False.elim W
  .exact False.elim W
def zgO{i j:Nat}{px py pt:bN}{kt k2 pt2}{ms:List (M D)}(hc:X.calm=true)(hN:X.N.Nodup)(hi:X.N[i]? =some x)(hj:X.N[j]? =some y)(hij:i≠j)
 (hx:X.env.scope.names.lookup x=some .local) (hy:X.env.scope.names.lookup y=some .local) (ha:SA X G F [a,b] (Y0 ms))
 (hw:cF [.Tuple [.Name x px, .Name y py] kt pt] (.Tuple [a,b] k2 pt2) X.env=pure (some [x,y]):=by rfl)
 (hs:cE [.Tuple [.Name x px, .Name y py] kt pt] (.Tuple [a,b] k2 pt2) pos.line X.env=pure false:=by rfl):
 SS X G F (.Assign [.Tuple [.Name x px, .Name y py] kt pt] (.Tuple [a,b] k2 pt2) pos) (J8 (.tp [.nm i, .nm j]) (mCB ms x6)):=by
 walk_at "go"
 refine PS.imp0 (zf7 hc hN hi hj hij hx hy ha hw hs) λDd σ H ⟨tv,hs,ρ,s,M,W⟩=>⟨tv,hs,ρ,s,M, ?_⟩
 delta J8 z0N mCB bd at W
 cases e:Y0 ms s with
 |ex d s1=>rw[e] at W;exact W
 |no=>rw[e] at W;exact W
 |ok ts s1=>
  rw[e] at W
  intro ρ1 vs H1 M1
  by_cases hz:ts.length<=qg
  .have e2:x6 ts s1= .ok (.tup ts) s1:=by delta x6;rw[qy hz];rfl
   dsimp only at W
   rw[e2] at W
   dsimp only at W
   match ts,W with
   |[],W=>erw[asg,asgL] at W;exact False.elim W
   |[_],W=>erw[asg,asgL] at W;exact False.elim W
   |[t,t'],W=>
    obtain⟨v,u,rfl,h,h'⟩:=M1.two
    erw[asg,asgL] at W
    exact⟨v,u,rfl,W ρ1 _ H1 ((M1.setS i).setS j).m⟩
   |_::_::_::_,W=>erw[asg,asgL] at W;exact False.elim W
  .have e2:x6 ts s1= .no:=by delta x6;rw[qh hz];rfl
   dsimp only at W
   rw[e2] at W
   exact False.elim W
def zdN(hk:X.K=G.K):SE X G F (.Dict [] [] pos) zaN:=by
 walk_at "go"
 exact PE.imp hk zak λ σ H Q ⟨tv,hs,ρ,s,M,W⟩ p hp k=>by
  refine wM.out (ρ:=ext ρ s.n p) W (M.new hp k) ?_ λl hl=> ?_
  .erw[RD]
   rw[Q4]
   exact⟨rfl, .inr ⟨[],y6,rfl,by simp[RDs]⟩⟩
  .erw[qq,qx,e8,i4] at hl
   rw[hl]
   exact⟨m8 _,by rw[Q4];exact .inr (M.fresh0 hp)⟩
def z9c{ob ix:bn}{pos tpos:bN}{mo mi me:M D}(hu:X.A.units+64<cLine)(he:SE X G F e me)(ho:SE X G F ob mo)(hi:SE X G F ix mi)(hs:cD e (some (.Subscript ob ix tpos)) pos.line X.env=pure false:=by rfl):
 SS X G F (.Assign [.Subscript ob ix tpos] e pos) (z7y me mo mi z4f):=by
 walk_at "go"
 refine PS.imp0 (zcT (show X.A.units+2<cLine by lia) ho hi he hs) ?_
 rintro Dd σ H ⟨tv,h⟩
 exact(z8N h).mono λv H1 h1=>h1.mono λo H2 h2=>h2.mono λi H3 ⟨ρ,s,t1,t2,t3,M,W⟩=>zdB M W
end
inductive SEs(X:Cx)(G:Gx)(F:Fy):List bn->List (M D)->Prop
 |nil:SEs X G F [] []
 |cons {e:bn} {m:M D} {es:List bn} {ms:List (M D)}:SE X G F e m->nst e=true->SEs X G F es ms->SEs X G F (e::es) (m::ms)
def zld(h:SEs X G F es ms):Mi.SEs X G F es ms:=by
 induction h with
 |nil=>exact .nil
 |cons h n _ ih=>rw[eSE] at h;exact .cons h n ih
def sa_of{X:Cx}{G:Gx}(hk:X.K=G.K)(h:SEs X G F es ms):SA X G F es (Y0 ms):=by
 rw[eSA];exact Mi.sa_of hk (zld h)
section
variable{X:Cx}{G:Gx}{F:Fy}{e:bn}{pos pos' tpos:bN}
def zdO(hk:X.K=G.K)(ho:SE X G F o mo)(hi:SE X G F i mi)(he:SE X G F e me)
 (ha: ∀ov iv new,augStore i ov iv new=(do cM [new,ov,iv] (fG ov iv new);release [new,ov,iv] [];pure .next)):SS X G F (.AugAssign (.Subscript o i tpos) .Add e pos) (z8U mo mi me):=by
 rw[eSS];rw[eSE] at ho hi he
 refine PS.imp0 (zcC ho hi zat he zf8 z2x ha) ?_
 rintro D σ H ⟨tv,h⟩
 have hs:=h.1
 refine⟨tv,(z0t h).mono λv H1 ⟨ρ1,s1,t,M1,W⟩=> ?_⟩
 refine⟨some v::tv,z5F hs,ρ1,s1.psh t,M1.push, ?_⟩
 erw[z0N,psh] at W
 cases e1:mi (s1.psh t) with
 |ex d s2=>erw[e1] at W;exact W
 |no=>erw[e1] at W;exact W
 |ok i s2=>
  erw[e1] at W
  intro ρ2 u H2 M2
  delta zgC at W
  cases e2:s2.tm with
  |nil=>erw[e2] at W;exact False.elim W
  |cons o3 r3=>
   cases o3 with
   |none=>erw[e2] at W;exact False.elim W
   |some x3=>
    have M4:=M2.down e2
    obtain⟨h1,h2⟩:=M4.rd2
    cases x3 with
    |lst l ds=>
     cases i with
     |int k=>
      erw[e2] at W
      cases e3:atI ds k with
      |none=>rw[e3] at W;exact False.elim W
      |some x=>
       rw[e3] at W
       cases x with
       |int a=>
        erw[RD] at h1 h2
        obtain⟨rfl,xs,hx,r⟩:=h1
        subst h2
        refine⟨_,xs,k, .int a,rfl,rfl,SqL.of hx,zdD r e3,some (.ref (ρ2 l))::tv,z5F hs,ρ2,s2,M2.m, ?_⟩
        dsimp only at W
        cases e4:me s2 with
        |ex d s3=>rw[e4] at W;exact W
        |no=>rw[e4] at W;exact W
        |ok y s3=>
         rw[e4] at W
         dsimp only at W
         intro ρ3 w H4 M3
         delta pop at W
         cases e5:s3.tm with
         |nil=>erw[e5] at W;exact False.elim W
         |cons o5 r5=>
          cases o5 with
          |none=>erw[e5] at W;exact False.elim W
          |some x5=>
           erw[e5] at W
           have M5:=M3.down e5
           cases y with
           |int b=>
            obtain⟨g1,g2⟩:=M5.rd2
            have g2':=g2
            erw[RD] at g2
            subst g2
            have M6:MRL G F.toFx ρ3 H4 σ tv {s3 with tm:=r5} [.int (a+b),x5, .int k] [.int (a+b), .ref (ρ2 l), .int k]:=⟨M5.m,by
             erw[RDs]
             exact⟨_,_,rfl,by erw[RD],_,_,rfl,g1,_,_,rfl,by erw[RD],rfl⟩,λj hj=>M5.lb j (by
             erw[qx,qq,l5,e8] at hj⊢
             exact hj)⟩
            exact⟨a,b,rfl,rfl,zbQ M6 W⟩
           |_=>exact False.elim W
       |_=>exact False.elim W
     |_=>erw[e2] at W;exact False.elim W
    |_=>erw[e2] at W;exact False.elim W
variable{a b c d:bn}{p:bN}{m ma mb mc md:M D}
def sv i{x:Str}(hk:X.K=G.K:=by rfl)(hN:X.N[i]? =some x:=by rfl)(hv:Vis X.env.scope x:=by first|exact Or.inl rfl|exact Or.inr (Or.inl rfl)|exact Or.inr (Or.inr rfl))(hd:(x==("__debug__" :Str))=false:=by decide)(hcd:(x==("__classdict__" :Str))=false:=by decide):SE X G F (.Name x pos) (y0 i):=zgJ i hk (pv i hN hv hd hcd)
def s1(h:SE X G F a ma)(n:nst a=true:=by rfl)(hk:X.K=G.K:=by rfl):SA X G F [a] (Y0 [ma]):=sa_of hk (.cons h n .nil)
def s2(h:SE X G F a ma)(h2:SE X G F b mb)(n:nst a=true:=by rfl)(n2:nst b=true:=by rfl)(hk:X.K=G.K:=by rfl):SA X G F [a,b] (Y0 [ma,mb]):=sa_of hk (.cons h n (.cons h2 n2 .nil))
def s3(h:SE X G F a ma)(h2:SE X G F b mb)(h3:SE X G F c mc)(n:nst a=true:=by rfl)(n2:nst b=true:=by rfl)(n3:nst c=true:=by rfl)(hk:X.K=G.K:=by rfl):SA X G F [a,b,c] (Y0 [ma,mb,mc]):=sa_of hk (.cons h n (.cons h2 n2 (.cons h3 n3 .nil)))
def s4(h:SE X G F a ma)(h2:SE X G F b mb)(h3:SE X G F c mc)(h4:SE X G F d md)(n:nst a=true:=by rfl)(n2:nst b=true:=by rfl)(n3:nst c=true:=by rfl)(n4:nst d=true:=by rfl)(hk:X.K=G.K:=by rfl):SA X G F [a,b,c,d] (Y0 [ma,mb,mc,md]):=sa_of hk (.cons h n (.cons h2 n2 (.cons h3 n3 (.cons h4 n4 .nil))))
def sst i{x:Str}(hN:X.N.Nodup)(he:SE X G F e m)(hi:X.N[i]? =some x:=by rfl)(hx:Loc X.env.scope x:=by exact Or.inl rfl)(hs:cD e (some (.Name x p)) pos.line X.env=pure false:=by rfl)(hf:X.fn x=true\/X.env.scope.names.lookup x=some .local:=by first|exact .inl rfl|exact .inr rfl|assumption):SS X G F (.Assign [.Name x p] e pos) (J8 (.nm i) m):=
 z1M (λ{te} h=>z1C hN hi hx h hs hf) he
def sgn i{x:Str}(hN:X.N.Nodup)(hi:X.N[i]? =some x:=by rfl)(hx:Loc X.env.scope x:=by exact Or.inl rfl)(hf:X.fn x=true\/X.env.scope.names.lookup x=some .local:=by first|exact .inl rfl|exact .inr rfl|assumption):SG X G F (.Name x pos) (.nm i):=Y1 (Z8 hN hi hx hf)
def sln(hm:X.mg "len" =none)(ha:SA X G F (e::es) (Y0 ms))(hgl:Gl X "len" :=by rfl)(he:bi (e::es) X.env=(false,bA e X.env)::bi es X.env:=by rfl)(hpl:(bM pos (bi es X.env)).any (·.1)=false:=by rfl)(hk:X.K=G.K:=by rfl):SE X G F (.Call (.Name "len" p) (e::es) [] pos) (mCB ms z4Y):=
 z2a hk (zgv hk) hgl hm PyProof.Rows.Boot.«len» ha (by decide) (by decide) he hpl
def sc0{v:V}{d:D}(h:PE X e (tC v))(hd:cV d=some v:=by rfl)(hk:X.K=G.K:=by rfl):SE X G F e (mC d):=ziy hk h hd
def sxc(ha:SE X G F a ma)(h:PE X b (tC v))(hd:cV q=some v:=by rfl)(hs:z2C b:=by exact λ_ _=>rfl)(hk:X.K=G.K:=by rfl):SE X G F (.Subscript a b pos) (y8 ma (mC q) ixD):=zc2 hk ha (ziy hk h hd) hs
def sxx(ha:SE X G F a ma)(hb:SE X G F b mb)(hs:z2C b:=by exact λ_ _=>rfl)(hk:X.K=G.K:=by rfl):SE X G F (.Subscript a b pos) (y8 ma mb ixD):=zc2 hk ha hb hs
variable{P:bp}{w:br}{K:W.Frag}{mg:Str->Option bb}{base:Heap}{x qual:Str}{st:Stmt}{fa:Addr}{fd:bI}{N ps:List Str}{k np:Nat}{f:FM}
def okM(mb:MS)(Fn:Fun K x qual st fa fd)(S:Q3 N ps (Z2 st))(hb: ∀cdv A outer s H (E:XK) F,z3p k (A.deeper (envOfC qual (Z2 st) s.heap.objs.size fa cdv))->SSs (zbr CX0 P w K mg base N qual (Z2 st) fa cdv A outer s H E).nox G F (z0b st) mb)(hG:G.K=K:=by rfl)(hf:f=z2S N.length mb:=by rfl)(hn:np=ps.length:=by rfl):
 z0L P w K mg base CX0 (k+1) fa fd ps (spM G np f):=by
 subst hf hn;exact zlc Fn S hG hb
def zgP{p tpos:bN}{elts:List bn}{x1:Nat}(hk:X.K=G.K)(hg:Gl X "zip")(hm:X.mg "zip" =none)(ha:SA X G F [a,b] (Y0 ms))(hs:bi [a,b] X.env=[(false,bA a X.env),(false,bA b X.env)]:=by rfl)(hs2:bi [b] X.env=[(false,bA b X.env)]:=by rfl):SI X G F (.Tuple elts x1 tpos) (.Call (.Name "zip" p) [a,b] [] pos) (zgF ms):=by
 rw[eSI];rw[eSA] at ha
 refine PI.imp0 (zfY hg hm ha hs hs2) λ σ H R ⟨tv,hs,ρ,s,M,W⟩=>⟨tv,hs,ρ,s,M, ?_⟩
 delta zgF bd at W
 cases e:Y0 ms s with
 |ex d s1=>rw[e] at W;exact W
 |no=>rw[e] at W;exact W
 |ok ts s1=>
  rw[e] at W
  intro ρ1 vs H1 M1
  rw[hk]
  delta zkH at W
  dsimp only at W
  split at W
  .rename_i ts' K s' hh
   split at hh
   .split at hh
    .cases hh
     obtain⟨v,u,rfl,h1,h2⟩:=M1.two
     rename_i ds es q1 q2
     obtain⟨a,xs,rfl,sq,r,_⟩:=h1.lstq q1
     obtain⟨b,ys,rfl,sq',r',_⟩:=h2.lstq q2
     exact⟨a,b,rfl,⟨xs,sq⟩,⟨ys,sq'⟩,W ρ1 H1 [some (.ref b),some (.ref a)] _ rfl M1.push2 zaO⟩
    .cases hh
   .cases hh
  .rename_i hh
   split at hh
   .split at hh<;>cases hh
   .cases hh
  .exact False.elim W
variable{o:bn}{apos cpos:bN}{mo mi mx:M D}
def zaT(hk:X.K=G.K):SE X G F (.Dict [] [] pos) zaP:=by
 rw[eSE]
 exact PE.imp hk zaj λ σ H Q ⟨tv,hs,ρ,s,M,W⟩ p hp k=>by
  refine wM.out (ρ:=ext ρ s.n p) W (M.new hp k) ?_ λl hl=> ?_
  .erw[RD]
   rw[Q4]
   exact⟨rfl, .inl ⟨[],y6,rfl,by simp[RDs]⟩⟩
  .erw[qq,qx,e8,i4] at hl
   rw[hl]
   exact⟨m8 _,by rw[Q4];exact .inr (M.fresh0 hp)⟩
variable{E:L2.St->XK}
def zdP{pos:bN}(hc:Cm X G F op g)(hc':Cm X G F op' g')(hc'':Cm X G F op'' g'')(ha:SE X G F a ma)(hb:SE X G F b mb)(hcc:SE X G F c mc)(hd:SE X G F d md)(hm:dA [op,op',op''] [b,c,d]=false:=by with_unfolding_all rfl):SB X G F (.Compare a [op,op',op''] [b,c,d] pos) (J3 (z2W ma mb mc md g g' g'')):=by
 rw[eSE] at*;rw[eSB]
 obtain⟨r,h1,h2⟩:=hc.h
 obtain⟨r',h1',h2'⟩:=hc'.h
 obtain⟨r'',h1'',h2''⟩:=hc''.h
 exact PT.imp0 (z8Y h1 h1' h1'' ha hb hcc hd hm) λ_ _ _ h=>z7i h2 h2' h2'' (z60 h)
variable{tg iter:bn}{p2 pos2:bN}{elts:List bn}{x1:Nat}
def zdQ(hgv:Gl X "reversed")(hmv:X.mg "reversed" =none)(hgr:Gl X "range")(hmr:X.mg "range" =none)(ha:SA X G F [b] (Y0 ms))(hs2:bi [b] X.env=[(false,bA b X.env)]:=by rfl)
 (hso:bi [.Call (.Name "range" p2) [b] [] pos2] X.env=[(false,bA (.Call (.Name "range" p2) [b] [] pos2) X.env)]:=by rfl):SI X G F tg (.Call (.Name "reversed" p) [.Call (.Name "range" p2) [b] [] pos2] [] pos) (z90 ms):=by
 erw[eSE,eSA,eSB,eSW,eSS,zbZ,eSG,zc0,eSI,eSO,za1] at*
 refine PI.imp0 (zdb hgv hmv hgr hmr ha hs2 hso) λ σ H R ⟨tv,hs,ρ,s,M,W⟩=>⟨tv,hs,ρ,s,M, ?_⟩
 delta z90 bd at W
 cases e:Y0 ms s with
 |ex d s1=>rw[e] at W;exact W
 |no=>rw[e] at W;exact W
 |ok ts s1=>
  rw[e] at W
  intro ρ1 vs H1 M1
  delta zeO at W
  dsimp only at W
  split at W
  .rename_i ts' j K s' hh
   split at hh
   .split at hh
    .rename_i j' hc
     cases hh
     have rd:=M1.rd
     erw[RDs,RD] at rd
     obtain⟨_,_,rfl,rfl,rfl⟩:=rd
     exact⟨j',rfl,hc.1,hc.2,W ρ1 H1 [] _ rfl M1.m z8S⟩
    .cases hh
   .cases hh
  .rename_i hh
   split at hh
   .split at hh<;>cases hh
   .cases hh
  .exact False.elim W
def zdR(hk:X.K=G.K)(ho:SE X G F o mo)(ha:SE X G F a mi)(hb:SE X G F b mx)(m:M2 X o "setdefault" apos a b cpos):SE X G F (.Call (.Attribute o "setdefault" apos) [a,b] [] cpos) (z6a mo mi mx):=by
 erw[eSE,eSA,eSB,eSW,eSS,zbZ,eSG,zc0,eSI,eSO,za1] at*
 exact PE.imp hk (zdc ho ha hb m) λ_ _ _ h=>zaS h
def zdS{body:List Stmt}{m0:M D}{g:Tg}{mb:MS}(hk:X.K=G.K)(hp:fZ (bo X.prog X.w) X.A X.env X.xe)(hc:X.calm=true)(hl:SE X G F iter m0)(hg: ∀F:Fy,SG X G F (.Tuple elts x1 tpos) g)(hb: ∀F:Fy,SSs X G F body mb)
 (hst: ∀x,bC (.Call (.Attribute iter "items" apos) [] [] cpos) X.env x=pure x:=by intro _;rfl) (hbase:cm iter "items" X.env (bA iter X.env)=bA iter X.env:=by rfl)
 (hfew:((bM cpos (bi [] X.env)).all (λx=> !x.1)&&(cR cpos (cy [] X.env)).all (λx=>x.1.isSome)&&decide (([]:List bn).length+([]:List cq).length+(if([]:List cq).isEmpty then 0 else 1)<30))=true:=by rfl)
 (hline:(apos.endLine==cpos.line)=true:=by rfl):SS X G F (.For (.Tuple elts x1 tpos) (.Call (.Attribute iter "items" apos) [] [] cpos) body [] pos) (z1A (z2v m0) g mb):=by
 erw[eSE,eSA,eSB,eSW,eSS,zbZ,eSG,zc0,eSI,eSO,za1] at*
 refine PS.imp0 (zbm (g:=tGx G g) (tb:=tSx G mb) hp hc (z8x hl hbase hfew hline) (λqz s σ H v u Q I r ⟨F',q⟩=>hg F' qz s σ H v u Q I r q) (λqz s σ H D I ⟨F',q⟩=>hb F' qz s σ H D I q) hst) λD σ H h=> ?_
 obtain⟨tv,hs,ρ,s,M,W⟩:=h
 refine⟨tv,hs,ρ,s,M, ?_⟩
 unfold z1A z0N z2v bd at W
 cases em:m0 s with
 |ex d s1=>rw[em] at W;exact W
 |no=>rw[em] at W;exact W
 |ok t s0=>
  rw[em] at W
  dsimp only at W
  intro ρ1 v H1 M0
  cases ez:dzP t s0 with
  |none=>rw[ez] at W;exact False.elim W
  |some s1=>
  rw[ez] at W
  obtain⟨a,kvs,rfl,key⟩:=zbX M0 ez
  refine⟨a,kvs,rfl, ?_⟩
  have tail: ∀(u:bJ) (H2:Hp) (s1:Stt),(F.A0 a\/F.H0 a=none\/F.H0 a=some (.frz u (.dK kvs)))->H2 a=some (.frz u (.dK kvs))->MR G F.toFx ρ1 H2 σ ([some (.ref a)]++tv) s1->wS G F tv (forGo kDitp g mb (kDitp.len s1.tm) 0 s1) D->
   ∃W:Nat->Nat->L2.St->Hp->Prop,(∃m,W 0 m σ H2)/\∀(i m:Nat) (σ:L2.St) (H:Hp),W i m σ H->(z6x X.K a u kvs).stop i H/\D.nx σ H\/(z6x X.K a u kvs).go i H/\
    ∃N:L2.St->Hp->Prop,(∀(σ':L2.St) (H':Hp),N σ' H'->∃m',m'<m/\W (i+1) m' σ' H')/\∀(x:V) (H':Hp),(z6x X.K a u kvs).yld i H x H'->tGx G g x σ H' λ σ2 H2=>tSx G mb {nx:=N,rt:=D.rt,bk:=D.nx,ct:=N} σ2 H2:=by
   intro u H2 s1 w ha M1 W1
   have M1:=M1.frwIn ha ⟨_,_,rfl⟩
   have exw:(F.frw a (.frz u (.dK kvs))).xw=F.xw:=rfl
   have et:(F.frw a (.frz u (.dK kvs))).tv0=F.tv0:=rfl
   have out: ∀{ρ H σ s},MR G (F.frw a (.frz u (.dK kvs))).toFx ρ H σ tv s->MR G F.toFx ρ H σ tv s:=λh=>h.frwOut w
   have outL: ∀{ρ H σ s ts vs},MRL G (F.frw a (.frz u (.dK kvs))).toFx ρ H σ tv s ts vs->MRL G F.toFx ρ H σ tv s ts vs:=λh=>h.frwOut w
   have at': ∀{ρ H σ tv s},MR G (F.frw a (.frz u (.dK kvs))).toFx ρ H σ tv s->H a=some (.frz u (.dK kvs)):=λh=>h.frwAt
   generalize F.frw a (.frz u (.dK kvs))=F1 at*
   refine⟨λi m σ H=> ∃ρ s,MR G F1.toFx ρ H σ ([some (.ref a)]++tv) s/\wS G F tv (forGo kDitp g mb m i s) D,⟨_,ρ1,s1,M1,W1⟩, ?_⟩
   rintro i m σ2 H2 ⟨ρ2,s2,M2',W2⟩
   have ok:=z91 (tvp:=[]) (a:=a) (tv:=tv) M2' (at' M2') i
   erw[C2,D9,l5] at ok
   unfold forGo at W2
   cases e:kDitp.at' i s2.tm with
   |none=>erw[e] at W2;exact False.elim W2
   |some o=>
    cases o with
    |none=>
     erw[e] at W2 ok
     exact .inl ⟨ok,W2 ρ2 σ2 H2 (out (MR.popn M2'))⟩
    |some d=>
     erw[e] at W2 ok
     cases m with
     |zero=>exact False.elim W2
     |succ f=>
      dsimp only at W2
      cases e2:asg g d s2.σ with
      |none=>erw[e2] at W2;exact False.elim W2
      |some σ'=>
       erw[e2] at W2
       refine .inr ⟨ok.1,λ σ H=> ∃ρ s,MR G F1.toFx ρ H σ ([some (.ref a)]++tv) s/\wS G F tv (forGo kDitp g mb f (i+1) s) D,λ σ' H' q=>⟨f,m8 _,q⟩,λx H3 y=> ?_⟩
       refine⟨F1,[some (.ref a)]++tv,ρ2,s2,d,ok.2 x H3 (hk▸y),σ',e2,λ σv' M3=>⟨F1,[some (.ref a)]++tv,by rw[et];exact hs.trans (S2 _ _),ρ2,_,M3, ?_⟩⟩
       cases e3:mb {s2 with σ:=σ'} with
       |nx s4=>erw[e3] at W2;exact λ ρ3 σ3 H3 M4=>⟨ρ3,s4,M4,W2⟩
       |ct s4=>erw[e3] at W2;exact λ ρ3 σ3 H3 M4=>⟨ρ3,s4,M4,W2⟩
       |bk s4=>erw[e3] at W2;exact λ ρ3 σ3 H3 M4=>W2 ρ3 σ3 H3 (out (MR.popn M4))
       |rt d s4=>erw[e3] at W2;exact λ ρ3 σ3 v H3 M4=>W2 ρ3 σ3 v H3 (outL (MRL.popn (tvs:=[some (.ref a)]) M4))
       |ex d s4=>erw[e3] at W2;show F1.xw d s4;rw[exw];exact W2
       |no=>erw[e3] at W2;exact W2
  rcases key with⟨ha,key⟩|⟨u,ha,w,M1⟩
  .exact .inl ⟨ha,λu=>tail u _ s1 (key u).1 y6 (key u).2 W⟩
  .exact .inr ⟨u,ha,tail u _ s1 w ha M1 W⟩
def zaU(hk:X.K=G.K)(ha:SE X G F a mk)(hb:SE X G F b mv):SE X G F (.Dict [some a] [b] pos) (z3K mk mv):=by
 erw[eSE,eSA,eSB,eSW,eSS,zbZ,eSG,zc0,eSI,eSO,za1] at*
 exact PE.imp hk (hk▸z93 ha hb) λ_ _ _ h=>z94 h
end
end My
namespace Mi
open PySem L2
section
variable{X:Cx}{G:Gx}{F:Fy}{a b tg:bn}{pos:bN}
def zaV(ts:List D):M ItK:=λs=>match ts with
 |[.lst l ds]=> .ok z66 (s.psh (.lst l ds))
 |[.ro ds]=> .ok z66 (s.psh (.ro ds))
 |_=> .no
def z1N(ms:List (M D)):M ItK:=bd (Y0 ms) zaV
def z6c:D->D->M D
 | .int i, .int j=>if za8 i j then rt (.int (i*j)) else fl
 |_,_=>fl
def zdT:z9Z G F (rI za8 λi j=> .int (i*j)) z6c:=by
 intro ρ s t t' v u H σv tv Q M W
 delta z6c at W
 split at W
 .split at W
  .rename_i hc
   obtain⟨rfl,rfl⟩:=z4a M
   exact⟨_,_,rfl,rfl,hc,λ_=>W.flat M.m rfl⟩
  .exact wfl W
 .exact wfl W
def z3M{i j:Int}(h:za8 i j):z6c (.int i) (.int j) s= .ok (.int (i*j)) s:=by erw[z6c,qy h];rfl
end
end Mi
namespace My
open PySem L2 PySem.Spec PyProof.Rows Mi
section
variable{X:Cx}{G:Gx}{F:Fy}{a b:bn}{pos:bN}
def z4i{p tpos:bN}{elts:List bn}{x1:Nat}(hk:X.K=G.K)(hg:Gl X "enumerate")(hm:X.mg "enumerate" =none)(ha:SA X G F [a] (Y0 ms))(hs:bi [a] X.env=[(false,bA a X.env)]:=by rfl):SI X G F (.Tuple elts x1 tpos) (.Call (.Name "enumerate" p) [a] [] pos) (z1N ms):=by
 erw[eSE,eSA,eSB,eSW,eSS,zbZ,eSG,zc0,eSI,eSO,za1] at*
 refine PI.imp0 (zd6 hg hm ha hs) λ σ H R ⟨tv,hs,ρ,s,M,W⟩=>⟨tv,hs,ρ,s,M, ?_⟩
 delta z1N bd at W
 cases e:Y0 ms s with
 |ex d s1=>rw[e] at W;exact W
 |no=>rw[e] at W;exact W
 |ok ts s1=>
  rw[e] at W
  intro ρ1 vs H1 M1
  rw[hk]
  delta zaV at W
  dsimp only at W
  split at W
  .rename_i ts' K s' hh
   split at hh
   .cases hh
    obtain⟨v,rfl,h,_⟩:=M1.one
    obtain⟨a,xs,rfl,sq,r,_⟩:=h.lstq (ds:=_) rfl
    exact⟨a,rfl,⟨xs,sq⟩,W ρ1 H1 [some (.ref a)] _ rfl M1.push z6G⟩
   .cases hh
    obtain⟨v,rfl,h,_⟩:=M1.one
    obtain⟨a,xs,rfl,sq,r,_⟩:=h.lstq (ds:=_) rfl
    exact⟨a,rfl,⟨xs,sq⟩,W ρ1 H1 [some (.ref a)] _ rfl M1.push z6G⟩
   .cases hh
  .rename_i hh
   split at hh<;>cases hh
  .exact False.elim W
def z2b(hk:X.K=G.K)(ha:SE X G F a ma)(hb:SE X G F b mb):SE X G F (.BinOp a .Mult b pos) (y8 ma mb z6c):=by
 erw[eSE,eSA,eSB,eSW,eSS,zbZ,eSG,zc0,eSI,eSO,za1] at*
 exact z7a hk zfc zdT ha hb
def z6P{e:bn}(h:SE X G F e m)(he: ∀whole,gg e X.env whole=(do let v<-whole;dz e.pos;cM [v] (truthy v)):=by intro _;rfl):SB X G F e (J3 m):=by
 erw[eSE,eSA,eSB,eSW,eSS,zbZ,eSG,zc0,eSI,eSO,za1] at*
 exact PT.imp0 (zeX h he) λ_ _ _ h=>z60 h
variable{tg iter elt ke ve:bn}{scope:Scope}{own qk:List Str}{ix:List Nat}{ifs:List bn}{mi:M ItK}{g:Tg}{mt:M Bool}{me mk mv:M D}
def cmQ(hi:SI X G F tg iter mi)
 (hg: ∀F cl C s₀ H₀ fp pn,SG (compCxC X scope own qk cl C s₀ H₀ fp pn) G F tg g) (ht: ∀F cl C s₀ H₀ fp pn,STs (compCxC X scope own qk cl C s₀ H₀ fp pn) G F ifs mt) (he: ∀F cl C s₀ H₀ fp pn,SE (compCxC X scope own qk cl C s₀ H₀ fp pn) G F elt me)
 (S:K7 X.env.scope scope own qk X.N ix=true:=by kernel_rfl) (hk:X.K=G.K:=by rfl) (hc:X.calm=true:=by rfl) (hs: ∀x,bC iter X.env x=pure x:=by intro _;rfl):SE X G F (.ListComp elt [⟨tg,iter,ifs,0⟩] scope pos) (Y7 mi g mt me own.length ix):=by
 erw[eSE,eSG,eSI,za1] at*
 exact PE.imp0 (zbI (g:=tGx G g) (tt:=tBx G mt) (te:=tMx G me) hc (K7.sc S) hi (λcl C s₀ H₀ fp pn qz s σ H v u Q I r ⟨F',q⟩=>hg F' cl C s₀ H₀ fp pn qz s σ H v u Q I r q)
  (λcl C s₀ H₀ fp pn qz s σ H Q I ⟨F',q⟩=>ht F' cl C s₀ H₀ fp pn qz s σ H Q I q) (λcl C s₀ H₀ fp pn qz s σ H Q I ⟨F',q⟩=>he F' cl C s₀ H₀ fp pn qz s σ H Q I q) hs) λ σ H Q h=>z6C hk h
def csQ{y:Str}{py spos:bN} i(hN:X.N.Nodup)(hi:SI X G F tg iter mi)
 (hg: ∀F cl C s₀ H₀ fp pn,SG (compCxC X scope own qk cl C s₀ H₀ fp pn) G F tg g) (ht: ∀F cl C s₀ H₀ fp pn,STs (compCxC X scope own qk cl C s₀ H₀ fp pn) G F ifs mt) (he: ∀F cl C s₀ H₀ fp pn,SE (compCxC X scope own qk cl C s₀ H₀ fp pn) G F elt me)
 (hy:X.N[i]? =some y:=by rfl) (hx:Loc X.env.scope y:=by exact Or.inl rfl) (hfn:X.fn y=true\/X.env.scope.names.lookup y=some .local:=by exact Or.inl rfl) (hsw:cD (.ListComp elt [⟨tg,iter,ifs,0⟩] scope pos) (some (.Name y py)) spos.line X.env=pure true:=by rfl)
 (S:K7 X.env.scope scope own qk X.N ix=true:=by kernel_rfl) (hk:X.K=G.K:=by rfl) (hc:X.calm=true:=by rfl) (hs: ∀x,bC iter X.env x=pure x:=by intro _;rfl):SS X G F (.Assign [.Name y py] (.ListComp elt [⟨tg,iter,ifs,0⟩] scope pos) spos) (J8 (.nm i) (Y7 mi g mt me own.length ix)):=by
 erw[eSE,eSG,eSI,za1,eSS] at*
 refine PS.imp0 (zg1 (i:=i) (g:=tGx G g) (tt:=tBx G mt) (te:=tMx G me) hN hy hx hfn hsw hc (K7.sc S) hi (λcl C s₀ H₀ fp pn qz s σ H v u Q I r ⟨F',q⟩=>hg F' cl C s₀ H₀ fp pn qz s σ H v u Q I r q)
  (λcl C s₀ H₀ fp pn qz s σ H Q I ⟨F',q⟩=>ht F' cl C s₀ H₀ fp pn qz s σ H Q I q) (λcl C s₀ H₀ fp pn qz s σ H Q I ⟨F',q⟩=>he F' cl C s₀ H₀ fp pn qz s σ H Q I q) hs) λDd σ H ⟨tv,h⟩=> ?_
 refine z6C hk ⟨tv,(z0t h).mono λv H1 ⟨ρ1,s1,t,M1,W⟩=> ?_⟩
 erw[asg] at W
 exact W ρ1 _ H1 (M1.setS i).m
def cdQ{m0:M D}{elts:List bn}{x1:Nat}{tpos apos cpos:bN}(hl:SE X G F iter m0)
 (hg: ∀(F:Fy) cl C s₀ H₀ fp pn,SG (compCxC X scope own qk cl C s₀ H₀ fp pn) G F (.Tuple elts x1 tpos) g) (he: ∀(F:Fy) cl C s₀ H₀ fp pn,SE (compCxC X scope own qk cl C s₀ H₀ fp pn) G F ke mk) (hv: ∀(F:Fy) cl C s₀ H₀ fp pn,SE (compCxC X scope own qk cl C s₀ H₀ fp pn) G F ve mv)
 (S:K7 X.env.scope scope own qk X.N ix=true:=by kernel_rfl) (hk:X.K=G.K:=by rfl) (hc:X.calm=true:=by rfl)
 (hs: ∀x,bC (.Call (.Attribute iter "items" apos) [] [] cpos) X.env x=pure x:=by intro _;rfl) (hbase:cm iter "items" X.env (bA iter X.env)=bA iter X.env:=by rfl)
 (hfew:((bM cpos (bi [] X.env)).all (λx=> !x.1)&&(cR cpos (cy [] X.env)).all (λx=>x.1.isSome)&&decide (([]:List bn).length+([]:List cq).length+(if([]:List cq).isEmpty then 0 else 1)<30))=true:=by rfl)
 (hline:(apos.endLine==cpos.line)=true:=by rfl):SE X G F (.DictComp ke ve [⟨.Tuple elts x1 tpos, .Call (.Attribute iter "items" apos) [] [] cpos,[],0⟩] scope pos) (z3J (z2v m0) g mk mv own.length ix):=by
 erw[eSE,eSG] at*
 exact PE.imp0 (zg2 (g:=tGx G g) (tk:=tMx G mk) (te:=tMx G mv) hc (K7.sc S) (z8x hl hbase hfew hline) (λcl C s₀ H₀ fp pn qz s σ H v u Q I r ⟨F',q⟩=>hg F' cl C s₀ H₀ fp pn qz s σ H v u Q I r q)
  (λcl C s₀ H₀ fp pn qz s σ H Q I ⟨F',q⟩=>he F' cl C s₀ H₀ fp pn qz s σ H Q I q) (λcl C s₀ H₀ fp pn qz s σ H Q I ⟨F',q⟩=>hv F' cl C s₀ H₀ fp pn qz s σ H Q I q) hs) λ σ H Q h=>z7k hk h
def crQ{i:Nat}{x:Str}{np:bN}(hi:PE X (.Name x np) (zcw i))(ho:own.length=1)
 (hg: ∀cl C s₀ H₀ fp pn,PG (compCxC X scope own qk cl C s₀ H₀ fp pn) tg (z5M 0)) (he: ∀cl C s₀ H₀ fp pn,PE (compCxC X scope own qk cl C s₀ H₀ fp pn) elt (zd9 X.K))
 (S:K7 X.env.scope scope own qk X.N [i]=true:=by kernel_rfl) (hk:X.K=G.K:=by rfl) (hc:X.calm=true:=by rfl)
 (hs: ∀y,bC (.Name x np) X.env y=pure y:=by intro _;rfl):SE X G F (.ListComp elt [⟨tg, .Name x np,[],0⟩] scope pos) (bd (y0 i) zdF):=by
 rw[eSE]
 have base:=PE.thaw (zbI (pos:=pos) (te:=zd9 X.K) hc (K7.sc S) (zd8 hi) hg (λ_ _ _ _ _ _=>z8j) he hs)
 rw[ho] at base
 refine PE.imp hk base ?_
 rintro σ H Q ⟨tv,hsf,ρ,s,M,W⟩
 delta bd y0 at W
 cases e0:s.σ[i]? with
 |none=>rw[e0] at W;exact W.elim
 |some o=>
  cases o with
  |none=>rw[e0] at W;exact W.elim
  |some t=>
   rw[e0] at W
   obtain⟨v,h1,h2⟩:=M.sl.get i t e0
   refine⟨v,h1, ?_⟩
   cases t with
   |dct l ks vs=>
    by_cases hr:z7h ks vs=true
    .obtain⟨hT,hvs,hsm,hz⟩:=zaR hr
     erw[zdF,qy hr] at W
     obtain⟨rfl,kvs,hx,rfl,r⟩:=h2.dctq hT
     refine z8r (Q:=λv H'=>KD G.K H'->Q v H') ⟨ρ l,kvs,rfl,hx,zgI hsm,by simpa using hz,by simp,λD H2 ps hD h2 sm rw' kd=> ?_⟩ h1
     rw[<-zdG] at W
     exact zaQ W M (zbV r kvs) (z6M hvs _) hD h2 sm rw' (by simp) kd
    .erw[zdF,qh hr] at W;exact False.elim W
   |_=>exact False.elim W
end
noncomputable def top(i:Nat):Stmt:=PySem.Challenge.pw_signbench_k28_whole_no_two_fight.main.body.getD i (.Pass ⟨0,0,0,0⟩)
abbrev z0V:Stmt:=top 2
abbrev z2Z:Stmt:=top 3
abbrev X7:Stmt:=top 4
abbrev U9:Stmt:=top 5
abbrev V0:Stmt:=top 6
abbrev z1q:Stmt:=top 7
abbrev z30:Stmt:=top 8
abbrev z0W:Stmt:=top 10
abbrev G8:Stmt:=top 11
abbrev z0y:Stmt:=top 12
abbrev V1:Stmt:=top 13
abbrev z6d:Stmt:=top 15
abbrev z4j:Stmt:=top 16
abbrev z31:Stmt:=top 17
abbrev z0X:Stmt:=top 18
abbrev z1r:Stmt:=top 19
abbrev z32:Stmt:=top 20
abbrev z2c:Stmt:=top 21
abbrev zdU:Stmt:=top 22
noncomputable abbrev z5f:List Str:=["wishes", "later", "wish", "earlier", "other"]
noncomputable abbrev z0Y:List Str:=["wishes"]
noncomputable abbrev z5g:List Str:=["wish", "other"]
abbrev z33:List Str:=z5g
noncomputable abbrev z2w:List Str:=["wish", "other", "barred"]
noncomputable abbrev X8:List Str:=["wish", "other"]
noncomputable abbrev z0h:List Str:=["wish"]
abbrev V2:List Str:=z0h
noncomputable abbrev z0i:List Str:=["wish"]
abbrev V3:List Str:=z0i
noncomputable abbrev z34:List Str:=["net", "wishes"]
abbrev z1s:List Str:=z34
noncomputable abbrev z9d:List Str:=["wish", "begin", "piece", "end", "low", "high"]
noncomputable abbrev z35:List Str:=["wish", "begin", "piece"]
noncomputable abbrev z5h:List Str:=["net", "ways", "place", "pieces", "piece"]
noncomputable abbrev z0Z:List Str:=["net"]
noncomputable abbrev z1O:List Str:=["net", "rates", "many", "onward", "place"]
noncomputable abbrev G9:List Str:=["net", "rates", "many"]
noncomputable abbrev z4k:List Str:=["pieces", "onward", "many", "found", "piece", "end", "signs", "kind", "cost", "ways"]
noncomputable abbrev z0z:List Str:=["pieces", "onward", "many"]
noncomputable abbrev z2d:List Str:=["ways", "rates", "many", "found", "row", "options", "kind", "known"]
noncomputable abbrev V4:List Str:=["ways", "rates", "many"]
noncomputable abbrev zdV:List Str:=["_law_script", "_law_at", "_law_cell", "_law_mix", "_law_k"]
noncomputable abbrev z6e:List Str:=["_law_script", "_law_at"]
noncomputable abbrev zaW:List Str:=["_law_bag_here", "_law_many", "_law_digit"]
noncomputable abbrev z4l:List Str:=["_law_bag_here", "_law_many"]
noncomputable abbrev z9e:List Str:=["_law_bag_here", "_law_most", "_law_ahead", "_law_behind"]
noncomputable abbrev z36:List Str:=["_law_bag_here"]
noncomputable abbrev z5i:List Str:=["_law_bag_here", "_law_n", "_law_top", "_law_net", "_law_begin", "_law_found", "_law_end", "_law_turn"]
noncomputable abbrev z15:List Str:=["_law_bag_here", "_law_n"]
noncomputable abbrev z6f:List Str:=["_law_bag_here", "_law_net", "_law_n", "_law_way", "_law_begin", "_law_piece"]
noncomputable abbrev z1t:List Str:=["_law_bag_here", "_law_net"]
noncomputable abbrev z9f:List Str:=["_law_cutting", "_law_wish", "_law_borders", "_law_stretches"]
noncomputable abbrev z37:List Str:=["_law_cutting", "_law_wish"]
noncomputable abbrev z7m:List Str:=["_law_net", "_law_rates_here", "_law_wishes", "_law_found", "_law_told"]
noncomputable abbrev z2e:List Str:=["_law_net", "_law_rates_here", "_law_wishes"]
noncomputable abbrev zjx:List Str:=["_law_script", "_law_k", "_law_bag_here", "_law_many", "_law_rates_here", "_law_net", "_law_wishes", "_law_two"]
noncomputable abbrev zdW:List Str:=["_law_script"]
local macro_rules | `(tactic| walk_at "sc") => `(tactic| exact ⟨rfl, rfl, rfl, by decide +kernel, rfl, by decide +kernel, by decide +kernel⟩)
def u8:Q3 z5f z0Y (Z2 z0V):=by walk_at "sc"
def z7n:Q3 z5g z33 (Z2 z2Z):=by walk_at "sc"
def z0j:Q3 z2w X8 (Z2 X7):=by walk_at "sc"
def z1P:Q3 z0h V2 (Z2 U9):=by walk_at "sc"
def z1Q:Q3 z0i V3 (Z2 V0):=by walk_at "sc"
def z5j:Q3 z34 z1s (Z2 z1q):=by walk_at "sc"
def z2f:Q3 z9d z35 (Z2 z30):=by walk_at "sc"
def U0:Q3 z5h z0Z (Z2 z0W):=by walk_at "sc"
def g8:Q3 z1O G9 (Z2 G8):=by walk_at "sc"
def Q6:Q3 z4k z0z (Z2 z0y):=by walk_at "sc"
def Q1:Q3 z2d V4 (Z2 V1):=by walk_at "sc"
def z0A:Q3 zdV z6e (Z2 z6d):=by walk_at "sc"
def z5k:Q3 zaW z4l (Z2 z4j):=by walk_at "sc"
def z1i:Q3 z9e z36 (Z2 z31):=by walk_at "sc"
def j5:Q3 z5i z15 (Z2 z0X):=by walk_at "sc"
def X0:Q3 z6f z1t (Z2 z1r):=by walk_at "sc"
def z2g:Q3 z9f z37 (Z2 z32):=by walk_at "sc"
def z1u:Q3 z7m z2e (Z2 z2c):=by walk_at "sc"
def z2r:Q3 zjx zdW (Z2 zdU):=by walk_at "sc"
structure Dx(K:W.Frag)(mg:Str->Option bb)(x:Str)(st:Stmt)(ps:List Str) where
 f:Addr
 d:bI
 F:Fun K x x st f d
 b:z5O K d ps []
 m:mg x=some (.ref f)
def scl{X:Cx}{G:Gx}{F:Fy}{e:bn}{es:List bn}{pos p:bN}{CX:CXT}{k j:Nat}{x:Str}{st:Stmt}{ps:List Str}{E:XK}{f:FM}{ms:List (M D)}(d:Dx X.K X.mg x st ps)(Fn:z0L X.prog X.w X.K X.mg X.base CX j d.f d.d ps (spM G ps.length f))(hr:z3p k X.A)(ha:SA X G F (e::es) (Y0 ms))(hg:Gl X x:=by rfl)(hx:z4C CX X E:=by exact zja)(hln:ms.length=ps.length:=by rfl)(hk:X.K=G.K:=by rfl)(hj:j<=k:=by lia)(hdb:(x==("__debug__" :Str))=false:=by decide)(he:bi (e::es) X.env=(false,bA e X.env)::bi es X.env:=by rfl)(hpl:(bM pos (bi es X.env)).any (·.1)=false:=by rfl):SE X G F (.Call (.Name x p) (e::es) [] pos) (Z0 f ms):=zdL hk (Fn.mono hj) hr hg d.m d.F.kp d.b hx ha hln hdb he hpl
set_option genInjectivity false in
set_option genSizeOf false in
set_option genSizeOfSpec false in
structure Wd(K:W.Frag)(mg:Str->Option bb) where
 x_p_fighting:Dx K mg "fighting" z0V z0Y
 x_p_fight:Dx K mg "fight" z2Z z33
 x_p_wants_barred:Dx K mg "wants_barred" X7 X8
 x_p_places_wanted:Dx K mg "places_wanted" U9 V2
 x_p_places_barred:Dx K mg "places_barred" V0 V3
 x_p_thinned:Dx K mg "thinned" z1q z1s
 x_p_keeps:Dx K mg "keeps" z30 z35
 x_p_how_many:Dx K mg "how_many" z0W z0Z
 x_p_first_cuttings:Dx K mg "first_cuttings" G8 G9
 x_p_ways_from:Dx K mg "ways_from" z0y z0z
 x_p_by_kind_ahead:Dx K mg "by_kind_ahead" V1 V4
 x_l_bag:Dx K mg "_law_bag" z6d z6e
 x_l_take:Dx K mg "_law_take" z4j z4l
 x_l_rates:Dx K mg "_law_rates" z31 z36
 x_l_full_net:Dx K mg "_law_full_net" z0X z15
 x_l_wish_of:Dx K mg "_law_wish_of" z1r z1t
 x_l_keeps:Dx K mg "_law_keeps" z32 z37
 x_l_stands:Dx K mg "_law_stands" z2c z2e
 x_law:Dx K mg "law" zdU zdW
 n_abs:mg "abs" =none
 n_all:mg "all" =none
 n_any:mg "any" =none
 c_END_KIND: ∃t,mg "END_KIND" =some (.int 9 t)
 n_enumerate:mg "enumerate" =none
 n_int:mg "int" =none
 n_len:mg "len" =none
 n_list:mg "list" =none
 n_max:mg "max" =none
 n_min:mg "min" =none
 n_range:mg "range" =none
 n_reversed:mg "reversed" =none
 n_sorted:mg "sorted" =none
 n_tuple:mg "tuple" =none
 n_zip:mg "zip" =none
section
variable{P:bp}{w:br}{K:W.Frag}{mg:Str->Option bb}{base:Heap}
def V5:MS:=(W9 (sIf (J3 (y8 (y8 (y0 0) (mC (.int 0)) ixD) (mC (.str ("border" :Str))) eqD)) (G2 (mCB [] lstM)) sNx)
 (W9 (sIf (J3 (y8 (y8 (y0 0) (mC (.int 0)) ixD) (mC (.str ("joined" :Str))) eqD)) (G2 (mCB [(y8 (y0 0) (mC (.int 1)) ixD)] lstM)) sNx)
 (G2 (mCB [(y8 (y8 (y0 0) (mC (.int 1)) ixD) (mC (.int 1)) K9),(y8 (y0 0) (mC (.int 2)) ixD)] lrM))))
def J9:FM:=z2S 1 V5
def z1R(T:Wd K mg):z0L P w K mg base CX0 1 T.x_p_places_barred.f T.x_p_places_barred.d V3 (spM (G0 K) 1 J9):=okM V5 T.x_p_places_barred.F z1Q λcdv A outer s H E F hr=>by
 have h64:=hr.units
 exact(y4 (X5 (Q7 (z0g rfl h64) (sxc (sv 0) y2) (sc0 k8) (W3 _)) (Z3 (Y4 (G3 rfl (sa_of rfl .nil)))) J6)
 (y4 (X5 (Q7 (z0g rfl h64) (sxc (sv 0) y2) (sc0 k8) (W3 _)) (Z3 (Y4 (G3 rfl (s1 (sxc (sv 0) y2))))) J6)
 (Z3 (Y4 (z5e rfl rfl rfl T.n_list rfl T.n_range (s2 (G4 rfl (sxc (sv 0) y2) (sc0 y2)) (sxc (sv 0) y2)))))))
def V6:MS:=(W9 (sIf (J3 (y8 (y8 (y0 0) (mC (.int 0)) ixD) (mC (.str ("border" :Str))) eqD)) (G2 (mCB [(y8 (y0 0) (mC (.int 1)) ixD)] lstM)) sNx)
 (W9 (sIf (J3 (y8 (y8 (y0 0) (mC (.int 0)) ixD) (mC (.str ("joined" :Str))) eqD)) (G2 (mCB [] lstM)) sNx)
 (G2 (mCB [(y8 (y0 0) (mC (.int 1)) ixD),(y8 (y0 0) (mC (.int 2)) ixD)] lstM))))
def J0:FM:=z2S 1 V6
def z1S(T:Wd K mg):z0L P w K mg base CX0 1 T.x_p_places_wanted.f T.x_p_places_wanted.d V2 (spM (G0 K) 1 J0):=okM V6 T.x_p_places_wanted.F z1P λcdv A outer s H E F hr=>by
 have h64:=hr.units
 exact(y4 (X5 (Q7 (z0g rfl h64) (sxc (sv 0) y2) (sc0 k8) (W3 _)) (Z3 (Y4 (G3 rfl (s1 (sxc (sv 0) y2))))) J6)
 (y4 (X5 (Q7 (z0g rfl h64) (sxc (sv 0) y2) (sc0 k8) (W3 _)) (Z3 (Y4 (G3 rfl (sa_of rfl .nil)))) J6)
 (Z3 (Y4 (G3 rfl (s2 (sxc (sv 0) y2) (sxc (sv 0) y2)))))))
def X9:MS:=(W9 (J8 (.nm 2) (Z0 J9 [(y0 1)]))
 (G2 (mCB [(Y7 (Q5 (Z0 J0 [(y0 0)])) (.nm 0) (rt true) (y8 (y0 0) (y0 1) inD) 1 [2])] zdq)))
def Z6:FM:=z2S 3 X9
def z0k(T:Wd K mg):z0L P w K mg base CX0 2 T.x_p_wants_barred.f T.x_p_wants_barred.d X8 (spM (G0 K) 2 Z6):=okM X9 T.x_p_wants_barred.F z0j λcdv A outer s H E F hr=>by
 have h64:=hr.units
 exact(y4 (z1M (λ{te} h=>z1C (i:=2) z0j.nd rfl (Or.inr rfl) h) (scl T.x_p_places_barred (z1R T) hr (s1 (sv 1))))
 (Z3 (Y4 (z2a rfl (zbS rfl hr.hd) rfl T.n_any PyProof.Rows.Boot.«any» (s1 (cmQ (own:=["place"]) (qk:=["barred"]) (ix:=[2]) (x9 rfl (scl T.x_p_places_wanted (z1S T) hr (s1 (sv 0)))) (λ_ _ _ _ _ _ _=>(Y1 (Z8 (i:=0) (show p8 (["place", "barred"]:List Str) by decide+kernel) rfl (Or.inl rfl)))) (λ_ _ _ _ _ _ _=>j9) (λ_ _ _ _ _ _ _=>(z0U (zdv rfl h64) (sv 0) (sv 1) (by with_unfolding_all rfl)))))))))
def z38:MS:=(W9 (sIf (zaA (J3 (y8 (y8 (y0 0) (mC (.int 0)) ixD) (mC (.str ("held" :Str))) eqD)) (zaA (J3 (y8 (y8 (y0 1) (mC (.int 0)) ixD) (mC (.str ("held" :Str))) eqD)) (zaA (J3 (y8 (mSl (y0 0) (some (mC (.int 1))) (some (mC (.int 3)))) (mSl (y0 1) (some (mC (.int 1))) (some (mC (.int 3)))) eqD)) (J3 (y8 (y8 (y0 0) (mC (.int 3)) ixD) (y8 (y0 1) (mC (.int 3)) ixD) neD))))) (G2 (mC (.bool true))) sNx)
 (G2 (zbN (Z0 Z6 [(y0 0),(y0 1)]) (Z0 Z6 [(y0 1),(y0 0)]))))
def z16:FM:=z2S 2 z38
def z7o(T:Wd K mg):z0L P w K mg base CX0 3 T.x_p_fight.f T.x_p_fight.d z33 (spM (G0 K) 2 z16):=okM z38 T.x_p_fight.F z7n λcdv A outer s H E F hr=>by
 have h64:=hr.units
 exact(y4 (X5 (SW.sb (z6O (Q7 (z0g rfl h64) (sxc (sv 0) y2) (sc0 k8) (W3 _)) (z6O (Q7 (z0g rfl h64) (sxc (sv 1) y2) (sc0 k8) (W3 _)) (z6O (Q7 (z0g rfl h64) (z0w rfl (sv 0) (z0v (sc0 y2)) (z0v (sc0 y2))) (z0w rfl (sv 1) (z0v (sc0 y2)) (z0v (sc0 y2))) (W3 _)) (z95 (Q7 (z4e rfl h64) (sxc (sv 0) y2) (sxc (sv 1) y2) (W3 _))))))) (Z3 (Y4 (sc0 z3U))) J6)
 (Z3 (Y4 (zgL (scl T.x_p_wants_barred (z0k T) hr (s2 (sv 0) (sv 1))) (z97 (scl T.x_p_wants_barred (z0k T) hr (s2 (sv 1) (sv 0))))))))
def z17:MS:=(W9 (z1A (z1N [(y0 0)]) (.tp [(.nm 1),(.nm 2)]) (z1A (z1N [(mSl (y0 0) none (some (y0 1)))]) (.tp [(.nm 3),(.nm 4)]) (sIf (J3 (Z0 z16 [(y0 4),(y0 2)])) (G2 (mCB [(y0 3),(y0 1)] x6)) sNx)))
 (G2 (mC .non)))
def J7:FM:=z2S 5 z17
def z1T(T:Wd K mg):z0L P w K mg base CX0 4 T.x_p_fighting.f T.x_p_fighting.d z0Y (spM (G0 K) 1 J7):=okM z17 T.x_p_fighting.F u8 λcdv A outer s H E F hr=>(y4 (z0H PassesOwn.never rfl (z4i rfl rfl T.n_enumerate (s1 (sv 0))) (z0G rfl rfl (Y2 (sgn 1 u8.nd) (Y2 (sgn 2 u8.nd) X6))) (Z3 (z0H PassesOwn.never rfl (z4i rfl rfl T.n_enumerate (s1 (z0w rfl (sv 0) z2X (z0v (sv 1))))) (z0G rfl rfl (Y2 (sgn 3 u8.nd) (Y2 (sgn 4 u8.nd) X6))) (Z3 (X5 (z6P (scl T.x_p_fight (z7o T) hr (s2 (sv 4) (sv 2)))) (Z3 (Y4 (x8 rfl (s2 (sv 3) (sv 1))))) J6)))))
 (Z3 (Y4 (sc0 z7G))))
def z39:MS:=(W9 (J8 (.nm 3) (y8 (y0 2) (mC (.int 0)) ixD))
 (W9 (sIf (J3 (y8 (y8 (y0 0) (mC (.int 0)) ixD) (mC (.str ("border" :Str))) eqD)) (G2 (zaC (z4X (y0 1) (y8 (y0 0) (mC (.int 1)) ixD) (y0 3) ltD ltD))) sNx)
 (W9 (sIf (J3 (y8 (y8 (y0 0) (mC (.int 0)) ixD) (mC (.str ("joined" :Str))) eqD)) (G2 (zaB (y8 (y0 1) (y8 (y0 0) (mC (.int 1)) ixD) neD) (y8 (y0 3) (y8 (y0 0) (mC (.int 1)) ixD) neD))) sNx)
 (W9 (J8 (.tp [.nm 4, .nm 5]) (mCB [(y8 (y0 0) (mC (.int 1)) ixD),(y8 (y0 0) (mC (.int 2)) ixD)] x6))
 (W9 (sIf (mOr (J3 (y8 (y0 3) (y0 4) leD)) (J3 (y8 (y0 5) (y0 1) leD))) (G2 (mC (.bool true))) sNx)
 (W9 (sIf (mOr (J3 (y8 (y0 1) (y0 4) neD)) (J3 (y8 (y0 3) (y0 5) neD))) (G2 (mC (.bool false))) sNx)
 (G2 (zbN (y8 (y8 (y0 0) (mC (.int 0)) ixD) (mC (.str ("span" :Str))) eqD) (y8 (y8 (y0 2) (mC (.int 1)) ixD) (y8 (y0 0) (mC (.int 3)) ixD) eqD)))))))))
def X1:FM:=z2S 6 z39
def z7p(T:Wd K mg):z0L P w K mg base CX0 1 T.x_p_keeps.f T.x_p_keeps.d z35 (spM (G0 K) 3 X1):=okM z39 T.x_p_keeps.F z2f λcdv A outer s H E F hr=>by
 have h64:=hr.units
 exact(y4 (sst 3 z2f.nd (sxc (sv 2) y2))
 (y4 (X5 (Q7 (z0g rfl h64) (sxc (sv 0) y2) (sc0 k8) (W3 _)) (Z3 (Y4 (zgM (zdM z65 z65 (sv 1) (sxc (sv 0) y2) (sv 3))))) J6)
 (y4 (X5 (Q7 (z0g rfl h64) (sxc (sv 0) y2) (sc0 k8) (W3 _)) (Z3 (Y4 (zgK (z0U (z4e rfl h64) (sv 1) (sxc (sv 0) y2) (W3 _)) (z97 (z0U (z4e rfl h64) (sv 3) (sxc (sv 0) y2) (W3 _)))))) J6)
 (y4 (zgO (i:=4) (j:=5) rfl z2f.nd rfl rfl (by decide) rfl rfl (s2 (sxc (sv 0) y2) (sxc (sv 0) y2)))
 (y4 (X5 (SW.sb (z7l (Q7 zdu (sv 3) (sv 4) (W3 _)) (z3L (Q7 zdu (sv 5) (sv 1) (W3 _))))) (Z3 (Y4 (sc0 z3U))) J6)
 (y4 (X5 (SW.sb (z7l (Q7 (z4e rfl h64) (sv 1) (sv 4) (W3 _)) (z3L (Q7 (z4e rfl h64) (sv 3) (sv 5) (W3 _))))) (Z3 (Y4 (sc0 z3U))) J6)
 (Z3 (Y4 (zgL (z0U (z0g rfl h64) (sxc (sv 0) y2) (sc0 k8) (W3 _)) (z97 (z0U (z0g rfl h64) (sxc (sv 2) y2) (sxc (sv 0) y2) (W3 _))))))))))))
def z1v:MS:=(G2 (Y7 (z1N [(y0 0)]) (.tp [(.nm 0),(.nm 1)]) (rt true) (Y7 (Q5 (y0 1)) (.nm 0) (J3 (mCB [(Y7 (Q5 (y0 2)) (.nm 0) (rt true) (Z0 X1 [(y0 0),(y0 1),(y0 2)]) 1 [1,0])] za0)) (y0 0) 1 [0,2]) 2 [1]))
def Q8:FM:=z2S 2 z1v
def z08(T:Wd K mg):z0L P w K mg base CX0 2 T.x_p_thinned.f T.x_p_thinned.d z1s (spM (G0 K) 2 Q8):=okM z1v T.x_p_thinned.F z5j λcdv A outer s H E F hr=>(Z3 (Y4 (cmQ (own:=["begin", "pieces"]) (qk:=["wishes"]) (ix:=[1]) (z4i rfl rfl T.n_enumerate (s1 (sv 0))) (λ_ _ _ _ _ _ _=>(z0G rfl rfl (Y2 (Y1 (Z8 (i:=0) (show p8 (["begin", "pieces", "wishes"]:List Str) by decide+kernel) rfl (Or.inr rfl))) (Y2 (Y1 (Z8 (i:=1) (show p8 (["begin", "pieces", "wishes"]:List Str) by decide+kernel) rfl (Or.inl rfl))) X6)))) (λ_ _ _ _ _ _ _=>j9) (λ_ _ _ _ _ _ _=>(cmQ (own:=["piece"]) (qk:=["begin", "wishes"]) (ix:=[0,2]) (x9 rfl (sv 1)) (λ_ _ _ _ _ _ _=>(Y1 (Z8 (i:=0) (show p8 (["piece", "begin", "wishes"]:List Str) by decide+kernel) rfl (Or.inr rfl)))) (λ_ _ _ _ _ _ _=>(zdK (z6P (z2a rfl (zbR rfl hr.hd) rfl T.n_all PyProof.Rows.Boot.«all» (s1 (cmQ (own:=["wish"]) (qk:=["begin", "piece"]) (ix:=[1,0]) (x9 rfl (sv 2)) (λ_ _ _ _ _ _ _=>(Y1 (Z8 (i:=0) (show p8 (["wish", "begin", "piece"]:List Str) by decide+kernel) rfl (Or.inl rfl)))) (λ_ _ _ _ _ _ _=>j9) (λ_ _ _ _ _ _ _=>(scl T.x_p_keeps (z7p T) hr (s3 (sv 0) (sv 1) (sv 2)))))))))) (λ_ _ _ _ _ _ _=>(sv 0)))))))
def z18:MS:=(W9 (J8 (.nm 1) (y8 (mCB [(mC (.int 1))] lstM) (Y7 (Q5 (y0 0)) (.nm 0) (rt true) (mC (.int 0)) 1 []) K9))
 (W9 (z1A (z1N [(y0 0)]) (.tp [(.nm 2),(.nm 3)]) (z1A (Q5 (y0 3)) (.nm 4) (z8U (y0 1) (y8 (y0 4) (mC (.int 0)) ixD) (y8 (y0 1) (y0 2) ixD))))
 (G2 (y8 (y0 1) (mCB [(y0 0)] z4Y) ixD))))
def j8:FM:=z2S 5 z18
def z0B(T:Wd K mg):z0L P w K mg base CX0 1 T.x_p_how_many.f T.x_p_how_many.d z0Z (spM (G0 K) 1 j8):=okM z18 T.x_p_how_many.F U0 λcdv A outer s H E F hr=>(y4 (sst 1 U0.nd (G4 rfl (G3 rfl (s1 (sc0 y2))) (cmQ (own:=["pieces"]) (qk:=[]) (ix:=[]) (x9 rfl (sv 0)) (λ_ _ _ _ _ _ _=>(Y1 (Z8 (i:=0) (show p8 (["pieces"]:List Str) by decide+kernel) rfl (Or.inl rfl)))) (λ_ _ _ _ _ _ _=>j9) (λ_ _ _ _ _ _ _=>(sc0 y2)))))
 (y4 (z0H PassesOwn.never rfl (z4i rfl rfl T.n_enumerate (s1 (sv 0))) (z0G rfl rfl (Y2 (sgn 2 U0.nd) (Y2 (sgn 3 U0.nd) X6))) (Z3 (z0H PassesOwn.never rfl (x9 rfl (sv 3)) (sgn 4 U0.nd) (Z3 (zdO rfl (sv 1) (sxc (sv 4) y2) (sxx (sv 1) (sv 2)) (by intros;rfl))))))
 (Z3 (Y4 (sxx (sv 1) (sln T.n_len (s1 (sv 0))))))))
def V7:MS:=(W9 (J8 (.nm 3) (mCB [] lstM))
 (W9 (z1A (Q5 (y0 1)) (.nm 4) (W9 (J8 (.nm 5) (mCB [] lstM))
 (W9 (z1A (z2v (y0 0)) (.tp [(.nm 6),(.nm 7)]) (z26 (z1p (y0 5) [(Y7 (Q5 (y0 7)) (.tp [(.nm 0),(.nm 1)]) (rt true) (mCB [(y8 (y8 (y0 2) (y0 3) ixD) (y0 0) K9),(y0 1)] x6) 2 [4,6])] z7x)))
 (z26 (z1p (y0 3) [(mSl (mCB [(y0 5)] z7g) none (some (y0 2)))] z8L)))))
 (G2 (y0 3))))
def W7:FM:=z2S 8 V7
def z09(T:Wd K mg):z0L P w K mg base CX0 1 T.x_p_by_kind_ahead.f T.x_p_by_kind_ahead.d V4 (spM (G0 K) 3 W7):=okM V7 T.x_p_by_kind_ahead.F Q1 λcdv A outer s H E F hr=>by
 have h64:=hr.units
 exact(y4 (sst 3 Q1.nd (G3 rfl (sa_of rfl .nil)))
 (y4 (z0H PassesOwn.never rfl (x9 rfl (sv 1)) (Y1 (Z8 (i:=4) Q1.nd rfl (Or.inr rfl))) (y4 (sst 5 Q1.nd (G3 rfl (sa_of rfl .nil)))
 (y4 (zdS rfl PassesOwn.never rfl (sv 0) (λ_=>(z0G rfl rfl (Y2 (Y1 (Z8 (i:=6) Q1.nd rfl (Or.inr rfl))) (Y2 (sgn 7 Q1.nd) X6)))) (λ_=>(Z3 (z2Y (z9b rfl PySem.F.slot_list_extend PySem.F.type_list_extend (z52 rfl) (sv 5) (s1 (cmQ (own:=["cost", "way"]) (qk:=["row", "kind"]) (ix:=[4,6]) (x9 rfl (sv 7)) (λ_ _ _ _ _ _ _=>(z0G rfl rfl (Y2 (Y1 (Z8 (i:=0) (show p8 (["cost", "way", "row", "kind"]:List Str) by decide+kernel) rfl (Or.inl rfl))) (Y2 (Y1 (Z8 (i:=1) (show p8 (["cost", "way", "row", "kind"]:List Str) by decide+kernel) rfl (Or.inl rfl))) X6)))) (λ_ _ _ _ _ _ _=>j9) (λ_ _ _ _ _ _ _=>(x8 rfl (s2 (G4 rfl (sxx (sv 2) (sv 3)) (sv 0)) (sv 1)))))))))))
 (Z3 (z2Y (z9b rfl PySem.F.slot_list_append PySem.F.type_list_append z2T (sv 3) (s1 (z0w rfl (z2a rfl (z8T rfl h64) rfl T.n_sorted PyProof.Rows.Boot.«sorted» (s1 (sv 5))) z2X (z0v (sv 2))))))))))
 (Z3 (Y4 (sv 3)))))
def z0C:MS:=(W9 (J8 (.nm 3) zaP)
 (W9 (z1A (Q5 (y0 0)) (.nm 4) (W9 (J8 (.tp [(.nm 5),(.nm 6),(.nm 7),(.nm 8)]) (y0 4))
 (W9 (J8 (.nm 9) (z6a (y0 3) (y0 7) (mCB [] lstM)))
 (z26 (z1p (y0 9) [(Y7 (Q5 (y8 (y8 (y0 1) (y0 5) ixD) (y0 7) ixD)) (.tp [(.nm 0),(.nm 1)]) (rt true) (mCB [(y8 (y0 2) (y0 0) K9),(y8 (mCB [(y0 3)] x6) (y0 1) K9)] x6) 2 [8,4])] z7x)))))
 (G2 (z3J (z2v (y0 3)) (.tp [(.nm 0),(.nm 1)]) (y0 0) (mSl (mCB [(y0 1)] z7g) none (some (y0 2))) 2 [2]))))
def U1:FM:=z2S 10 z0C
def z3s(T:Wd K mg):z0L P w K mg base CX0 1 T.x_p_ways_from.f T.x_p_ways_from.d z0z (spM (G0 K) 3 U1):=okM z0C T.x_p_ways_from.F Q6 λcdv A outer s H E F hr=>by
 have h64:=hr.units
 exact(y4 (sst 3 Q6.nd (zaT rfl))
 (y4 (z0H PassesOwn.never rfl (x9 rfl (sv 0)) (Y1 (Z8 (i:=4) Q6.nd rfl (Or.inr rfl))) (y4 (zgN (sv 4) (z0G rfl rfl (Y2 (sgn 5 Q6.nd) (Y2 (sgn 6 Q6.nd) (Y2 (sgn 7 Q6.nd) (Y2 (Y1 (Z8 (i:=8) Q6.nd rfl (Or.inr rfl))) X6))))))
 (y4 (sst 9 Q6.nd (zdR rfl (sv 3) (sv 7) (G3 rfl (sa_of rfl .nil)) ⟨rfl,rfl,rfl,rfl⟩))
 (Z3 (z2Y (z9b rfl PySem.F.slot_list_extend PySem.F.type_list_extend (z52 rfl) (sv 9) (s1 (cmQ (own:=["rest_cost", "rest"]) (qk:=["cost", "piece"]) (ix:=[8,4]) (x9 rfl (sxx (sxx (sv 1) (sv 5)) (sv 7))) (λ_ _ _ _ _ _ _=>(z0G rfl rfl (Y2 (Y1 (Z8 (i:=0) (show p8 (["rest_cost", "rest", "cost", "piece"]:List Str) by decide+kernel) rfl (Or.inl rfl))) (Y2 (Y1 (Z8 (i:=1) (show p8 (["rest_cost", "rest", "cost", "piece"]:List Str) by decide+kernel) rfl (Or.inl rfl))) X6)))) (λ_ _ _ _ _ _ _=>j9) (λ_ _ _ _ _ _ _=>(x8 rfl (s2 (G4 rfl (sv 2) (sv 0)) (G4 rfl (x8 rfl (s1 (sv 3))) (sv 1)))))))))))))
 (Z3 (Y4 (cdQ (own:=["kind", "ways"]) (qk:=["many"]) (ix:=[2]) (sv 3) (λ_ _ _ _ _ _ _=>(z0G rfl rfl (Y2 (Y1 (Z8 (i:=0) (show p8 (["kind", "ways", "many"]:List Str) by decide+kernel) rfl (Or.inl rfl))) (Y2 (Y1 (Z8 (i:=1) (show p8 (["kind", "ways", "many"]:List Str) by decide+kernel) rfl (Or.inl rfl))) X6)))) (λ_ _ _ _ _ _ _=>(sv 0)) (λ_ _ _ _ _ _ _=>(z0w rfl (z2a rfl (z8T rfl h64) rfl T.n_sorted PyProof.Rows.Boot.«sorted» (s1 (sv 1))) z2X (z0v (sv 2)))))))))
def U2:MS:=(W9 (J8 (.nm 3) (Y7 (Q5 (y0 0)) (.nm 0) (rt true) (mCB [] lstM) 1 []))
 (W9 (z26 (z1p (y0 3) [(Z0 W7 [(z3K (mC (.int 9)) (mCB [(mCB [(mC (.int 0)),(mCB [] x6)] x6)] lstM)),(y0 1),(y0 2)])] z8L))
 (W9 (z1A (z90 [(mCB [(y0 0)] z4Y)]) (.nm 4) (z7y (Z0 W7 [(Z0 U1 [(y8 (y0 0) (y0 4) ixD),(y0 3),(y0 2)]),(y0 1),(y0 2)]) (y0 3) (y0 4) z8M))
 (G2 (Y7 (Q5 (y8 (y8 (y0 3) (mC (.int 0)) ixD) (mC (.int 9)) ixD)) (.tp [(.nm 0),(.nm 1)]) (rt true) (mCB [(y0 0),(mCB [(y0 1)] z4Z)] x6) 2 [])))))
def Z9:FM:=z2S 5 U2
def z01(T:Wd K mg):z0L P w K mg base CX0 2 T.x_p_first_cuttings.f T.x_p_first_cuttings.d G9 (spM (G0 K) 3 Z9):=okM U2 T.x_p_first_cuttings.F g8 λcdv A outer s H E F hr=>(y4 (csQ (own:=["pieces"]) (qk:=[]) (ix:=[]) 3 g8.nd (x9 rfl (sv 0)) (λ_ _ _ _ _ _ _=>(Y1 (Z8 (i:=0) (show p8 (["pieces"]:List Str) by decide+kernel) rfl (Or.inl rfl)))) (λ_ _ _ _ _ _ _=>j9) (λ_ _ _ _ _ _ _=>(G3 rfl (sa_of rfl .nil))))
 (y4 (z2Y (z9b rfl PySem.F.slot_list_append PySem.F.type_list_append z2T (sv 3) (s1 (scl T.x_p_by_kind_ahead (z09 T) hr (s3 (zaU rfl (ziy rfl (z7I (v:= .int 9) rfl T.c_END_KIND.choose_spec ⟨_,rfl⟩)) (G3 rfl (s1 (x8 rfl (s2 (sc0 y2) (x8 rfl (sa_of rfl .nil))))))) (sv 1) (sv 2))))))
 (y4 (z0H PassesOwn.never rfl (zdQ rfl T.n_reversed rfl T.n_range (s1 (sln T.n_len (s1 (sv 0))))) (sgn 4 g8.nd) (Z3 (z6b (scl T.x_p_by_kind_ahead (z09 T) hr (s3 (scl T.x_p_ways_from (z3s T) hr (s3 (sxx (sv 0) (sv 4)) (sv 3) (sv 2))) (sv 1) (sv 2))) (sv 3) (sv 4) (λ{to ti} h1 h2=>z7J h1 h2 z2x))))
 (Z3 (Y4 (cmQ (own:=["cost", "way"]) (qk:=[]) (ix:=[]) (x9 rfl (sxx (sxc (sv 3) y2) (ziy rfl (z7I (v:= .int 9) rfl T.c_END_KIND.choose_spec ⟨_,rfl⟩)))) (λ_ _ _ _ _ _ _=>(z0G rfl rfl (Y2 (Y1 (Z8 (i:=0) (show p8 (["cost", "way"]:List Str) by decide+kernel) rfl (Or.inl rfl))) (Y2 (Y1 (Z8 (i:=1) (show p8 (["cost", "way"]:List Str) by decide+kernel) rfl (Or.inl rfl))) X6)))) (λ_ _ _ _ _ _ _=>j9) (λ_ _ _ _ _ _ _=>(x8 rfl (s2 (sv 0) (z5d rfl (zdx rfl) rfl T.n_list PyProof.Rows.Boot.«list» (s1 (sv 1))))))))))))
def z6g:MS:=(W9 (J8 (.nm 2) (mC (.int 0)))
 (W9 (sIf (J3 (y8 (y0 1) (mCB [(y0 0)] z4Y) ltD)) (J8 (.nm 2) (mCB [(y8 (y0 0) (y0 1) ixD)] zeL)) sNx)
 (W9 (J8 (.nm 3) (y8 (y8 (y8 (y8 (y8 (y0 2) (mC (.int 2147483629)) z3o) (y8 (mC (.int 104729)) (y0 1) z6c) K9) (mC (.int 17)) K9) (mC (.int 5)) zbK) (mC (.int 2147483647)) z3o))
 (W9 (z1A (X4 [(mCB [(mCB [(y0 0)] z4Y),(mC (.int 60))] zaE)]) (.nm 4) (J8 (.nm 3) (y8 (y8 (y8 (y8 (y0 3) (mC (.int 48271)) z6c) (y8 (y8 (y8 (y0 0) (y0 4) ixD) (mC (.int 2147483587)) z3o) (y8 (y0 4) (mC (.int 3)) K9) z6c) K9) (y0 4) K9) (mC (.int 2147483629)) z3o)))
 (W9 (sIf (J3 (y8 (y0 2) (y8 (mC (.int 10)) (mC (.int 18)) zbK) ltD)) (J8 (.nm 2) (mC (.int 0))) sNx)
 (G2 (mCB [(y0 2),(y0 3)] lstM)))))))
def z3a:FM:=z2S 5 z6g
def zaX(T:Wd K mg):z0L P w K mg base CX0 1 T.x_l_bag.f T.x_l_bag.d z6e (spM (G0 K) 2 z3a):=okM z6g T.x_l_bag.F z0A λcdv A outer s H E F hr=>(y4 (sst 2 z0A.nd (sc0 y2))
 (y4 (X5 (Q7 z65 (sv 1) (sln T.n_len (s1 (sv 0))) (W3 _)) (Z3 (sst 2 z0A.nd (z2a rfl zgw rfl T.n_abs PyProof.Rows.Boot.«abs» (s1 (sxx (sv 0) (sv 1)))))) J6)
 (y4 (sst 3 z0A.nd (z0T rfl (z9a rfl (G4 rfl (G4 rfl (z0T rfl (sv 2) (sc0 y2)) (z2b rfl (sc0 y2) (sv 1))) (sc0 y2)) (sc0 y2)) (sc0 y2)))
 (y4 (z0H PassesOwn.never rfl (z0x rfl T.n_range (s1 (z2a rfl (z8O rfl) rfl T.n_min PyProof.Rows.Boot.«min» (s2 (sln T.n_len (s1 (sv 0))) (sc0 y2))))) (sgn 4 z0A.nd) (Z3 (sst 3 z0A.nd (z0T rfl (G4 rfl (G4 rfl (z2b rfl (sv 3) (sc0 y2)) (z2b rfl (z0T rfl (sxx (sv 0) (sv 4)) (sc0 y2)) (G4 rfl (sv 4) (sc0 y2)))) (sv 4)) (sc0 y2)))))
 (y4 (X5 (Q7 z65 (sv 2) (z9a rfl (sc0 y2) (sc0 y2)) (W3 _)) (Z3 (sst 2 z0A.nd (sc0 y2))) J6)
 (Z3 (Y4 (G3 rfl (s2 (sv 2) (sv 3))))))))))
def z4m:MS:=(W9 (sIf (J3 (y8 (y8 (y0 0) (mC (.int 0)) ixD) (mC (.int 0)) gtD)) (W9 (J8 (.nm 2) (y8 (y8 (y0 0) (mC (.int 0)) ixD) (y0 1) z3o))
 (W9 (z7y (y8 (y8 (y0 0) (mC (.int 0)) ixD) (y0 1) z5Y) (y0 0) (mC (.int 0)) z8M)
 (G2 (y0 2)))) sNx)
 (W9 (z7y (y8 (y8 (y8 (y8 (y0 0) (mC (.int 1)) ixD) (mC (.int 48271)) z6c) (mC (.int 7919)) K9) (mC (.int 2147483647)) z3o) (y0 0) (mC (.int 1)) z8M)
 (G2 (y8 (y8 (y8 (y8 (y8 (y8 (y8 (y0 0) (mC (.int 1)) ixD) (mC (.int 3)) zbK) (mC (.int 2147483587)) z3o) (mC (.int 7)) z5Y) (mC (.int 69621)) z6c) (mC (.int 1073741789)) z3o) (y0 1) z3o))))
def y9:FM:=z2S 3 z4m
def Y5(T:Wd K mg):z0L P w K mg base CX0 1 T.x_l_take.f T.x_l_take.d z4l (spM (G0 K) 2 y9):=okM z4m T.x_l_take.F z5k λcdv A outer s H E F hr=>(y4 (X5 (Q7 zgs (sxc (sv 0) y2) (sc0 y2) (W3 _)) (y4 (sst 2 z5k.nd (z0T rfl (sxc (sv 0) y2) (sv 1)))
 (y4 (z6b (z99 rfl (sxc (sv 0) y2) (sv 1)) (sv 0) (sc0 y2) (λ{to ti} h1 h2=>z7J h1 h2 z2x))
 (Z3 (Y4 (sv 2))))) J6)
 (y4 (z6b (z0T rfl (G4 rfl (z2b rfl (sxc (sv 0) y2) (sc0 y2)) (sc0 y2)) (sc0 y2)) (sv 0) (sc0 y2) (λ{to ti} h1 h2=>z7J h1 h2 z2x))
 (Z3 (Y4 (z0T rfl (z0T rfl (z2b rfl (z99 rfl (z0T rfl (z9a rfl (sxc (sv 0) y2) (sc0 y2)) (sc0 y2)) (sc0 y2)) (sc0 y2)) (sc0 y2)) (sv 1))))))
def z3b:MS:=(W9 (J8 (.nm 1) (y8 (mCB [(mC (.int 1)),(mC (.int 2)),(mC (.int 4)),(mC (.int 1000))] lstM) (Z0 y9 [(y0 0),(mC (.int 4))]) ixD))
 (W9 (sIf (J3 (y8 (Z0 y9 [(y0 0),(mC (.int 2))]) (mC (.int 0)) eqD)) (W9 (J8 (.nm 2) (Y7 (X4 [(mC (.int 10))]) (.nm 0) (rt true) (Z0 y9 [(y0 1),(y0 2)]) 1 [0,1]))
 (W9 (J8 (.nm 3) (Y7 (X4 [(mC (.int 10))]) (.nm 0) (rt true) (Z0 y9 [(y0 1),(y0 2)]) 1 [0,1]))
 (G2 (mCB [(Y7 (Q5 (y0 2)) (.nm 0) (rt true) (mCB [(Y7 (Q5 (y0 2)) (.nm 0) (rt true) (y8 (y8 (y0 2) (y0 0) K9) (y0 1) z3o) 1 [1,0])] z6z) 1 [1,3])] z6z)))) sNx)
 (G2 (mCB [(Y7 (X4 [(mC (.int 10))]) (.nm 0) (rt true) (mCB [(Y7 (X4 [(mC (.int 10))]) (.nm 0) (rt true) (Z0 y9 [(y0 1),(y0 2)]) 1 [1,2])] z6z) 1 [0,1])] z6z))))
def z19:FM:=z2S 4 z3b
def z7q(T:Wd K mg):z0L P w K mg base CX0 2 T.x_l_rates.f T.x_l_rates.d z36 (spM (G0 K) 1 z19):=okM z3b T.x_l_rates.F z1i λcdv A outer s H E F hr=>by
 have h64:=hr.units
 exact(y4 (z1M (λ{te} h=>z1C (i:=1) z1i.nd rfl (Or.inr rfl) h) (sxx (G3 rfl (s4 (sc0 y2) (sc0 y2) (sc0 y2) (sc0 y2))) (scl T.x_l_take (Y5 T) hr (s2 (sv 0) (sc0 y2)))))
 (y4 (X5 (Q7 (z0g rfl h64) (scl T.x_l_take (Y5 T) hr (s2 (sv 0) (sc0 y2))) (sc0 y2) (W3 _)) (y4 (csQ (own:=["_law_kind"]) (qk:=["_law_bag_here", "_law_most"]) (ix:=[0,1]) 2 z1i.nd (z0x rfl T.n_range (s1 (sc0 y2))) (λ_ _ _ _ _ _ _=>(Y1 (Z8 (i:=0) (show p8 (["_law_kind", "_law_bag_here", "_law_most"]:List Str) by decide+kernel) rfl (Or.inl rfl)))) (λ_ _ _ _ _ _ _=>j9) (λ_ _ _ _ _ _ _=>(scl T.x_l_take (Y5 T) hr (s2 (sv 1) (sv 2)))))
 (y4 (z1M (λ{te} h=>z1C (i:=3) z1i.nd rfl (Or.inr rfl) h) (cmQ (own:=["_law_kind"]) (qk:=["_law_bag_here", "_law_most"]) (ix:=[0,1]) (z0x rfl T.n_range (s1 (sc0 y2))) (λ_ _ _ _ _ _ _=>(Y1 (Z8 (i:=0) (show p8 (["_law_kind", "_law_bag_here", "_law_most"]:List Str) by decide+kernel) rfl (Or.inl rfl)))) (λ_ _ _ _ _ _ _=>j9) (λ_ _ _ _ _ _ _=>(scl T.x_l_take (Y5 T) hr (s2 (sv 1) (sv 2))))))
 (Z3 (Y4 (z5d rfl (z1J rfl) rfl T.n_tuple PyProof.Rows.Boot.«tuple» (s1 (cmQ (own:=["_law_a"]) (qk:=["_law_most", "_law_behind"]) (ix:=[1,3]) (x9 rfl (sv 2)) (λ_ _ _ _ _ _ _=>(Y1 (Z8 (i:=0) (show p8 (["_law_a", "_law_most", "_law_behind"]:List Str) by decide+kernel) rfl (Or.inr rfl)))) (λ_ _ _ _ _ _ _=>j9) (λ_ _ _ _ _ _ _=>(z5d rfl (z1J rfl) rfl T.n_tuple PyProof.Rows.Boot.«tuple» (s1 (cmQ (own:=["_law_b"]) (qk:=["_law_most", "_law_a"]) (ix:=[1,0]) (x9 rfl (sv 2)) (λ_ _ _ _ _ _ _=>(Y1 (Z8 (i:=0) (show p8 (["_law_b", "_law_most", "_law_a"]:List Str) by decide+kernel) rfl (Or.inl rfl)))) (λ_ _ _ _ _ _ _=>j9) (λ_ _ _ _ _ _ _=>(z0T rfl (G4 rfl (sv 2) (sv 0)) (sv 1)))))))))))))) J6)
 (Z3 (Y4 (z5d rfl (z1J rfl) rfl T.n_tuple PyProof.Rows.Boot.«tuple» (s1 (cmQ (own:=["_law_a"]) (qk:=["_law_bag_here", "_law_most"]) (ix:=[0,1]) (z0x rfl T.n_range (s1 (sc0 y2))) (λ_ _ _ _ _ _ _=>(Y1 (Z8 (i:=0) (show p8 (["_law_a", "_law_bag_here", "_law_most"]:List Str) by decide+kernel) rfl (Or.inl rfl)))) (λ_ _ _ _ _ _ _=>j9) (λ_ _ _ _ _ _ _=>(z5d rfl (z1J rfl) rfl T.n_tuple PyProof.Rows.Boot.«tuple» (s1 (cmQ (own:=["_law_b"]) (qk:=["_law_bag_here", "_law_most"]) (ix:=[1,2]) (z0x rfl T.n_range (s1 (sc0 y2))) (λ_ _ _ _ _ _ _=>(Y1 (Z8 (i:=0) (show p8 (["_law_b", "_law_bag_here", "_law_most"]:List Str) by decide+kernel) rfl (Or.inl rfl)))) (λ_ _ _ _ _ _ _=>j9) (λ_ _ _ _ _ _ _=>(scl T.x_l_take (Y5 T) hr (s2 (sv 1) (sv 2)))))))))))))))
def z1a:MS:=(W9 (J8 (.nm 2) (y8 (mCB [(mC (.int 3)),(mC (.int 100)),(mC (.int 100000))] lstM) (Z0 y9 [(y0 0),(mC (.int 3))]) ixD))
 (W9 (J8 (.nm 3) (mCB [] lstM))
 (W9 (z1A (X4 [(y0 1)]) (.nm 4) (W9 (J8 (.nm 5) zaN)
 (W9 (z1A (z50 [(y8 (y0 4) (mC (.int 1)) K9),(y8 (y0 1) (mC (.int 1)) K9)]) (.nm 6) (z7y (Z0 y9 [(y0 0),(y0 2)]) (y0 5) (mCB [(y0 6),(mCB [(Y7 (z50 [(y0 4),(y0 6)]) (.nm 0) (rt true) (y8 (mC (.int 1000)) (y8 (y8 (y0 0) (mC (.int 7)) z6c) (mC (.int 40)) z3o) K9) 1 [])] z6z),(mC (.int 8))] x6) z4f))
 (W9 (z1A (X4 [(Z0 y9 [(y0 0),(mC (.int 4))])]) (.nm 7) (W9 (J8 (.nm 6) (y8 (y8 (y0 4) (mC (.int 1)) K9) (Z0 y9 [(y0 0),(mCB [(mC (.int 4)),(y8 (y0 1) (y0 4) zdi)] zaE)]) K9))
 (z7y (Z0 y9 [(y0 0),(y0 2)]) (y0 5) (mCB [(y0 6),(mCB [(Z0 y9 [(y0 0),(mC (.int 4))])] x6),(Z0 y9 [(y0 0),(mC (.int 8))])] x6) z4f)))
 (z26 (z1p (y0 3) [(mCB [(bd (y0 5) zdF)] z7g)] z8L))))))
 (G2 (y0 3)))))
def X2:FM:=z2S 8 z1a
def z4n(T:Wd K mg):z0L P w K mg base CX0 2 T.x_l_full_net.f T.x_l_full_net.d z15 (spM (G0 K) 2 X2):=okM z1a T.x_l_full_net.F j5 λcdv A outer s H E F hr=>by
 have h64:=hr.units
 exact(y4 (sst 2 j5.nd (sxx (G3 rfl (s3 (sc0 y2) (sc0 y2) (sc0 y2))) (scl T.x_l_take (Y5 T) hr (s2 (sv 0) (sc0 y2)))))
 (y4 (sst 3 j5.nd (G3 rfl (sa_of rfl .nil)))
 (y4 (z0H PassesOwn.never rfl (z0x rfl T.n_range (s1 (sv 1))) (sgn 4 j5.nd) (y4 (z1M (λ{te} h=>z1C (i:=5) j5.nd rfl (Or.inr rfl) h) (zdN rfl))
 (y4 (z0H PassesOwn.never rfl (z98 rfl T.n_range (s2 (G4 rfl (sv 4) (sc0 y2)) (G4 rfl (sv 1) (sc0 y2)))) (sgn 6 j5.nd) (Z3 (z9c h64 (scl T.x_l_take (Y5 T) hr (s2 (sv 0) (sv 2))) (sv 5) (x8 rfl (s3 (sv 6) (z5d rfl (z1J rfl) rfl T.n_tuple PyProof.Rows.Boot.«tuple» (s1 (cmQ (own:=["_law_place"]) (qk:=[]) (ix:=[]) (z98 rfl T.n_range (s2 (sv 4) (sv 6))) (λ_ _ _ _ _ _ _=>(Y1 (Z8 (i:=0) (show p8 (["_law_place"]:List Str) by decide+kernel) rfl (Or.inl rfl)))) (λ_ _ _ _ _ _ _=>j9) (λ_ _ _ _ _ _ _=>(G4 rfl (sc0 y2) (z0T rfl (z2b rfl (sv 0) (sc0 y2)) (sc0 y2))))))) (sc0 y2))))))
 (y4 (z0H PassesOwn.never rfl (z0x rfl T.n_range (s1 (scl T.x_l_take (Y5 T) hr (s2 (sv 0) (sc0 y2))))) (sgn 7 j5.nd) (y4 (sst 6 j5.nd (G4 rfl (G4 rfl (sv 4) (sc0 y2)) (scl T.x_l_take (Y5 T) hr (s2 (sv 0) (z2a rfl (z8O rfl) rfl T.n_min PyProof.Rows.Boot.«min» (s2 (sc0 y2) (zc1 rfl (sv 1) (sv 4))))))))
 (Z3 (z9c h64 (scl T.x_l_take (Y5 T) hr (s2 (sv 0) (sv 2))) (sv 5) (x8 rfl (s3 (sv 6) (x8 rfl (s1 (scl T.x_l_take (Y5 T) hr (s2 (sv 0) (sc0 y2))))) (scl T.x_l_take (Y5 T) hr (s2 (sv 0) (sc0 y2)))))))))
 (Z3 (z2Y (z9b rfl PySem.F.slot_list_append PySem.F.type_list_append z2T (sv 3) (s1 (z2a rfl (z8T rfl h64) rfl T.n_sorted PyProof.Rows.Boot.«sorted» (s1 (crQ (i:=5) (own:=["_law_piece"]) (qk:=["_law_found"]) (pv 5) rfl (λ_ _ _ _ _ _=>Z8 (i:=0) (show p8 (["_law_piece", "_law_found"]:List Str) by decide+kernel) rfl (Or.inl rfl)) (λ_ _ _ _ _ _=>zf9 z8g (pv 0) (zbq (z7R (zcS (Nat.lt_of_le_of_lt (Nat.add_le_add_left (by decide:2<=64) _) h64) (pv 1) (pv 0) (λ_ _=>rfl)) zbp))))))))))))))
 (Z3 (Y4 (sv 3))))))
def z1w:MS:=(W9 (J8 (.nm 2) (mCB [(y0 1)] z4Y))
 (W9 (J8 (.nm 3) (Z0 y9 [(y0 0),(mC (.int 4))]))
 (W9 (J8 (.nm 4) (Z0 y9 [(y0 0),(y0 2)]))
 (W9 (J8 (.nm 5) (y8 (y8 (y0 1) (y0 4) ixD) (Z0 y9 [(y0 0),(mCB [(y8 (y0 1) (y0 4) ixD)] z4Y)]) ixD))
 (W9 (sIf (zaA (J3 (y8 (y0 3) (mC (.int 2)) ltD)) (J3 (y8 (y0 2) (mC (.int 1)) gtD))) (G2 (mCB [(y8 (mCB [(mC (.str ("border" :Str))),(mC (.str ("joined" :Str)))] lstM) (y0 3) ixD),(y8 (mC (.int 1)) (Z0 y9 [(y0 0),(y8 (y0 2) (mC (.int 1)) zdi)]) K9)] x6)) sNx)
 (W9 (sIf (J3 (y8 (y0 3) (mC (.int 2)) eqD)) (G2 (mCB [(mC (.str ("held" :Str))),(y0 4),(y8 (y0 5) (mC (.int 0)) ixD),(y8 (y0 5) (mC (.int 1)) ixD)] x6)) sNx)
 (G2 (mCB [(mC (.str ("span" :Str))),(y0 4),(y8 (y0 5) (mC (.int 0)) ixD)] x6))))))))
def V8:FM:=z2S 6 z1w
def z5l(T:Wd K mg):z0L P w K mg base CX0 2 T.x_l_wish_of.f T.x_l_wish_of.d z1t (spM (G0 K) 2 V8):=okM z1w T.x_l_wish_of.F X0 λcdv A outer s H E F hr=>by
 have h64:=hr.units
 exact(y4 (sst 2 X0.nd (sln T.n_len (s1 (sv 1))))
 (y4 (sst 3 X0.nd (scl T.x_l_take (Y5 T) hr (s2 (sv 0) (sc0 y2))))
 (y4 (sst 4 X0.nd (scl T.x_l_take (Y5 T) hr (s2 (sv 0) (sv 2))))
 (y4 (sst 5 X0.nd (sxx (sxx (sv 1) (sv 4)) (scl T.x_l_take (Y5 T) hr (s2 (sv 0) (sln T.n_len (s1 (sxx (sv 1) (sv 4))))))))
 (y4 (X5 (SW.sb (z6O (Q7 z65 (sv 3) (sc0 y2) (W3 _)) (z95 (Q7 zgs (sv 2) (sc0 y2) (W3 _))))) (Z3 (Y4 (x8 rfl (s2 (sxx (G3 rfl (s2 (sc0 k8) (sc0 k8))) (sv 3)) (G4 rfl (sc0 y2) (scl T.x_l_take (Y5 T) hr (s2 (sv 0) (zc1 rfl (sv 2) (sc0 y2))))))))) J6)
 (y4 (X5 (Q7 (z0g rfl h64) (sv 3) (sc0 y2) (W3 _)) (Z3 (Y4 (x8 rfl (s4 (sc0 k8) (sv 4) (sxc (sv 5) y2) (sxc (sv 5) y2))))) J6)
 (Z3 (Y4 (x8 rfl (s3 (sc0 k8) (sv 4) (sxc (sv 5) y2)))))))))))
def z3c:MS:=(W9 (J8 (.nm 2) (y8 (mCB [(mC (.int 0))] lstM) (Y7 (Q5 (y0 0)) (.nm 0) (rt true) (y8 (y0 0) (mC (.int 0)) ixD) 1 []) K9))
 (W9 (sIf (J3 (y8 (y8 (y0 1) (mC (.int 0)) ixD) (mC (.str ("border" :Str))) eqD)) (G2 (y8 (y8 (y0 1) (mC (.int 1)) ixD) (y0 2) inD)) sNx)
 (W9 (sIf (J3 (y8 (y8 (y0 1) (mC (.int 0)) ixD) (mC (.str ("joined" :Str))) eqD)) (G2 (y8 (y8 (y0 1) (mC (.int 1)) ixD) (y0 2) zdj)) sNx)
 (W9 (J8 (.nm 3) (Y7 (zgF [(y0 2),(y0 0)]) (.tp [(.nm 0),(.nm 1)]) (rt true) (mCB [(y0 0),(y8 (y0 1) (mC (.int 0)) ixD),(y8 (y0 1) (mC (.int 1)) ixD)] x6) 2 []))
 (W9 (sIf (J3 (y8 (y8 (y0 1) (mC (.int 0)) ixD) (mC (.str ("span" :Str))) eqD)) (G2 (mCB [(Y7 (Q5 (y0 3)) (.tp [(.nm 0),(.nm 1),(.nm 2)]) (rt true) (y8 (mCB [(y0 0),(y0 1)] x6) (mCB [(y8 (y0 3) (mC (.int 1)) ixD),(y8 (y0 3) (mC (.int 2)) ixD)] x6) eqD) 3 [1])] zdq)) sNx)
 (G2 (y8 (mCB [(y8 (y0 1) (mC (.int 1)) ixD),(y8 (y0 1) (mC (.int 2)) ixD),(y8 (y0 1) (mC (.int 3)) ixD)] x6) (y0 3) inD)))))))
def z1b:FM:=z2S 4 z3c
def z7r(T:Wd K mg):z0L P w K mg base CX0 1 T.x_l_keeps.f T.x_l_keeps.d z37 (spM (G0 K) 2 z1b):=okM z3c T.x_l_keeps.F z2g λcdv A outer s H E F hr=>by
 have h64:=hr.units
 exact(y4 (sst 2 z2g.nd (G4 rfl (G3 rfl (s1 (sc0 y2))) (cmQ (own:=["_law_piece"]) (qk:=[]) (ix:=[]) (x9 rfl (sv 0)) (λ_ _ _ _ _ _ _=>(Y1 (Z8 (i:=0) (show p8 (["_law_piece"]:List Str) by decide+kernel) rfl (Or.inl rfl)))) (λ_ _ _ _ _ _ _=>j9) (λ_ _ _ _ _ _ _=>(sxc (sv 0) y2)))))
 (y4 (X5 (Q7 (z0g rfl h64) (sxc (sv 1) y2) (sc0 k8) (W3 _)) (Z3 (Y4 (z0U (zdv rfl h64) (sxc (sv 1) y2) (sv 2) (by with_unfolding_all rfl)))) J6)
 (y4 (X5 (Q7 (z0g rfl h64) (sxc (sv 1) y2) (sc0 k8) (W3 _)) (Z3 (Y4 (z0U (zgt rfl h64) (sxc (sv 1) y2) (sv 2) (by with_unfolding_all rfl)))) J6)
 (y4 (csQ (own:=["_law_begin", "_law_piece"]) (qk:=[]) (ix:=[]) 3 z2g.nd (zgP rfl rfl T.n_zip (s2 (sv 2) (sv 0))) (λ_ _ _ _ _ _ _=>(z0G rfl rfl (Y2 (Y1 (Z8 (i:=0) (show p8 (["_law_begin", "_law_piece"]:List Str) by decide+kernel) rfl (Or.inl rfl))) (Y2 (Y1 (Z8 (i:=1) (show p8 (["_law_begin", "_law_piece"]:List Str) by decide+kernel) rfl (Or.inl rfl))) X6)))) (λ_ _ _ _ _ _ _=>j9) (λ_ _ _ _ _ _ _=>(x8 rfl (s3 (sv 0) (sxc (sv 1) y2) (sxc (sv 1) y2)))))
 (y4 (X5 (Q7 (z0g rfl h64) (sxc (sv 1) y2) (sc0 k8) (W3 _)) (Z3 (Y4 (z2a rfl (zbS rfl hr.hd) rfl T.n_any PyProof.Rows.Boot.«any» (s1 (cmQ (own:=["_law_begin", "_law_end", "_law_signs"]) (qk:=["_law_wish"]) (ix:=[1]) (x9 rfl (sv 3)) (λ_ _ _ _ _ _ _=>(z0G rfl rfl (Y2 (Y1 (Z8 (i:=0) (show p8 (["_law_begin", "_law_end", "_law_signs", "_law_wish"]:List Str) by decide+kernel) rfl (Or.inl rfl))) (Y2 (Y1 (Z8 (i:=1) (show p8 (["_law_begin", "_law_end", "_law_signs", "_law_wish"]:List Str) by decide+kernel) rfl (Or.inl rfl))) (Y2 (Y1 (Z8 (i:=2) (show p8 (["_law_begin", "_law_end", "_law_signs", "_law_wish"]:List Str) by decide+kernel) rfl (Or.inl rfl))) X6))))) (λ_ _ _ _ _ _ _=>j9) (λ_ _ _ _ _ _ _=>(z0U (z0g rfl h64) (x8 rfl (s2 (sv 0) (sv 1))) (x8 rfl (s2 (sxc (sv 3) y2) (sxc (sv 3) y2))) (W3 _)))))))) J6)
 (Z3 (Y4 (z0U (zdv rfl h64) (x8 rfl (s3 (sxc (sv 1) y2) (sxc (sv 1) y2) (sxc (sv 1) y2))) (sv 3) (by with_unfolding_all rfl)))))))))
def z2h:MS:=(W9 (J8 (.nm 3) (Z0 Q8 [(y0 0),(y0 2)]))
 (W9 (J8 (.nm 4) (Z0 Z9 [(y0 3),(y0 1),(mC (.int 1))]))
 (W9 (sIf (mOr (J3 (y8 (Z0 j8 [(y0 3)]) (mC (.int 0)) eqD)) (J3 (y8 (mCB [(y0 4)] z4Y) (mC (.int 1)) neD))) (G2 (mC (.bool false))) sNx)
 (G2 (mCB [(Y7 (Q5 (y0 2)) (.nm 0) (rt true) (Z0 z1b [(y8 (y8 (y0 1) (mC (.int 0)) ixD) (mC (.int 1)) ixD),(y0 0)]) 1 [4])] za0)))))
def V9:FM:=z2S 5 z2h
def z3d(T:Wd K mg):z0L P w K mg base CX0 3 T.x_l_stands.f T.x_l_stands.d z2e (spM (G0 K) 3 V9):=okM z2h T.x_l_stands.F z1u λcdv A outer s H E F hr=>by
 have h64:=hr.units
 exact(y4 (sst 3 z1u.nd (scl T.x_p_thinned (z08 T) hr (s2 (sv 0) (sv 2))))
 (y4 (z1M (λ{te} h=>z1C (i:=4) z1u.nd rfl (Or.inr rfl) h) (scl T.x_p_first_cuttings (z01 T) hr (s3 (sv 3) (sv 1) (sc0 y2))))
 (y4 (X5 (SW.sb (z7l (Q7 (z0g rfl h64) (scl T.x_p_how_many (z0B T) hr (s1 (sv 3))) (sc0 y2) (W3 _)) (z3L (Q7 (z4e rfl h64) (sln T.n_len (s1 (sv 4))) (sc0 y2) (W3 _))))) (Z3 (Y4 (sc0 z3U))) J6)
 (Z3 (Y4 (z2a rfl (zbR rfl hr.hd) rfl T.n_all PyProof.Rows.Boot.«all» (s1 (cmQ (own:=["_law_wish"]) (qk:=["_law_told"]) (ix:=[4]) (x9 rfl (sv 2)) (λ_ _ _ _ _ _ _=>(Y1 (Z8 (i:=0) (show p8 (["_law_wish", "_law_told"]:List Str) by decide+kernel) rfl (Or.inl rfl)))) (λ_ _ _ _ _ _ _=>j9) (λ_ _ _ _ _ _ _=>(scl T.x_l_keeps (z7r T) hr (s2 (sxc (sxc (sv 1) y2) y2) (sv 0))))))))))))
def zdX:MS:=(W9 (z1A (X4 [(mCB [(mC (.int 2)),(mCB [(mC (.int 3)),(mCB [(y0 0)] z4Y)] zaE)] zeM)]) (.nm 1) (W9 (J8 (.nm 2) (Z0 z3a [(y0 0),(y0 1)]))
 (W9 (J8 (.nm 3) (y8 (mCB [(Z0 y9 [(y0 2),(mC (.int 5))]),(mC (.int 12))] lstM) (mCB [(y8 (Z0 y9 [(y0 2),(mC (.int 8))]) (mC (.int 5)) eqD)] zbO) ixD))
 (W9 (J8 (.nm 4) (Z0 z19 [(y0 2)]))
 (W9 (J8 (.nm 5) (Z0 X2 [(y0 2),(y8 (mCB [(y8 (mC (.int 1)) (Z0 y9 [(y0 2),(mC (.int 8))]) K9),(mC (.int 24))] lstM) (mCB [(y8 (Z0 y9 [(y0 2),(mC (.int 8))]) (mC (.int 5)) eqD)] zbO) ixD)]))
 (W9 (J8 (.nm 6) (Y7 (X4 [(y0 3)]) (.nm 0) (rt true) (Z0 V8 [(y0 1),(y0 2)]) 1 [2,5]))
 (W9 (J8 (.nm 7) (Z0 J7 [(y0 6)]))
 (sIf (J3 (y8 (y0 7) (mC .non) isN)) (sIf (zbM (J3 (Z0 V9 [(y0 5),(y0 4),(y0 6)]))) (G2 (mC (.bool false))) sNx) (W9 (sIf (mOr (J3 (y8 (Z0 j8 [(Z0 Q8 [(y0 5),(y0 6)])]) (mC (.int 0)) neD)) (J3 (y8 (Z0 j8 [(Z0 Q8 [(y0 5),(Y7 (Q5 (y0 7)) (.nm 0) (rt true) (y8 (y0 1) (y0 0) ixD) 1 [6])])]) (mC (.int 0)) neD))) (G2 (mC (.bool false))) sNx)
 (W9 (sIf (mOr (J3 (y8 (Z0 Z9 [(Z0 Q8 [(y0 5),(y0 6)]),(y0 4),(mC (.int 20))]) (mCB [] lstM) neD)) (zbM (J3 (z2W (mC (.int 0)) (y8 (y0 7) (mC (.int 0)) ixD) (y8 (y0 7) (mC (.int 1)) ixD) (y0 3) leD ltD ltD)))) (G2 (mC (.bool false))) sNx)
 (sIf (mOr (J3 (y8 (Z0 J7 [(mSl (y0 6) none (some (y8 (y0 7) (mC (.int 1)) ixD)))]) (mC .non) zeI)) (zbM (J3 (Z0 V9 [(y0 5),(y0 4),(mSl (y0 6) none (some (y8 (y0 7) (mC (.int 1)) ixD)))])))) (G2 (mC (.bool false))) sNx)))))))))))
 (G2 (mC (.bool true))))
def f_law:FM:=z2S 8 zdX
def zgQ(T:Wd K mg):z0L P w K mg base CX0 5 T.x_law.f T.x_law.d zdW (spM (G0 K) 1 f_law):=okM zdX T.x_law.F z2r λcdv A outer s H E F hr=>by
 have h64:=hr.units
 exact(y4 (z0H PassesOwn.never rfl (z0x rfl T.n_range (s1 (z2a rfl (zgx rfl) rfl T.n_max PyProof.Rows.Boot.«max» (s2 (sc0 y2) (z2a rfl (z8O rfl) rfl T.n_min PyProof.Rows.Boot.«min» (s2 (sc0 y2) (sln T.n_len (s1 (sv 0))))))))) (sgn 1 z2r.nd) (y4 (z1M (λ{te} h=>z1C (i:=2) z2r.nd rfl (Or.inr rfl) h) (scl T.x_l_bag (zaX T) hr (s2 (sv 0) (sv 1))))
 (y4 (sst 3 z2r.nd (sxx (G3 rfl (s2 (scl T.x_l_take (Y5 T) hr (s2 (sv 2) (sc0 y2))) (sc0 y2))) (z5d rfl zbT rfl T.n_int PyProof.Rows.Boot.«int» (s1 (z0U (z0g rfl h64) (scl T.x_l_take (Y5 T) hr (s2 (sv 2) (sc0 y2))) (sc0 y2) (W3 _))))))
 (y4 (sst 4 z2r.nd (scl T.x_l_rates (z7q T) hr (s1 (sv 2))))
 (y4 (z1M (λ{te} h=>z1C (i:=5) z2r.nd rfl (Or.inr rfl) h) (scl T.x_l_full_net (z4n T) hr (s2 (sv 2) (sxx (G3 rfl (s2 (G4 rfl (sc0 y2) (scl T.x_l_take (Y5 T) hr (s2 (sv 2) (sc0 y2)))) (sc0 y2))) (z5d rfl zbT rfl T.n_int PyProof.Rows.Boot.«int» (s1 (z0U (z0g rfl h64) (scl T.x_l_take (Y5 T) hr (s2 (sv 2) (sc0 y2))) (sc0 y2) (W3 _))))))))
 (y4 (z1M (λ{te} h=>z1C (i:=6) z2r.nd rfl (Or.inr rfl) h) (cmQ (own:=["_law_turn"]) (qk:=["_law_bag_here", "_law_net"]) (ix:=[2,5]) (z0x rfl T.n_range (s1 (sv 3))) (λ_ _ _ _ _ _ _=>(Y1 (Z8 (i:=0) (show p8 (["_law_turn", "_law_bag_here", "_law_net"]:List Str) by decide+kernel) rfl (Or.inl rfl)))) (λ_ _ _ _ _ _ _=>j9) (λ_ _ _ _ _ _ _=>(scl T.x_l_wish_of (z5l T) hr (s2 (sv 1) (sv 2))))))
 (y4 (sst 7 z2r.nd (scl T.x_p_fighting (z1T T) hr (s1 (sv 6))))
 (Z3 (X5 (Q7 zgu (sv 7) (sc0 z7G) (W3 _)) (Z3 (X5 (z96 (z6P (scl T.x_l_stands (z3d T) hr (s3 (sv 5) (sv 4) (sv 6))))) (Z3 (Y4 (sc0 z3U))) J6)) (y4 (X5 (SW.sb (z7l (Q7 (z4e rfl h64) (scl T.x_p_how_many (z0B T) hr (s1 (scl T.x_p_thinned (z08 T) hr (s2 (sv 5) (sv 6))))) (sc0 y2) (W3 _)) (z3L (Q7 (z4e rfl h64) (scl T.x_p_how_many (z0B T) hr (s1 (scl T.x_p_thinned (z08 T) hr (s2 (sv 5) (cmQ (own:=["_law_place"]) (qk:=["_law_wishes"]) (ix:=[6]) (x9 rfl (sv 7)) (λ_ _ _ _ _ _ _=>(Y1 (Z8 (i:=0) (show p8 (["_law_place", "_law_wishes"]:List Str) by decide+kernel) rfl (Or.inl rfl)))) (λ_ _ _ _ _ _ _=>j9) (λ_ _ _ _ _ _ _=>(sxx (sv 1) (sv 0)))))))) (sc0 y2) (W3 _))))) (Z3 (Y4 (sc0 z3U))) J6)
 (y4 (X5 (SW.sb (z7l (Q7 (z4e rfl h64) (scl T.x_p_first_cuttings (z01 T) hr (s3 (scl T.x_p_thinned (z08 T) hr (s2 (sv 5) (sv 6))) (sv 4) (sc0 y2))) (G3 rfl (sa_of rfl .nil)) (W3 _)) (z3L (z96 (zdP zdu z65 z65 (sc0 y2) (sxc (sv 7) y2) (sxc (sv 7) y2) (sv 3)))))) (Z3 (Y4 (sc0 z3U))) J6)
 (Z3 (X5 (SW.sb (z7l (Q7 zdw (scl T.x_p_fighting (z1T T) hr (s1 (z0w rfl (sv 6) z2X (z0v (sxc (sv 7) y2))))) (sc0 z7G) (W3 _)) (z3L (z96 (z6P (scl T.x_l_stands (z3d T) hr (s3 (sv 5) (sv 4) (z0w rfl (sv 6) z2X (z0v (sxc (sv 7) y2)))))))))) (Z3 (Y4 (sc0 z3U))) J6)))))))))))))
 (Z3 (Y4 (sc0 z3U))))
end
end My
namespace Mi
open PySem L2
def z0D{α:Type}(xs ys:List α)(k:Nat)(h:xs.length=k):(xs++ys).drop k=ys:=by subst h;simp
def z2A{α:Type}(xs ys:List α)(k:Nat)(h:xs.length=k):(xs++ys).take k=xs:=by subst h;simp
theorem z3e: ∀ds:List D,Y6 (ds.map some)=some ds
 |[]=>rfl
 |d::ds=>by simp[Y6,z3e ds]
def z1U(ds:List D)(g:D->Bool):z07 (ds.map λd=> .bool (g d))=some (ds.map g):=by
 induction ds with
 |nil=>rfl
 |cons d ds ih=>simp[z07,ih]
def z7s{t:D}{ts:List D}{n':Nat}{s:Stt}:z1I (.ok t ts n') ts s= .ok t {s with n:=n'}:=by
 delta z1I;simp
end Mi
set_option maxHeartbeats 40000
namespace Mi
open PySem L2
class Kq{α:Type}(f:α):Type where
instance kq{α:Type}(f:α):Kq f:=⟨⟩
def Res.bnd{α β:Type}(f:α->Stt->Res β)[Kq f](r:Res α):Res β:=match r with
 | .ok a s=>f a s
 | .ex d s=> .ex d s
 | .no=> .no
def z0I{α β:Type}{a:α}{s:Stt}{f:α->Stt->Res β}:((Res.ok a s).bnd f:Res β)=f a s:=(rfl)
def Res.lf{α:Type}(f:α->MS)[Kq f](r:Res α):RS:=match r with
 | .ok a s=>f a s
 | .ex d s=> .ex d s
 | .no=> .no
def z2i{α:Type}{a:α}{s:Stt}{f:α->MS}:((Res.ok a s).lf f:RS)=f a s:=(rfl)
def RS.sq(m:MS)[Kq m](r:RS):RS:=match r with
 | .nx s=>m s
 |r=>r
def zdY{s:Stt}{m:MS}:((RS.nx s).sq m:RS)=m s:=(rfl)
def zjy{d:D}{s:Stt}{m:MS}:((RS.rt d s).sq m:RS)= .rt d s:=(rfl)
def RS.fin(r:RS):RF:=match r with
 | .nx s'=>match Y6 s'.tm with|some ts'=> .ok .non ts' s'.n|none=> .no
 | .rt t s'=>match Y6 s'.tm with|some ts'=> .ok t ts' s'.n|none=> .no
 | .ex d s'=>match Y6 s'.tm with|some ts'=> .ex d ts' s'.n|none=> .no
 |_=> .no
def zkI(o:Option (List D))(t:D)(n:Nat):RF:=match o with|some ts=> .ok t ts n|none=> .no
def z9g{ts:List D}{t:D}{n:Nat}:zkI (some ts) t n= .ok t ts n:=(rfl)
def zdZ{t:D}{σ tm:List (Option D)}{n:Nat}:(RS.rt t ⟨σ,tm,n⟩).fin=zkI (Y6 tm) t n:=(rfl)
def zjz{nl:Nat}{mb:MS}{ts:List D}{n:Nat}:z2S nl mb ts n=(mb ⟨ts.map some++m7 (nl -ts.length) none,ts.map some,n⟩).fin:=(rfl)
section
variable{α β:Type}{m ma mb mc:M D}{s:Stt}{ms:List (M D)}{σ tm:List (Option D)}{n:Nat}
def zgR{m:M α}{f:α->M β}:bd m f s=(m s).bnd f:=(rfl)
def zle{a:α}:rt a s= .ok a s:=(rfl)
def zjA{t:D}:psh t s= .ok () (s.psh t):=(rfl)
def z5m{t:D}:Stt.psh ⟨σ,tm,n⟩ t=⟨σ,some t::tm,n⟩:=(rfl)
def zjB:Stt.nxt ⟨σ,tm,n⟩=⟨σ,tm,n+1⟩:=(rfl)
def ze0{t:D}{r:List (Option D)}:pop ⟨σ,some t::r,n⟩= .ok t ⟨σ,r,n⟩:=(rfl)
def vOf(o:Option (Option D))(s:Stt):Res D:=match o with
 |some (some t)=> .ok t s
 |_=> .no
def z4o{t:D}:vOf (some (some t)) s= .ok t s:=(rfl)
def z5n{i:Nat}:y0 i ⟨σ,tm,n⟩=vOf (σ[i]?) ⟨σ,tm,n⟩:=by
 delta y0 vOf
 cases σ[i]? with
 |none=>rfl
 |some o=>cases o<;>rfl
def x_C{d:D}:mC d s= .ok d s:=(rfl)
def z9h{g:D->D->M D}:y8 ma mb g s=(ma s).bnd λx s1=>(mb (s1.psh x)).bnd λy s2=>(pop s2).bnd λx' s3=>g x' y s3:=(rfl)
def zgS:J3 m s=(m s).bnd zeK:=(rfl)
def zgT{b:Bool}:zeK (.bool b) s= .ok b s:=(rfl)
def zjC{m m':M Bool}:zaA m m' s=(m s).bnd λb=>z3D b m' (rt false):=(rfl)
def zlf{m m':M Bool}:mOr m m' s=(m s).bnd λb=>z3D b (rt true) m':=(rfl)
def zjD{m:M Bool}:zbM m s=(m s).bnd λb s1=> .ok (!b) s1:=(rfl)
def zgU{m m':M D}:zaB m m' s=(m s).bnd λd s1=>(zeK d s1).bnd λb=>z3D b m' (rt (.bool false)):=by
 delta zaB J3 bd Res.bnd
 cases m s<;>rfl
def zjE{m m':M D}:zbN m m' s=(m s).bnd λd s1=>(zeK d s1).bnd λb=>z3D b (rt (.bool true)) m':=by
 delta zbN J3 bd Res.bnd
 cases m s<;>rfl
def zgV{m:M D}:zaC m s=(m s).bnd λd s1=>(zeK d s1).bnd λb=>rt (.bool (!b)):=by
 delta zaC J3 bd Res.bnd
 cases m s<;>rfl
def zlg{m m':M α}:z3D true m m' s=m s:=(rfl)
def zlh{m m':M α}:z3D false m m' s=m' s:=(rfl)
def ze1:Y0 [] s= .ok [] s:=(rfl)
def z2j:Y0 (m::ms) s=(m s).bnd λx s1=>(Y0 ms (s1.psh x)).bnd λys s2=>(pop s2).bnd λx' s3=> .ok (x'::ys) s3:=(rfl)
def zjF{g:List D->M D}:mCB ms g s=(Y0 ms s).bnd g:=(rfl)
def zgW{f:FM}:Z0 f ms s=(Y0 ms s).bnd λts s1=>z1I (f ts s1.n) ts s1:=(rfl)
def ze2{g g':D->D->M D}:z4X ma mb mc g g' s=(ma s).bnd λx s1=>(mb (s1.psh x)).bnd λy s2=>(pop s2).bnd λx' s3=>z2Q y (bd (J3 (g x' y)) λk=>z3D k (bd mc λz=>g' y z) (rt (.bool false))) s3:=(rfl)
def zjG{i:Int}{m:M D}:z2Q (.int i) m s=m s:=(rfl)
def zjH(o:Option Int)(s:Stt):Res (Option Int):=match o with
 |some i=> .ok (some i) s
 |none=> .no
def z9i{i:Int}:zjH (some i) s= .ok (some i) s:=(rfl)
def ze3:z3r none s= .ok none s:=(rfl)
def ze4:z3r (some m) s=(m s).bnd λd s1=>zjH (mInt d) s1:=by
 show bd m (λd=>match mInt d with|some i=>rt (some i)|none=>fl) s=_
 delta bd Res.bnd
 cases m s with
 |ok d s1=>show(match mInt d with|some i=>rt (some i)|none=>fl:M (Option Int)) s1=zjH (mInt d) s1;cases mInt d<;>rfl
 |ex d s1=>rfl
 |no=>rfl
def zgX{i:Int}:mInt (.int i)=some i:=(rfl)
def zli{lo hi:Option (M D)}:mSl m lo hi s=(m s).bnd λx s1=>(z3r lo (s1.psh x)).bnd λl s2=>(z3r hi s2).bnd λh s3=>(pop s3).bnd λx' s4=>slD x' l h s4:=(rfl)
def zgY{i j:Int}:K9 (.int i) (.int j) s= .ok (.int (i+j)) s:=(rfl)
def zgZ{a b:List D}(h:a.length+b.length<=qg):K9 (.tup a) (.tup b) s= .ok (.tup (a++b)) s:=by erw[K9,qy h];rfl
def zc3{k l:Nat}{a b:List D}(h:a.length+b.length<=qg):K9 (.lst k a) (.lst l b) s= .ok (.lst s.n (a++b)) s.nxt:=by erw[K9,qy h];rfl
def zjI{i j:Int}:zdi (.int i) (.int j) s= .ok (.int (i -j)) s:=(rfl)
def zc4{i j:Int}(h:zeF i j):z5Y (.int i) (.int j) s= .ok (.int (i/j)) s:=by erw[z5Y,qy h];rfl
def z3f{i j:Int}(h:0<j):z3o (.int i) (.int j) s= .ok (.int (i %j)) s:=by erw[z3o,qy h];rfl
def ze5{i j:Int}(h:zeG i j):zbK (.int i) (.int j) s= .ok (.int (i^j.toNat)) s:=by erw[zbK,qy h];rfl
def zlj{i j:Int}:ltD (.int i) (.int j) s= .ok (.bool (decide (i<j))) s:=(rfl)
def zlk{i j:Int}:leD (.int i) (.int j) s= .ok (.bool (decide (i<=j))) s:=(rfl)
def zll{i j:Int}:gtD (.int i) (.int j) s= .ok (.bool (decide (j<i))) s:=(rfl)
def ziz(h:eqC t t'=true):eqD t t' s= .ok (.bool (PyData.eqv (er t) (er t'))) s:=by erw[eqD,qy h];rfl
def zjJ(h:eqC t t'=true):neD t t' s= .ok (.bool (!PyData.eqv (er t) (er t'))) s:=by erw[neD,qy h];rfl
def zkJ(e:z48 t'=some ds)(h:inC t ds=true):inD t t' s= .ok (.bool ((erL ds).any λy=>PyData.eqv y (er t))) s:=by erw[inD,e,qy h];rfl
def zjK(e:z48 t'=some ds)(h:inC t ds=true):zdj t t' s= .ok (.bool (!(erL ds).any λy=>PyData.eqv y (er t))) s:=by erw[zdj,e,qy h];rfl
def zjL{ds:List D}{i:Int}:ixD (.tup ds) (.int i) s=zeJ (atI ds i) s:=(rfl)
def zjM{l:Nat}{ds:List D}{i:Int}:ixD (.lst l ds) (.int i) s=zeJ (atI ds i) s:=(rfl)
def zjN{ds:List D}{i:Int}:ixD (.ro ds) (.int i) s=zeJ (atI ds i) s:=(rfl)
def zjO{d:D}:zeJ (some d) s= .ok d s:=(rfl)
def zjP{ds:List D}{lo hi:Option Int}:slD (.tup ds) lo hi s= .ok (.tup (z5Z ds lo hi)) s:=(rfl)
def zjQ{l:Nat}{ds:List D}{lo hi:Option Int}:slD (.lst l ds) lo hi s= .ok (.lst s.n (z5Z ds lo hi)) s.nxt:=(rfl)
def zaY{ts:List D}(h:ts.length<=qg):x6 ts s= .ok (.tup ts) s:=by erw[x6,qy h];rfl
def z9j{ts:List D}(h:ts.length<=qg):lstM ts s= .ok (.lst s.n ts) s.nxt:=by erw[lstM,qy h];rfl
def zh0{l:Nat}{ds:List D}:z4Y [.lst l ds] s= .ok (.int ds.length) s:=(rfl)
def zh1{ds:List D}:z4Y [.ro ds] s= .ok (.int ds.length) s:=(rfl)
def zjR{i:Int}:zeL [.int i] s= .ok (.int (if i<0 then -i else i)) s:=(rfl)
def zjS{i j:Int}:zaE [.int i, .int j] s= .ok (.int (if j<i then j else i)) s:=(rfl)
def zjT{i j:Int}:zeM [.int i, .int j] s= .ok (.int (if j>i then j else i)) s:=(rfl)
def zh2{b:Bool}:zbO [.bool b] s= .ok (.int (if b then 1 else 0)) s:=(rfl)
def zh3{l:Nat}{ds:List D}:z6z [.lst l ds] s= .ok (.tup ds) s:=(rfl)
def zh4{l:Nat}{bs:List Bool}(h:z07 ds=some bs):za0 [.lst l ds] s= .ok (.bool (bs.all id)) s:=by erw[za0,h];rfl
def zh5{l:Nat}{bs:List Bool}(h:z07 ds=some bs):zdq [.lst l ds] s= .ok (.bool (bs.any id)) s:=by erw[zdq,h];rfl
def ze6{a b:MS}:W9 a b s=(a s).sq b:=by
 delta W9 RS.sq
 cases a s<;>rfl
def zjU:sNx s= .nx s:=(rfl)
def z9k:G2 m s=(m s).lf λd s1=> .rt d s1:=(rfl)
def z6h:z26 m s=(m s).lf λ_ s1=> .nx s1:=(rfl)
def zjV{c:M Bool}{a b:MS}:sIf c a b s=(c s).lf λk=>zgj k a b:=(rfl)
def zlm{a b:MS}:zgj true a b s=a s:=(rfl)
def zln{a b:MS}:zgj false a b s=b s:=(rfl)
def zjW(o:Option (List (Option D)))(s:Stt):RS:=match o with
 |some σ'=> .nx {s with σ:=σ'}
 |none=> .no
def z9l{σ':List (Option D)}:zjW (some σ') ⟨σ,tm,n⟩= .nx ⟨σ',tm,n⟩:=(rfl)
def zh6{g:Tg}:J8 g m s=(m s).lf λd s1=>zjW (asg g d s1.σ) s1:=by
 delta J8 z0N Res.lf zjW
 cases m s with
 |ok d s1=>first|(dsimp only;cases asg g d s1.σ<;>rfl)|(dsimp only;done)|rfl
 |ex d s1=>rfl
 |no=>rfl
def zjX{me mo mi:M D}{g:D->D->D->MS}:z7y me mo mi g s=(me s).lf λv s1=>(mo (s1.psh v)).lf λo s2=>(mi (s2.psh o)).lf λi s3=>(pop s3).lf λo' s4=>(pop s4).lf λv' s5=>g o' i v' s5:=(rfl)
def ze7{l:Nat}{ds:List D}{k:Int}{j:Nat}(e:ixN ds.length k=some j)(h:l∉qq v):z8M (.lst l ds) (.int k) v s= .nx (s.put l (.lst l (ds.set j v))):=by erw[z8M,e,qy h]
def z9m{mo:M D}{g:D->List D->M D}:z1p mo ms g s=(mo s).bnd λx s1=>(isL x s1).bnd λ_ s2=>(Y0 ms (s2.psh x)).bnd λys s3=>(pop s3).bnd λx' s4=>g x' ys s4:=(rfl)
def ze8{l:Nat}{ds:List D}:isL (.lst l ds) s= .ok () s:=(rfl)
def ze9{l:Nat}{ds:List D}(h:ds.length<qg/\l∉qq y):z8L (.lst l ds) [y] s= .ok .non (s.put l (.lst l (ds++[y]))):=by erw[z8L,qy h]
end
def z0J{α:Type}{xs:List α}{i:Int}{d:α}(h0:0<=i)(h:xs[i.toNat]? =some d):atI xs i=some d:=by
 obtain⟨j,rfl⟩:=B5 h0
 exact zcM (by simpa using h)
end Mi
set_option maxHeartbeats 400000
namespace Mi
open PySem L2
noncomputable def pl(l:Nat)(d:D):Nat->Option D:=λk=>if k=l then some d else none
def z3g{σ tm:List (Option D)}{n l:Nat}{d:D}:Stt.put ⟨σ,tm,n⟩ l d=⟨rpO (pl l d) σ,rpO (pl l d) tm,n⟩:=(rfl)
def Z5{l:Nat}(h:l∉qq t):rp (pl l d) t=t:=zay t λk hk=>by
 delta pl;rw[qh];intro e;subst e;exact h hk
def z1c{f:Nat->Option D}:rpO f []=[]:=(rfl)
def zaZ{f:Nat->Option D}{r:List (Option D)}:rpO f (none::r)=none::rpO f r:=(rfl)
def zb0{f:Nat->Option D}{d:D}{r:List (Option D)}:rpO f (some d::r)=some (rp f d)::rpO f r:=(rfl)
def z2s{l:Nat}{d:D}{b:List D}:rp (pl l d) (.lst l b)=d:=by erw[rp,pl,if_true]
def z1V{f:Nat->Option D}{i:Int}:rp f (.int i)= .int i:=(rfl)
def zh7{f:Nat->Option D}{i:Str}:rp f (.str i)= .str i:=(rfl)
def z9n{f:Nat->Option D}{ds:List D}:rp f (.tup ds)= .tup (rpL f ds):=(rfl)
def zea{f:Nat->Option D}:rpL f []=[]:=(rfl)
def z4p{f:Nat->Option D}{d:D}{ds:List D}:rpL f (d::ds)=rp f d::rpL f ds:=(rfl)
mutual
theorem z2k{l:Nat}: ∀t:D,l∉qq t->Q0 l t=none
 | .non,_=>rfl
 | .bool _,_=>rfl
 | .int _,_=>rfl
 | .str _,_=>rfl
 | .exc _,_=>rfl
 | .fn _,_=>rfl
 | .tup ds,h=>by erw[qq] at h;erw[Q0];exact findL_none ds h
 | .ro ds,h=>by erw[qq] at h;erw[Q0];exact findL_none ds h
 | .fdc ks ds,h=>by erw[qq] at h;erw[Q0];exact findL_none ds h
 | .lst k ds,h=>by
  erw[qq,c8,not_or] at h;erw[Q0];rw[qh λe=>h.1 e.symm];exact findL_none ds h.2
 | .dct k ks ds,h=>by
  erw[qq,c8,e9,not_or] at h;erw[Q0];rw[qh λe=>h.1 e.symm];exact findL_none ds h.2.2
 | .obj k c ks ds,h=>by
  erw[qq,c8,not_or] at h;erw[Q0];rw[qh λe=>h.1 e.symm];exact findL_none ds h.2
theorem findL_none{l:Nat}: ∀t:List D,l∉qx t->findL l t=none
 |[],_=>rfl
 |d::ds,h=>by
  erw[qx,e9,not_or] at h
  erw[findL,z2k d h.1,findL_none ds h.2]
end
def z1d{t:D}{l n' n:Nat}(hb:qx b=[])(hb':qx b'=[])(hr:qx r=[])(f1:rpO (pl l (.lst l b)) σ=σ)(f2:rpO (pl l (.lst l b)) tm=tm):
 z1I (.ok t (.lst l b'::r) n') (.lst l b::r) ⟨σ,tm,n⟩= .ok t ⟨rpO (pl l (.lst l b')) σ,rpO (pl l (.lst l b')) tm,n'⟩:=by
 have e:(λk=>findL k (.lst l b'::r))=pl l (.lst l b'):=by
  funext k
  erw[findL,Q0,pl]
  by_cases h:l=k
  .subst h;rw[qy rfl,qy rfl]
  .rw[qh h,qh λq=>h q.symm,findL_none b' (by rw[hb'];exact i3),findL_none r (by rw[hr];exact i3)]
 delta z1I
 by_cases h:(D.lst l b'::r)=(D.lst l b::r)
 .have hh:b'=b:=by injection h with h _;injection h
  subst hh
  erw[if_true]
  rw[f1,f2]
 .erw[qh h]
  rw[qy,e]
  intro k _ hk
  erw[qx,qq,hb,hr,e8,i4] at hk
  subst hk
  have:=congrFun e k
  rw[show findL k (D.lst k b'::r)=pl k (D.lst k b') k from this];simp[pl]
end Mi
set_option maxHeartbeats 4000000
namespace Mi
open PySem L2
def zb1{K:ItK}{g:Tg}{mt:M Bool}{me:M D}{items:List D}{its:List (Option D)}{ol k:Nat}{β:Type}{cap σ0 tm0:β->List (Option D)}{frd:D->List (Option D)}{PL:Nat->Nat->List D->β->Prop}
 (hk:its.length=K.k) (hol: ∀b,(σ0 b).length=ol) (hz:items.length<qg) (hat: ∀i rest,K.at' i (its++rest)=some items[i]?)
 (has: ∀d∈items,∀b pre,pre.length=k->asg g d (pre++cap b)=some (frd d++cap b)) (hfr: ∀d∈items,(frd d).length=k)
 (hme: ∀i (hi:i<items.length) acc (b:β) n,acc.length<=i->PL i n acc b->∃ok n1,mt ⟨frd items[i]++cap b,acc.reverse.map some++(σ0 b++(its++tm0 b)),n⟩= .ok ok ⟨frd items[i]++cap b,acc.reverse.map some++(σ0 b++(its++tm0 b)),n1⟩/\
  ((ok=false/\PL (i+1) n1 acc b)\/(ok=true/\∃y b' n',PL (i+1) n' (acc++[y]) b'/\me ⟨frd items[i]++cap b,acc.reverse.map some++(σ0 b++(its++tm0 b)),n1⟩= .ok y ⟨frd items[i]++cap b',acc.reverse.map some++(σ0 b'++(its++tm0 b')),n'⟩))):
 ∀f i acc (b:β) pre n,i+f=items.length->acc.length<=i->pre.length=k->PL i n acc b->∃ys b' n',PL items.length n' ys b'/\z00 K g mt me ol f i acc.length ⟨pre++cap b,acc.reverse.map some++(σ0 b++(its++tm0 b)),n⟩= .ok (.lst n' ys) ⟨σ0 b',tm0 b',n'+1⟩:=by
 intro f
 induction f with
 |zero=>
  intro i acc b pre n hi ha hp hq
  obtain rfl:i=items.length:=by lia
  refine⟨acc,b,n,hq, ?_⟩
  have l1:(acc.reverse.map some).length=acc.length:=by simp
  have e1:(acc.reverse.map some++(σ0 b++(its++tm0 b))).drop (acc.length+ol)=its++tm0 b:=by
   rw[<-A2];exact z0D _ _ _ (by simp[hol])
  unfold z00
  erw[e1,hat,List.getElem?_eq_none (b9 _)]
  rw[z2A _ _ _ l1,<-P3,M9,z3e]
  erw[z0D _ _ _ l1,z2A _ _ _ (hol b)]
  rw[<-D2,e1,z0D _ _ _ hk]
 |succ f ih=>
  intro i acc b pre n hi ha hp hq
  have hlt:i<items.length:=by lia
  have hm:=l6 hlt
  have e1:(acc.reverse.map some++(σ0 b++(its++tm0 b))).drop (acc.length+ol)=its++tm0 b:=by
   rw[<-A2];exact z0D _ _ _ (by simp[hol])
  obtain⟨ok,n1,h1,⟨rfl,h2⟩|⟨rfl,y,b',n',h2,h3⟩⟩:=hme i hlt acc b n ha hq
  .obtain⟨ys,b',n',g1,g2⟩:=ih (i+1) acc b (frd items[i]) n1 (by lia) (by lia) (hfr _ hm) h2
   refine⟨ys,b',n',g1, ?_⟩
   unfold z00
   erw[e1,hat,List.getElem?_eq_getElem hlt,has _ hm b pre hp,h1]
   exact g2
  .obtain⟨ys,b2,n2,g1,g2⟩:=ih (i+1) (acc++[y]) b' (frd items[i]) n' (by lia) (by simp;lia) (hfr _ hm) h2
   refine⟨ys,b2,n2,g1, ?_⟩
   unfold z00
   erw[e1,hat,List.getElem?_eq_getElem hlt,has _ hm b pre hp,h1,qy (show acc.length<qg by lia),h3]
   erw[n8,l8,C2,N8,F3,A9,L8,l5,B1,b8,l0,p9,A2] at g2
   exact g2
def z2l{mi:M ItK}{K:ItK}{g:Tg}{mt:M Bool}{me:M D}{items:List D}{its:List (Option D)}{ix:List Nat}{k:Nat}{β:Type}{cap σ tm:β->List (Option D)}(frd:D->List (Option D))(PL:Nat->Nat->List D->β->Prop){s:Stt}{b:β}{n:Nat}
 (hcap: ∀b,cap b=ix.map λj=>((σ b)[j]?).getD none)
 (hc:mi s= .ok K ⟨σ b,its++tm b,n⟩) (hk:its.length=K.k) (hol: ∀b',(σ b').length=(σ b).length) (hz:items.length<qg) (hat: ∀i rest,K.at' i (its++rest)=some items[i]?) (hlen:K.len (its++tm b)=items.length)
 (has: ∀d∈items,∀b pre,pre.length=k->asg g d (pre++cap b)=some (frd d++cap b)) (hfr: ∀d∈items,(frd d).length=k) (h0:PL 0 n [] b)
 (hme: ∀i (hi:i<items.length) acc (b:β) n,acc.length<=i->PL i n acc b->∃ok n1,mt ⟨frd items[i]++cap b,acc.reverse.map some++(σ b++(its++tm b)),n⟩= .ok ok ⟨frd items[i]++cap b,acc.reverse.map some++(σ b++(its++tm b)),n1⟩/\
  ((ok=false/\PL (i+1) n1 acc b)\/(ok=true/\∃y b' n',PL (i+1) n' (acc++[y]) b'/\me ⟨frd items[i]++cap b,acc.reverse.map some++(σ b++(its++tm b)),n1⟩= .ok y ⟨frd items[i]++cap b',acc.reverse.map some++(σ b'++(its++tm b')),n'⟩))):
 ∃ys b' n',PL items.length n' ys b'/\Y7 mi g mt me k ix s= .ok (.lst n' ys) ⟨σ b',tm b',n'+1⟩:=by
 obtain⟨ys,b',n',h1,h2⟩:=zb1 (K:=K) (σ0:=σ) (tm0:=tm) hk hol hz hat has hfr hme items.length 0 [] b (m7 k none) n (by simp) (by simp) (by simp) h0
 refine⟨ys,b',n',h1, ?_⟩
 delta Y7
 rw[hcap] at h2
 erw[bd,hc,hlen]
 exact h2
def z6i{mi:M ItK}{K:ItK}{g:Tg}{mt:M Bool}{me:M D}{p:D->Bool}{gf:D->D}{items:List D}{its:List (Option D)}{ix:List Nat}{k:Nat}{σ tm:List (Option D)}(frd:D->List (Option D)){s:Stt}{n:Nat}
 (hc:mi s= .ok K ⟨σ,its++tm,n⟩) (hk:its.length=K.k) (hz:items.length<qg) (hat: ∀i rest,K.at' i (its++rest)=some items[i]?) (hlen:K.len (its++tm)=items.length)
 (has: ∀d∈items,∀pre:List (Option D),pre.length=k->asg g d (pre++ix.map λj=>(σ[j]?).getD none)=some (frd d++ix.map λj=>(σ[j]?).getD none)) (hfr: ∀d∈items,(frd d).length=k)
 (hmt: ∀d∈items,∀tm n,∃n',n<=n'/\mt ⟨frd d++(ix.map λj=>(σ[j]?).getD none),tm,n⟩= .ok (p d) ⟨frd d++(ix.map λj=>(σ[j]?).getD none),tm,n'⟩)
 (hme: ∀d∈items,p d=true->∀tm n,∃n',n<=n'/\me ⟨frd d++(ix.map λj=>(σ[j]?).getD none),tm,n⟩= .ok (gf d) ⟨frd d++(ix.map λj=>(σ[j]?).getD none),tm,n'⟩):
 ∃n',n<=n'/\Y7 mi g mt me k ix s= .ok (.lst n' ((items.filter p).map gf)) ⟨σ,tm,n'+1⟩:=by
 obtain⟨ys,_,n',⟨h1,rfl⟩,h2⟩:=z2l (β:=Unit) (σ:=λ_=>σ) (tm:=λ_=>tm) (cap:=λ_=>ix.map λj=>(σ[j]?).getD none) (mt:=mt) (me:=me) (ix:=ix) (b:=()) frd (λi m acc _=>n<=m/\acc=((items.take i).filter p).map gf) (λ_=>rfl) hc hk (λ_=>rfl) hz hat hlen (λd hd _=>has d hd) hfr ⟨b9 _,rfl⟩ (by
  rintro i hi acc _ m ha ⟨h1,rfl⟩
  obtain⟨n1,h4,h5⟩:=hmt items[i] (l6 hi) ((((items.take i).filter p).map gf).reverse.map some++(σ++(its++tm))) m
  refine⟨p items[i],n1,h5, ?_⟩
  rw[B4 hi,List.filter_append,B1]
  cases hp:p items[i] with
  |false=>exact .inl ⟨rfl,by lia,by simp[hp]⟩
  |true=>
   obtain⟨n2,h6,h7⟩:=hme items[i] (l6 hi) hp ((((items.take i).filter p).map gf).reverse.map some++(σ++(its++tm))) n1
   exact .inr ⟨rfl,_,(),n2,⟨by lia,by simp[hp]⟩,h7⟩)
 rw[E6] at h2
 exact⟨n',h1,h2⟩
def zeP: ∀pre:List (Option D),pre.length=1->asg (.nm 0) d (pre++c)=some ([some d]++c):=λpre hp=>by
 obtain⟨_,rfl⟩:=P6.mp hp;rfl
def len2{α:Type}{l:List α}(h:l.length=2): ∃a b,l=[a,b]:=by
 obtain⟨a,t,rfl⟩:=A5 h
 obtain⟨b,rfl⟩:=P6.mp (Nat.succ.inj h)
 exact⟨a,b,rfl⟩
def zkK: ∀pre:List (Option D),pre.length=2->asg (.tp [.nm 0, .nm 1]) (.tup [a,b]) (pre++c)=some ([some a,some b]++c):=λpre hp=>by
 obtain⟨_,_,rfl⟩:=len2 hp;rfl
def z9o{lo:Int}{N i:Nat}:(z4x lo N).at' i ([]++rest)=some (U8 lo N)[i]? :=by
 erw[z4x,U8,List.getElem?_map]
 by_cases h:i<N
 .rw[qy h,List.getElem?_range h];rfl
 .rw[qh h,List.getElem?_eq_none (by simp;lia)];rfl
end Mi
set_option maxHeartbeats 400000
namespace Mi
open PySem L2
def z9p{mi:M ItK}{g:Tg}{b:MS}{s:Stt}:z1A mi g b s=(mi s).lf λK s=>forGo K g b (K.len s.tm) 0 s:=(rfl)
def z9q{ms:List (M D)}{s:Stt}:X4 ms s=(Y0 ms s).bnd zgn:=(rfl)
def z3N{j:Int}(h: -(2^62)<=j/\j<2^62):zgn [.int j] s= .ok (z4x 0 j.toNat) s:=by erw[zgn,qy h];rfl
def zh8{lo:Int}{N:Nat}{tm:List (Option D)}:(z4x lo N).len tm=N:=(rfl)
def z3h{P:Nat->Stt->Prop}{lo:Int}{N:Nat}{g:Tg}{b:MS}
 (body: ∀i,i<N->∀s,P i s->∃σ',asg g (.int (lo+i)) s.σ=some σ'/\∃s',b {s with σ:=σ'}= .nx s'/\P (i+1) s'):
 ∀f i s,i+f=N->P i s->∃s',forGo (z4x lo N) g b f i s= .nx s'/\P N s':=by
 intro f
 induction f with
 |zero=>
  intro i s hi h
  have e:i=N:=by lia
  subst e
  refine⟨s, ?_,h⟩
  unfold forGo
  erw[z4x,A8,if_false]
  rfl
 |succ f ih=>
  intro i s hi h
  have hl:i<N:=by lia
  obtain⟨σ',e1,s',e2,h'⟩:=body i hl s h
  obtain⟨s2,e3,h2⟩:=ih (i+1) s' (by lia) h'
  refine⟨s2, ?_,h2⟩
  unfold forGo
  erw[z4x,qy hl,e1,e2]
  exact e3
mutual
theorem zh9{l:Nat}{b:List D}{d:D}: ∀t:D,rp (pl l d) (rp (pl l (.lst l b)) t)=rp (pl l d) t
 | .non=>rfl
 | .bool _=>rfl
 | .int _=>rfl
 | .str _=>rfl
 | .exc _=>rfl
 | .fn _=>rfl
 | .tup ds=>by erw[rp];rw[rpL_rp ds]
 | .ro ds=>by erw[rp];rw[rpL_rp ds]
 | .fdc ks ds=>by erw[rp];rw[rpL_rp ds]
 | .lst k ds=>by
  by_cases h:k=l
  .subst h;erw[rp,pl,if_true]
  .have e: ∀x,pl l x k=none:=λx=>by erw[pl,qh h]
   erw[rp,e];rw[rpL_rp ds]
 | .dct k ks ds=>by
  by_cases h:k=l
  .subst h;erw[rp,pl,if_true]
  .have e: ∀x,pl l x k=none:=λx=>by erw[pl,qh h]
   erw[rp,e];rw[rpL_rp ds]
 | .obj k c ks ds=>by
  by_cases h:k=l
  .subst h;erw[rp,pl,if_true]
  .have e: ∀x,pl l x k=none:=λx=>by erw[pl,qh h]
   erw[rp,e];rw[rpL_rp ds]
theorem rpL_rp{l:Nat}{b:List D}{d:D}: ∀t:List D,rpL (pl l d) (rpL (pl l (.lst l b)) t)=rpL (pl l d) t
 |[]=>rfl
 |t::ts=>by erw[rpL];rw[zh9 t,rpL_rp ts]
end
theorem z3O{l:Nat}: ∀t:List (Option D),rpO (pl l d) (rpO (pl l (.lst l b)) t)=rpO (pl l d) t
 |[]=>rfl
 |none::ts=>by erw[rpO];rw[z3O ts]
 |some t::ts=>by erw[rpO];rw[zh9 t,z3O ts]
theorem z1x: ∀(a b:List (Option D)),rpO f (a++b)=rpO f a++rpO f b
 |[],b=>rfl
 |none::a,b=>by erw[p9,rpO,z1x a b]
 |some d::a,b=>by erw[p9,rpO,z1x a b]
theorem z6j: ∀(a:List (Option D)),(rpO f a).length=a.length
 |[]=>rfl
 |none::a=>by erw[rpO,l8,z6j a]
 |some d::a=>by erw[rpO,l8,z6j a]
theorem z5o: ∀ds:List D,Z4 (ds.map some)=qx ds
 |[]=>rfl
 |d::ds=>by erw[b8,Z4,qx,z5o ds]
theorem z1W: ∀a b:List D,qx (a++b)=qx a++qx b
 |[],b=>rfl
 |d::ds,b=>by erw[p9,qx,z1W ds b,A2]
theorem z9r{l:Nat}: ∀ds:List D,l∈qx ds.reverse↔l∈qx ds
 |[]=>Iff.rfl
 |d::ds=>by erw[A9,z1W,qx,e9,z9r ds,e8];exact Or.comm
def z3i{l:Nat}{ds:List D}(h:l∉qx ds):rpO (pl l d) (ds.reverse.map some)=ds.reverse.map some:=z4V _ λk hk=>by
 rw[z5o,z9r] at hk
 delta pl;rw[qh];intro e;subst e;exact h hk
def zb2{l:Nat}{d:D}{σ:List (Option D)}(ix:List Nat):(ix.map λi=>((rpO (pl l d) σ)[i]?).getD none)=rpO (pl l d) (ix.map λi=>(σ[i]?).getD none):=by
 have at': ∀(σ:List (Option D)) (i:Nat),(rpO (pl l d) σ)[i]? =(σ[i]?).map (m9 (rp (pl l d))):=by
  intro σ
  induction σ with
  |nil=>intro i;rfl
  |cons o σ ih=>intro i;cases o<;>cases i<;>simp[rpO,ih]
 induction ix with
 |nil=>rfl
 |cons i ix ih=>
  rw[b8,b8,ih,at']
  cases σ[i]? with
  |none=>rfl
  |some o=>cases o<;>rfl
def z5p{me:M D}{N:Nat}{ix:List Nat}{l n:Nat}{j:Int}{Bg:List D->Prop}{Q:Nat->D->Prop}(mono: ∀a b,a<=b->∀y,Q a y->Q b y)(hms:Y0 ms s= .ok [.int j] ⟨σ0,tm0,n⟩)(hj:j.toNat=N)(hj': -(2^62)<=j/\j<2^62)(hz:N<qg)
 (hb:Bg b) (hn:l<n) (f1:rpO (pl l (.lst l b)) σ0=σ0) (f2:rpO (pl l (.lst l b)) tm0=tm0) (f3:rpO (pl l (.lst l b)) (ix.map λi=>(σ0[i]?).getD none)=ix.map λi=>(σ0[i]?).getD none)
 (hme: ∀i,i<N->∀b tm n,Bg b->l<n->rpO (pl l (.lst l b)) tm=tm->∃y b' n',Bg b'/\Q n' y/\n<=n'/\l∉qq y/\me ⟨some (.int (0+(i:Nat)))::rpO (pl l (.lst l b)) (ix.map λi=>(σ0[i]?).getD none),tm,n⟩= .ok y ⟨some (.int (0+(i:Nat)))::rpO (pl l (.lst l b')) (ix.map λi=>(σ0[i]?).getD none),rpO (pl l (.lst l b')) tm,n'⟩):
 ∃ys b' n',ys.length=N/\(∀y∈ys,Q n' y)/\l∉qx ys/\Bg b'/\n<=n'/\Y7 (X4 ms) (.nm 0) (rt true) me 1 ix s= .ok (.lst n' ys) ⟨rpO (pl l (.lst l b')) σ0,rpO (pl l (.lst l b')) tm0,n'+1⟩:=by
 obtain⟨ys,b',n',⟨h1,h2,h3,h4,h5⟩,h6⟩:=z2l (mi:=X4 ms) (K:=z4x 0 N) (g:= .nm 0) (mt:=rt true) (me:=me) (items:=U8 0 N) (its:=[]) (ix:=ix) (k:=1) (β:=List D) (cap:=λb=>rpO (pl l (.lst l b)) (ix.map λi=>(σ0[i]?).getD none)) (σ:=λb=>rpO (pl l (.lst l b)) σ0) (tm:=λb=>rpO (pl l (.lst l b)) tm0) (λd=>[some d])
  (λi m acc b=>(∀y∈acc,Q m y)/\l∉qx acc/\Bg b/\n<=m/\acc.length=i) (s:=s) (b:=b) (n:=n) (λb=>(zb2 ix).symm) (by rw[z9q,hms,z0I,z3N hj',hj,f1,f2];rfl) rfl (λ_=>by erw[z6j]) (by erw[U8,i5,L5];exact hz) (λ_ _=>z9o) (by erw[U8,i5,L5];rfl)
  (λd _ b=>zeP) (λ_ _=>rfl) ⟨(by intro y h;cases h),by simp[qx],hb,b9 _,rfl⟩ (by
   rintro i hi acc b m ha ⟨q1,q2,q3,q4,rfl⟩
   have hN:acc.length<N:=by simpa[U8] using hi
   obtain⟨y,b',n',h1,h2,h3,h4,h5⟩:=hme acc.length hN b (acc.reverse.map some++(rpO (pl l (.lst l b)) σ0++rpO (pl l (.lst l b)) tm0)) m q3 (by lia) (by rw[z1x,z1x,z3O,z3O,z3i q2])
   refine⟨true,m,rfl, .inr ⟨rfl,y,b',n',⟨λz hz=> ?_, ?_,h1,by lia,by simp⟩, ?_⟩⟩
   .rcases e9.mp hz with hz|hz
    .exact mono _ _ h3 z (q1 z hz)
    .rw[i4.mp hz];exact h2
   .rw[z1W]
    erw[qx,e8,e9,not_or]
    exact⟨q2,h4⟩
   .rw[show(U8 0 N)[acc.length]= .int (0+(acc.length:Nat)) by simp[U8]]
    rw[z1x,z1x,z3O,z3O,z3i q2] at h5
    exact h5)
 rw[show(U8 0 N).length=N by simp[U8]] at h5
 exact⟨ys,b',n',h5,h1,h2,h3,h4,h6⟩
inductive All2(Q:D->D->Prop):List D->List D->Prop
 |nil:All2 Q [] []
 |cons {a b:D} {as bs:List D}:Q a b->All2 Q as bs->All2 Q (a::as) (b::bs)
def All2.snoc{Q:D->D->Prop}: ∀{as bs:List D},All2 Q as bs->Q a b->All2 Q (as++[a]) (bs++[b])
 |_,_, .nil,h=> .cons h .nil
 |_,_, .cons h1 h2,h=> .cons h1 (h2.snoc h)
def All2.mono{Q R:D->D->Prop}(h: ∀a b,Q a b->R a b): ∀{as bs:List D},All2 Q as bs->All2 R as bs
 |_,_, .nil=> .nil
 |_,_, .cons h1 h2=> .cons (h _ _ h1) (h2.mono h)
def z1X{l:Nat}{n:Nat}(h:m s= .ok (.lst l ds) ⟨σ,tm,n⟩):Q5 m s= .ok z4d ⟨σ,some (.lst l ds)::tm,n⟩:=by
 unfold Q5;rw[zgR,h];rfl
def z5q{mc me:M D}{Q:Nat->D->D->Prop}(mono: ∀a b,a<=b->∀d y,Q a d y->Q b d y){l:Nat}{ds:List D}{ix:List Nat}{n:Nat}(hc:mc s= .ok (.lst l ds) ⟨σ,tm,n⟩)(hz:ds.length<qg)
 (hme: ∀d∈ds,∀tm n,∃y n',n<=n'/\Q n' d y/\me ⟨some d::(ix.map λi=>(σ[i]?).getD none),tm,n⟩= .ok y ⟨some d::(ix.map λi=>(σ[i]?).getD none),tm,n'⟩):
 ∃ys n',All2 (Q n') ds ys/\n<=n'/\Y7 (Q5 mc) (.nm 0) (rt true) me 1 ix s= .ok (.lst n' ys) ⟨σ,tm,n'+1⟩:=by
 obtain⟨ys,_,n',⟨h1,h2⟩,h3⟩:=z2l (mi:=Q5 mc) (K:=z4d) (g:= .nm 0) (mt:=rt true) (me:=me) (items:=ds) (its:=[some (.lst l ds)]) (ix:=ix) (k:=1) (β:=Unit) (cap:=λ_=>ix.map λi=>(σ[i]?).getD none) (σ:=λ_=>σ) (tm:=λ_=>tm) (λd=>[some d])
  (λi m acc _=>All2 (Q m) (ds.take i) acc/\n<=m) (b:=()) (n:=n) (λ_=>rfl) (z1X hc) rfl (λ_=>rfl) hz (λ_ _=>rfl) rfl (λd _ b=>zeP) (λ_ _=>rfl) ⟨.nil,b9 _⟩ (by
   rintro i hi acc _ m ha ⟨q1,q2⟩
   obtain⟨y,n',h1,h2,h3⟩:=hme ds[i] (l6 hi) (acc.reverse.map some++(σ++(some (.lst l ds)::tm))) m
   exact⟨true,m,rfl, .inr ⟨rfl,y,(),n',⟨by rw[B4 hi];exact(q1.mono (mono _ _ h1)).snoc h2,by lia⟩,h3⟩⟩)
 rw[E6] at h1
 exact⟨ys,n',h1,h2,h3⟩
def z3j{K:ItK}{mt:M Bool}{me:M D}{p:D->Bool}{g:D->D}{items:List D}{its:List (Option D)}{ix:List Nat}{n:Nat}(hc:mi s= .ok K ⟨σ,its++tm,n⟩)(hk:its.length=K.k)(hz:items.length<qg)(hat: ∀i rest,K.at' i (its++rest)=some items[i]?)(hlen:K.len (its++tm)=items.length)
 (hmt: ∀d∈items,∀tm n,∃n',n<=n'/\mt ⟨some d::(ix.map λi=>(σ[i]?).getD none),tm,n⟩= .ok (p d) ⟨some d::(ix.map λi=>(σ[i]?).getD none),tm,n'⟩)
 (hme: ∀d∈items,p d=true->∀tm n,∃n',n<=n'/\me ⟨some d::(ix.map λi=>(σ[i]?).getD none),tm,n⟩= .ok (g d) ⟨some d::(ix.map λi=>(σ[i]?).getD none),tm,n'⟩):
 ∃n',n<=n'/\Y7 mi (.nm 0) mt me 1 ix s= .ok (.lst n' ((items.filter p).map g)) ⟨σ,tm,n'+1⟩:=
 z6i (λd=>[some d]) hc hk hz hat hlen (λd _=>zeP) (λ_ _=>rfl) hmt hme
def z0l{mt:M Bool}{me:M D}{p:D->Bool}{g:D->D}{l:Nat}{ds:List D}{ix:List Nat}{n:Nat}(hc:mc s= .ok (.lst l ds) ⟨σ,tm,n⟩)(hz:ds.length<qg)
 (hmt: ∀d∈ds,∀tm n,∃n',n<=n'/\mt ⟨some d::(ix.map λi=>(σ[i]?).getD none),tm,n⟩= .ok (p d) ⟨some d::(ix.map λi=>(σ[i]?).getD none),tm,n'⟩)
 (hme: ∀d∈ds,p d=true->∀tm n,∃n',n<=n'/\me ⟨some d::(ix.map λi=>(σ[i]?).getD none),tm,n⟩= .ok (g d) ⟨some d::(ix.map λi=>(σ[i]?).getD none),tm,n'⟩):
 ∃n',n<=n'/\Y7 (Q5 mc) (.nm 0) mt me 1 ix s= .ok (.lst n' ((ds.filter p).map g)) ⟨σ,tm,n'+1⟩:=
 z3j (K:=z4d) (its:=[some (.lst l ds)]) (items:=ds) (by unfold Q5;rw[zgR,hc];rfl) rfl hz (λi rest=>rfl) rfl hmt hme
def z7t{mt:M Bool}{me:M D}{p:D->Bool}{g:D->D}{ds:List D}{ix:List Nat}{n:Nat}(hc:mc s= .ok (.tup ds) ⟨σ,tm,n⟩)(hz:ds.length<qg)
 (hmt: ∀d∈ds,∀tm n,∃n',n<=n'/\mt ⟨some d::(ix.map λi=>(σ[i]?).getD none),tm,n⟩= .ok (p d) ⟨some d::(ix.map λi=>(σ[i]?).getD none),tm,n'⟩)
 (hme: ∀d∈ds,p d=true->∀tm n,∃n',n<=n'/\me ⟨some d::(ix.map λi=>(σ[i]?).getD none),tm,n⟩= .ok (g d) ⟨some d::(ix.map λi=>(σ[i]?).getD none),tm,n'⟩):
 ∃n',n<=n'/\Y7 (Q5 mc) (.nm 0) mt me 1 ix s= .ok (.lst n' ((ds.filter p).map g)) ⟨σ,tm,n'+1⟩:=
 z3j (K:=zds) (its:=[some (.tup ds)]) (items:=ds) (by unfold Q5;rw[zgR,hc];rfl) rfl hz (λi rest=>rfl) rfl hmt hme
noncomputable def Q9(hit:Nat->Option D):Nat->Nat->Option D
 |0,_=>none
 |f+1,i=>match hit i with|some v=>some v|none=>Q9 hit f (i+1)
def z5r{K:ItK}{g:Tg}{b:MS}{N:Nat}{P:Nat->Stt->Prop}{R:D->Stt->Prop}{item:Nat->D}{hit:Nat->Option D}(hat: ∀i s,P i s->K.at' i s.tm=some (if i<N then some (item i) else none))
 (body: ∀i,i<N->∀s,P i s->∃σ',asg g (item i) s.σ=some σ'/\match hit i with|none=> ∃s',b {s with σ:=σ'}= .nx s'/\P (i+1) s'|some v=> ∃s',b {s with σ:=σ'}= .rt v s'/\R v s'):
 ∀(f i:Nat) (s:Stt),i+f=N->P i s->match Q9 hit f i with|none=> ∃s',forGo K g b f i s= .nx (s'.popn K.k)/\P N s'|some v=> ∃s',forGo K g b f i s= .rt v (s'.popn K.k)/\R v s':=by
 intro f
 induction f with
 |zero=>
  intro i s hi h
  have e:i=N:=by lia
  subst e
  refine⟨s, ?_,h⟩
  unfold forGo
  erw[hat i s h,A8,if_false]
 |succ f ih=>
  intro i s hi h
  have hl:i<N:=by lia
  obtain⟨σ',e1,hb⟩:=body i hl s h
  unfold Q9
  cases hh:hit i with
  |none=>
   rw[hh] at hb
   obtain⟨s',e2,h'⟩:=hb
   have q:=ih (i+1) s' (by lia) h'
   have e3:forGo K g b (f+1) i s=forGo K g b f (i+1) s':=by
    conv=>lhs;unfold forGo
    erw[hat i s h,qy hl,e1,e2]
   erw[e3]
   exact q
  |some v=>
   rw[hh] at hb
   obtain⟨s',e2,h'⟩:=hb
   refine⟨s', ?_,h'⟩
   unfold forGo
   erw[hat i s h,qy hl,e1,e2]
end Mi
set_option maxHeartbeats 1000000
set_option maxHeartbeats 4000000
namespace Mi
open PySem L2
def zha lo N i rest:(z4x lo N).at' i ([]++rest)=some (U8 lo N)[i]? :=by
 erw[z4x,U8,List.getElem?_map]
 by_cases hi:i<N
 .rw[qy hi,List.getElem?_range hi];rfl
 .rw[qh hi,List.getElem?_eq_none (by simpa using hi)];rfl
end Mi
set_option maxHeartbeats 40000
namespace Mi
open PySem L2
section
variable{α β:Type}{m ma mb mc:M D}{s:Stt}{ms:List (M D)}{σ tm l:List (Option D)}{n i j k p:Nat}{x y z u d:D}{g g2:D->D->M D}{h:List D->M D}
variable{a0 a1 a2 a3 a4 a5 a6 a7 a8 a9 a10 a11 a12 a13 a14 a15 v:Option D}
def qg1:(a0::a1::l)[1]? =some a1:=(rfl)
def qg2:(a0::a1::a2::l)[2]? =some a2:=(rfl)
def qg3:(a0::a1::a2::a3::l)[3]? =some a3:=(rfl)
def qg4:(a0::a1::a2::a3::a4::l)[4]? =some a4:=(rfl)
def qg5:(a0::a1::a2::a3::a4::a5::l)[5]? =some a5:=(rfl)
def qg6:(a0::a1::a2::a3::a4::a5::a6::l)[6]? =some a6:=(rfl)
def qg7:(a0::a1::a2::a3::a4::a5::a6::a7::l)[7]? =some a7:=(rfl)
def qg9:(a0::a1::a2::a3::a4::a5::a6::a7::a8::a9::l)[9]? =some a9:=(rfl)
def qh1:(a0::a1::l).set 1 v=a0::v::l:=(rfl)
def qh2:(a0::a1::a2::l).set 2 v=a0::a1::v::l:=(rfl)
def qh3:(a0::a1::a2::a3::l).set 3 v=a0::a1::a2::v::l:=(rfl)
def qh4:(a0::a1::a2::a3::a4::l).set 4 v=a0::a1::a2::a3::v::l:=(rfl)
def qh5:(a0::a1::a2::a3::a4::a5::l).set 5 v=a0::a1::a2::a3::a4::v::l:=(rfl)
def qh6:(a0::a1::a2::a3::a4::a5::a6::l).set 6 v=a0::a1::a2::a3::a4::a5::v::l:=(rfl)
def cv(g:D->D->M D)(a:D)(b:Option (Option D))(s:Stt):Res D:=match b with
 |some (some b)=>g a b s
 |_=> .no
def zeb:cv g x (some (some y)) s=g x y s:=(rfl)
def zlo:y8 m (mC y) g s=(m s).bnd λx s1=>g x y s1:=by
 rw[z9h];cases m s<;>rfl
def zlp:y8 m (y0 j) g s=(m s).bnd λx s1=>cv g x s1.σ[j]? s1:=by
 rw[z9h];cases m s with
 |ok x s1=>rw[z0I,z0I];unfold y0 cv;dsimp only[Stt.psh];cases s1.σ[j]? with
  |none=>rfl
  |some o=>cases o<;>rfl
 |ex d s1=>rfl
 |no=>rfl
def qc1(h:List D->M D)(a:Option (Option D))(s:Stt):Res D:=match a with
 |some (some a)=>h [a] s
 |_=> .no
def zb3:qc1 h (some (some x)) s=h [x] s:=(rfl)
def zlq:mCB [y0 i] h ⟨σ,tm,n⟩=qc1 h σ[i]? ⟨σ,tm,n⟩:=by
 rw[zjF];unfold y0 qc1 Y0 bd;dsimp only
 cases σ[i]? with
 |none=>rfl
 |some o=>cases o<;>rfl
def z5s:Y0 [m] s=(m s).bnd λx s1=> .ok [x] s1:=by
 rw[z2j];cases m s<;>rfl
def qa1(a:Option (Option D))(s:Stt):Res (List D):=match a with
 |some (some a)=> .ok [a] s
 |_=> .no
def zkL:Y0 [y0 i] ⟨σ,tm,n⟩=qa1 σ[i]? ⟨σ,tm,n⟩:=by
 rw[z5s];delta y0 qa1;dsimp only
 cases σ[i]? with
 |none=>rfl
 |some o=>cases o<;>rfl
def qa2(a b:Option (Option D))(s:Stt):Res (List D):=match a,b with
 |some (some a),some (some b)=> .ok [a,b] s
 |_,_=> .no
def zb4:qa2 (some (some x)) (some (some y)) s= .ok [x,y] s:=(rfl)
def zkM:Y0 [y0 i,y0 j] ⟨σ,tm,n⟩=qa2 σ[i]? σ[j]? ⟨σ,tm,n⟩:=by
 rw[z2j];delta y0 qa2;dsimp only
 cases σ[i]? with
 |none=>rfl
 |some o=>cases o with
  |none=>rfl
  |some a=>rw[z0I];show Res.bnd _ (Y0 [y0 j] ⟨σ,_,_⟩)=_;rw[zkL];delta qa1;cases σ[j]? with
   |none=>rfl
   |some o=>cases o<;>rfl
def qa3(a b c:Option (Option D))(s:Stt):Res (List D):=match a,b,c with
 |some (some a),some (some b),some (some c)=> .ok [a,b,c] s
 |_,_,_=> .no
def zb5:qa3 (some (some x)) (some (some y)) (some (some z)) s= .ok [x,y,z] s:=(rfl)
def zlr:Y0 [y0 i,y0 j,y0 k] ⟨σ,tm,n⟩=qa3 σ[i]? σ[j]? σ[k]? ⟨σ,tm,n⟩:=by
 rw[z2j];delta y0 qa3;dsimp only
 cases σ[i]? with
 |none=>rfl
 |some o=>cases o with
  |none=>rfl
  |some a=>rw[z0I];show Res.bnd _ (Y0 [y0 j,y0 k] ⟨σ,_,_⟩)=_;rw[zkM];delta qa2;cases σ[j]? with
   |none=>rfl
   |some o=>cases o with
    |none=>rfl
    |some b=>cases σ[k]? with
     |none=>rfl
     |some o=>cases o<;>rfl
def zjY:Y0 [y0 i,mC y] ⟨σ,tm,n⟩=qa2 σ[i]? (some (some y)) ⟨σ,tm,n⟩:=by
 rw[z2j];delta y0 qa2;dsimp only
 cases σ[i]? with
 |none=>rfl
 |some o=>cases o<;>rfl
def zec:J8 (.nm i) m s=(m s).lf λd s1=> .nx ⟨s1.σ.set i (some d),s1.tm,s1.n⟩:=by
 rw[zh6];cases m s<;>rfl
end
def Y9{t:D}{l n' n:Nat}{b b' r:List D}{σ tm:List (Option D)}{σ1 tm1:D->List (Option D)}(hb:qx b=[])(hb':qx b'=[])(hr:qx r=[])(f1: ∀q,rpO (pl l q) σ=σ1 q)(f2: ∀q,rpO (pl l q) tm=tm1 q)(e1:σ1 (.lst l b)=σ:=by rfl)(e2:tm1 (.lst l b)=tm:=by rfl):
 z1I (.ok t (.lst l b'::r) n') (.lst l b::r) ⟨σ,tm,n⟩= .ok t ⟨σ1 (.lst l b'),tm1 (.lst l b'),n'⟩:=by
 rw[z1d hb hb' hr ((f1 _).trans e1) ((f2 _).trans e2),f1,f2]
end Mi
set_option maxHeartbeats 1000000
namespace Mi
open PySem L2
def z9s{t:D}{n' n:Nat}(hs: ∀k∈qx ts,(findL k ts').isSome=true)(h0:ts'=ts->rpO (λk=>findL k ts') σ=σ/\rpO (λk=>findL k ts') tm=tm):
 z1I (.ok t ts' n') ts ⟨σ,tm,n⟩= .ok t ⟨rpO (λk=>findL k ts') σ,rpO (λk=>findL k ts') tm,n'⟩:=by
 unfold z1I
 by_cases h:ts'=ts
 .erw[qy h,(h0 h).1,(h0 h).2]
 .erw[qh h]
  rw[qy λk _ hk=>hs k hk]
def zb6{K:ItK}{f i:Nat}{s s':Stt}(h1:K.at' i s.tm=some (some d))(h2:asg g d s.σ=some σ')(h3:b {s with σ:=σ'}= .nx s'):forGo K g b (f+1) i s=forGo K g b f (i+1) s':=by
 conv=>lhs;unfold forGo
 erw[h1,h2,h3]
def zed{K:ItK}{f i:Nat}{s:Stt}(h1:K.at' i s.tm=some none):forGo K g b f i s= .nx (s.popn K.k):=by
 unfold forGo
 erw[h1]
end Mi
set_option maxHeartbeats 4000000
namespace Mi
open PySem L2
def zhb:z90 ms s=(Y0 ms s).bnd zeO:=(rfl)
def zhc{j:Int}(h:0<=j/\j<2^62):zeO [.int j] s= .ok (z4g (j - 1) (-1) j.toNat) s:=by erw[zeO,qy h];rfl
def zb7{P:Nat->Stt->Prop}{lo c:Int}{N:Nat}{g:Tg}{b:MS}
 (body: ∀i,i<N->∀s,P i s->∃σ',asg g (.int (lo+(i:Int)*c)) s.σ=some σ'/\∃s',b {s with σ:=σ'}= .nx s'/\P (i+1) s'):
 ∀f i s,i+f=N->P i s->∃s',forGo (z4g lo c N) g b f i s= .nx s'/\P N s':=by
 intro f
 induction f with
 |zero=>
  intro i s hi h
  have e:i=N:=by lia
  subst e
  refine⟨s, ?_,h⟩
  unfold forGo
  erw[z4g,A8,if_false]
  rfl
 |succ f ih=>
  intro i s hi h
  have hl:i<N:=by lia
  obtain⟨σ',e1,s',e2,h'⟩:=body i hl s h
  obtain⟨s2,e3,h2⟩:=ih (i+1) s' (by lia) h'
  refine⟨s2, ?_,h2⟩
  unfold forGo
  erw[z4g,qy hl,e1,e2]
  exact e3
def zc5:z2v m s=(m s).bnd λd s1=>match dzP d s1 with|some s'=> .ok kDitp s'|none=> .no:=(rfl)
def zc6{l:Nat}{s:Stt}:dzP (.dct l (.non::ks) vs) s=some ((s.put l (.fdc (.non::ks) vs)).psh (.fdc (.non::ks) vs)):=(rfl)
def zhd{s:Stt}:dzP (.fdc (.non::ks) vs) s=some (s.psh (.fdc (.non::ks) vs)):=(rfl)
def zee{mi:M ItK}{g:Tg}{mk mv:M D}{own:Nat}{ix:List Nat}{s:Stt}:z3J mi g mk mv own ix s=(mi s).bnd λK s1=>zbY K g mk mv s1.σ.length (K.len s1.tm) 0 [] (z2R own ix s1):=(rfl)
def zhe:z6a mo mi mx s=(mo s).bnd λo s1=>(zix o s1).bnd λ_ s2=>(mi s2).bnd λi s3=>(psh i s3).bnd λ_ s4=>(mx s4).bnd λx s5=>(pop s5).bnd λi' s6=>(pop s6).bnd λo' s7=>z5c o' i' x s7:=(rfl)
def z9t{i:Nat}{ks vs:List D}(hl:vs.length=ks.length):z69 i ks vs=(D1 (λk v=>D.tup [k,v]) ks vs)[i]? :=by
 unfold z69
 by_cases h:i<ks.length
 .have h2:i<vs.length:=by lia
  rw[List.getElem?_eq_getElem h,List.getElem?_eq_getElem h2,List.getElem?_eq_getElem (by simp;lia)]
  simp
 .have e1:ks[i]? =none:=List.getElem?_eq_none (by lia)
  have e2:(D1 (λk v=>D.tup [k,v]) ks vs)[i]? =none:=List.getElem?_eq_none (by rw[N7];lia)
  rw[e1,e2]
def zb8{P:Nat->Stt->Prop}{ks vs:List D}{g:Tg}{b:MS}(hl:vs.length=ks.length)(hP: ∀i s,P i s->s.tm=some (.fdc (.non::ks) vs)::tm)
 (body: ∀i k v,ks[i]? =some k->vs[i]? =some v->∀s,P i s->∃σ',asg g (.tup [k,v]) s.σ=some σ'/\∃s',b {s with σ:=σ'}= .nx s'/\P (i+1) s'):
 ∀f i s,i+f=ks.length->P i s->∃s',forGo kDitp g b f i s= .nx (s'.popn 1)/\P ks.length s':=by
 intro f
 induction f with
 |zero=>
  intro i s hi h
  have hi:i=ks.length:=by lia
  refine⟨s, ?_,hi▸h⟩
  unfold forGo
  have e:kDitp.at' i s.tm=some none:=by
   rw[hP i s h]
   show some (z69 i ks vs)=_
   rw[z9t hl,List.getElem?_eq_none (by rw[N7];lia)]
  erw[e]
  rfl
 |succ f ih=>
  intro i s hi h
  have hk:i<ks.length:=by lia
  have hv:i<vs.length:=by lia
  obtain⟨σ',e1,s',e2,h'⟩:=body i _ _ (List.getElem?_eq_getElem hk) (List.getElem?_eq_getElem hv) s h
  obtain⟨s2,e3,h2⟩:=ih (i+1) s' (by lia) h'
  refine⟨s2, ?_,h2⟩
  unfold forGo
  have e:kDitp.at' i s.tm=some (some (.tup [ks[i],vs[i]])):=by
   rw[hP i s h]
   show some (z69 i ks vs)=_
   unfold z69
   rw[List.getElem?_eq_getElem hk,List.getElem?_eq_getElem hv]
  erw[e,e1,e2]
  exact e3
def DcV(S:D->D->D->Nat->Nat->Prop):List D->List D->List D->Nat->Nat->Prop
 |a::ks,b::vs,ys,n,n'=> ∃y r m,ys=y::r/\S a b y n m/\n<=m/\DcV S ks vs r m n'
 |_,_,ys,n,n'=>ys=[]/\n'=n
theorem z0a: ∀ds:List D,Y6 (ds.map some)=some ds
 |[]=>rfl
 |d::ds=>by erw[b8,Y6,z0a ds,i9]
def zb9{S:D->D->D->Nat->Nat->Prop}{ks vs:List D}{kk:List Key}{g:Tg}{mk mv:M D}{fr:D->D->List (Option D)}{cap:List (Option D)}{k ol:Nat}{σ0 tm0:List (Option D)}(hl:vs.length=ks.length)(hkk:ks=kk.map X3)(hn:kk.Nodup)(hz:ks.length<qg)(hol:σ0.length=ol)
 (has: ∀a b,a∈ks->b∈vs->∀pre:List (Option D),pre.length=k->asg g (.tup [a,b]) (pre++cap)=some (fr a b++cap)) (hfr: ∀a b,(fr a b).length=k)
 (hmk: ∀a b,a∈ks->b∈vs->∀tm n,mk ⟨fr a b++cap,tm,n⟩= .ok a ⟨fr a b++cap,tm,n⟩)
 (hmv: ∀a b,a∈ks->b∈vs->∀tm n,∃n' y,n<=n'/\S a b y n n'/\mv ⟨fr a b++cap,tm,n⟩= .ok y ⟨fr a b++cap,tm,n'⟩):
 ∀f i acc pre n,i+f=ks.length->acc.length=i->pre.length=k->∃ys n',DcV S (ks.drop i) (vs.drop i) ys n n'/\
  zbY kDitp g mk mv ol f i (kk.take i) ⟨pre++cap,(acc.reverse.map some)++(σ0++(some (.fdc (.non::ks) vs)::tm0)),n⟩= .ok (.dct n' (.non::ks) (acc++ys)) ⟨σ0,tm0,n'+1⟩:=by
 have hkl:kk.length=ks.length:=by rw[hkk,i5]
 intro f
 induction f with
 |zero=>
  intro i acc pre n hi ha hp
  have hi:i=ks.length:=by lia
  refine⟨[],n, ?_, ?_⟩
  .rw[P7 (show ks.length<=i by lia)];exact⟨rfl,rfl⟩
  .have lt:(kk.take i).length=acc.length:=by rw[A3];lia
   have l1:(acc.reverse.map some).length=acc.length:=by simp
   have e1:((acc.reverse.map some)++(σ0++(some (.fdc (.non::ks) vs)::tm0))).drop (acc.length+ol)=some (.fdc (.non::ks) vs)::tm0:=by
    rw[<-A2];exact z0D _ _ _ (by simp[hol])
   have e0:kDitp.at' i (some (.fdc (.non::ks) vs)::tm0)=some none:=by
    show some (z69 i ks vs)=_
    rw[z9t hl,List.getElem?_eq_none (by rw[N7];lia)]
   unfold zbY
   erw[lt,e1,e0]
   rw[z2A _ _ _ l1]
   have e2:(acc.reverse.map some).reverse=acc.map some:=by simp
   rw[e2,z0a]
   have e3:kk.take i=kk:=D3 (by lia)
   simp only[e3,<-hkk,e8,Res.ok.injEq,Stt.mk.injEq,and_true,true_and]
   constructor
   .rw[z0D _ _ _ l1,z2A _ _ _ hol]
   .have:((acc.reverse.map some)++(σ0++(some (.fdc (.non::ks) vs)::tm0))).drop (acc.length+ol+kDitp.k)=(((acc.reverse.map some)++(σ0++(some (.fdc (.non::ks) vs)::tm0))).drop (acc.length+ol)).drop 1:=by rw[D2];rfl
    rw[this,e1];rfl
 |succ f ih=>
  intro i acc pre n hi ha hp
  have hk:i<ks.length:=by lia
  have hv:i<vs.length:=by lia
  have hkk':i<kk.length:=by lia
  have mk':=l6 hk
  have mv':=l6 hv
  have lt:(kk.take i).length=acc.length:=by rw[A3];lia
  have e1:((acc.reverse.map some)++(σ0++(some (.fdc (.non::ks) vs)::tm0))).drop (acc.length+ol)=some (.fdc (.non::ks) vs)::tm0:=by
   rw[<-A2];exact z0D _ _ _ (by simp[hol])
  have e0:kDitp.at' i (some (.fdc (.non::ks) vs)::tm0)=some (some (.tup [ks[i],vs[i]])):=by
   show some (z69 i ks vs)=_
   unfold z69
   rw[List.getElem?_eq_getElem hk,List.getElem?_eq_getElem hv]
  obtain⟨n2,y,hn2,hS,h2⟩:=hmv _ _ mk' mv' ((acc.reverse.map some)++(σ0++(some (.fdc (.non::ks) vs)::tm0))) n
  obtain⟨ys,n3,hV,h3⟩:=ih (i+1) (acc++[y]) (fr ks[i] vs[i]) n2 (by lia) (by simp;lia) (hfr _ _)
  refine⟨y::ys,n3, ?_, ?_⟩
  .rw[D0 hk,D0 hv]
   exact⟨y,ys,n2,rfl,hS,hn2,hV⟩
  .have ek:U5 ks[i]=some kk[i]:=by
    have:ks[i]=X3 kk[i]:=by erw[hkk,B7]
    rw[this,z0S]
   have ha':(((kk.take i).any λx=>decide (x=kk[i]))=false/\(kk.take i).length<qg):=by
    refine⟨?_,by rw[A3];lia⟩
    rw[S8]
    intro x hx
    erw[decide_eq_true_eq]
    rintro rfl
    obtain⟨j,hj,e⟩:=C9 hx
    rw[List.getElem_take] at e
    have hj':j<i:=by rw[A3] at hj;lia
    exact(List.pairwise_iff_getElem.mp hn) j i (by lia) hkk' hj' e
   unfold zbY
   erw[lt,e1,e0,has _ _ mk' mv' pre hp,hmk _ _ mk' mv',ek,h2]
   rw[lt] at ha'
   rw[qy ha']
   erw[n8,l8,C2,N8,F3,A9,L8,l5,B1,b8,l0,p9,A2] at h3
   rw[show kk.take i++[kk[i]]=kk.take (i+1) from by rw[B4 hkk']]
   exact h3
end Mi
set_option maxHeartbeats 1000000
namespace My
open PySem L2 Mi
def at0{a:D}{l:List D}:atI (a::l) 0=some a:=z0J (by decide) rfl
def at1{a b:D}{l:List D}:atI (a::b::l) 1=some b:=z0J (by decide) rfl
def at2{a b c:D}{l:List D}:atI (a::b::c::l) 2=some c:=z0J (by decide) rfl
def at3{a b c d:D}{l:List D}:atI (a::b::c::d::l) 3=some d:=z0J (by decide) rfl
def zjZ{i j:Int}{s:Stt}:eqD (.int i) (.int j) s= .ok (.bool (i==j)) s:=by
 rw[ziz (by simp[eqC,Mi.U4,er,PyData.canLay0,PyData.depth])];erw[er,PyData.eqv]
def Gd(t:D):Prop:=U4 t=true/\(er t).canLay0=true
def GdL(ds:List D):Prop:=plainL ds=true/\PyData.canLayAll0 (erL ds)=true
def GdL.cons:GdL (d::ds)↔Gd d/\GdL ds:=by
 erw[Gd,GdL,plainL,erL,PyData.canLayAll0,l9]
 constructor
 .rintro ⟨⟨a,b⟩,c,d⟩;exact⟨⟨a,c⟩,b,d⟩
 .rintro ⟨⟨a,c⟩,b,d⟩;exact⟨⟨a,b⟩,c,d⟩
def zhf(x:Str):D->Bool
 | .str y=>y==x
 |_=>false
def zhg(g:Gd t)(h:PyData.strOk x=true):eqD t (.str x) s= .ok (.bool (zhf x t)) s:=by
 have e:eqC t (.str x)=true:=by
  erw[eqC,g.1,g.2,Mi.U4,er,PyData.canLay0,h,C0,decide_eq_true_eq]
  simp[PyData.depth]
 rw[ziz e]
 cases t<;>simp[er,PyData.eqv,zhf]
def okB:PyData.strOk ("border" :Str)=true:=by decide+kernel
def z9u{a b:Int}:(a==b)=(b==a):=by rw[P8,beq_iff_eq,beq_iff_eq];exact eq_comm
def zl:qg=16777216:=rfl
section
variable{a b c d:D}{s:Stt}
def t1:x6 [a] s= .ok (.tup [a]) s:=zaY (by rw[zl];simp)
def t2:x6 [a,b] s= .ok (.tup [a,b]) s:=zaY (by rw[zl];simp)
def t3:x6 [a,b,c] s= .ok (.tup [a,b,c]) s:=zaY (by rw[zl];simp)
def t4:x6 [a,b,c,d] s= .ok (.tup [a,b,c,d]) s:=zaY (by rw[zl];simp)
def k0{σ tm:List (Option D)}{n:Nat}:lstM [] ⟨σ,tm,n⟩= .ok (.lst n []) ⟨σ,tm,n+1⟩:=z9j (by rw[zl];simp)
def k1{σ tm:List (Option D)}{n:Nat}:lstM [a] ⟨σ,tm,n⟩= .ok (.lst n [a]) ⟨σ,tm,n+1⟩:=z9j (by rw[zl];simp)
def k2{σ tm:List (Option D)}{n:Nat}:lstM [a,b] ⟨σ,tm,n⟩= .ok (.lst n [a,b]) ⟨σ,tm,n+1⟩:=z9j (by rw[zl];simp)
def k3{σ tm:List (Option D)}{n:Nat}:lstM [a,b,c] ⟨σ,tm,n⟩= .ok (.lst n [a,b,c]) ⟨σ,tm,n+1⟩:=z9j (by rw[zl];simp)
def k4{σ tm:List (Option D)}{n:Nat}:lstM [a,b,c,d] ⟨σ,tm,n⟩= .ok (.lst n [a,b,c,d]) ⟨σ,tm,n+1⟩:=z9j (by rw[zl];simp)
end
def BA{a b:Prop}(h:a)(k:b):a/\b:=⟨h,k⟩
noncomputable def B_0:=BA (BA (BA (BA (BA (BA @zjz (BA @zgR @z0I)) (BA (BA @z2i @zdY) (BA @zjy @zle))) (BA (BA @zjA (BA @z5m @zjB)) (BA (BA @ze0 @z4o) (BA @z5n @x_C)))) (BA (BA (BA @z9h (BA @zgS @zgT)) (BA (BA @zjC @zlf) (BA @zjD @zgU))) (BA (BA (BA @zjE @zgV) (BA @zlg @zlh)) (BA (BA @ze1 @z2j) (BA @zjF @zgW))))) (BA (BA (BA (BA @ze2 (BA @zjG @z9i)) (BA (BA @ze3 @ze4) (BA @zgX @zli))) (BA (BA (BA @zgY @zjI) (BA @zlj @zlk)) (BA (BA @zll @zjL) (BA @zjM @zjN)))) (BA (BA (BA @zjO (BA @zjP @zjQ)) (BA (BA @zh0 @zh1) (BA @zjR @zjS))) (BA (BA (BA @zjT @zh2) (BA @zh3 @ze6)) (BA (BA @zjU @z9k) (BA @z6h @zjV)))))) (BA (BA (BA (BA (BA @zlm (BA @zln @z9l)) (BA (BA @zh6 @zjX) (BA @z9m @ze8))) (BA (BA @z7s (BA @zdZ @z9g)) (BA (BA @b8.{0,0} @l0.{0,0}) (BA @l5.{0} @p9.{0})))) (BA (BA (BA @e8.{0} (BA @List.getElem?_cons_zero.{0} @List.getElem?_cons_succ.{0})) (BA (BA @List.getElem?_nil.{0} @C3.{0}) (BA @C4.{0} @l8.{0}))) (BA (BA (BA @C2.{0} @i9.{0,0}) (BA @u01.{0,0} @R7)) (BA (BA @I0 @beq_self_eq_true.{0}) (BA @N8 @S7))))) (BA (BA (BA (BA @t1 (BA @t2 @t3)) (BA (BA @t4 @k0) (BA @k1 @k2))) (BA (BA (BA @k3 @k4) (BA @D8 @D7)) (BA (BA @E5 @S9) (BA @u08 @C0)))) (BA (BA (BA @L1 (BA @D4 @at0)) (BA (BA @at1 @at2) (BA @at3 @zjZ))) (BA (BA (BA @z3g @z1c) (BA @z2s @z1V)) (BA (BA @zh7 @z9n) (BA @zea @z4p))))))
noncomputable def B_1:=BA @zaZ @zb0
local macro_rules | `(tactic| left) => `(tactic| (simp (config := { dsimp := false }) only [B_0, B_1, Y6, asg, asgL, m7, R8, R9, String.reduceBEq, S0]))
def Bg(c x:Int):Prop:=0<=c/\0<=x/\x<2147483647
def J5 l c x top n(h:Bg c x)(ht:0<top)(ht':top<1000000): ∃r c' x',0<=r/\r<top/\Bg c' x'/\y9 [.lst l [.int c, .int x], .int top] n= .ok (.int r) [.lst l [.int c', .int x'], .int top] n:=by
 delta y9 z4m
 obtain⟨h0,h1,h2⟩:=h
 by_cases hc:0<c
 .refine⟨c %top,c/top,x,E2 _ (by lia),D5 _ ht,⟨Int.ediv_nonneg h0 (by lia),h1,h2⟩, ?_⟩
  left
  erw[hc,decide_true]
  left
  rw[z3f ht]
  left
  rw[zc4 ⟨ht,by lia⟩]
  left
  rw[ze7 (j:=0) rfl (by simp[qq])]
  left
 .have hx0:=E2 (x*48271+7919) (show(2147483647:Int)≠0 by decide)
  have hx1:=D5 (x*48271+7919) (show(0:Int)<2147483647 by decide)
  generalize hy:(x*48271+7919) %2147483647=y at hx0 hx1
  refine⟨(y^(3:Int).toNat %2147483587/7*69621 %1073741789) %top,c,y,E2 _ (by lia),D5 _ ht,⟨h0,hx0,hx1⟩, ?_⟩
  left
  erw[hc,decide_false]
  left
  rw[z3M (.inl ⟨by lia,by lia⟩)]
  left
  rw[z3f (by decide),hy]
  left
  rw[ze7 (j:=1) rfl (by simp[qq])]
  left
  rw[ze5 ⟨by decide,by decide,by lia⟩]
  left
  rw[z3f (by decide)]
  left
  rw[zc4 ⟨by decide,by decide⟩]
  left
  rw[z3M (.inr ⟨by decide,by decide⟩)]
  left
  rw[z3f (by decide)]
  left
  rw[z3f ht]
  left
noncomputable def B_2:=BA (BA @z9p @z9q) (BA @zh8 @N9)
local macro_rules | `(tactic| left) => `(tactic| (simp (config := { dsimp := false }) only [B_0, B_1, B_2, Y6, asg, asgL, m7, R8, R9, String.reduceBEq, S0]))
def zc7{ns:List Int}{a:Nat}(h:a<ns.length):atI (ns.map D.int) (a:Int)=some (.int ns[a]):=z0J (by lia) (by simp[h])
def zhh(ns:List Int)(a n:Nat)(ha:a<1000)(hl:ns.length<1000): ∃c x,Bg c x/\z3a [.ro (ns.map .int), .int a] n= .ok (.lst n [.int c, .int x]) [.ro (ns.map .int), .int a] (n+1):=by
 delta z3a z6g
 left
 have key: ∃c:Int,0<=c/\zgj (decide ((a:Int)<((ns.map D.int).length:Int))) (J8 (Tg.nm 2) (mCB [y8 (y0 0) (y0 1) ixD] zeL)) sNx ⟨[some (.ro (ns.map .int)),some (.int a),some (.int 0),none,none],[some (.ro (ns.map .int)),some (.int a)],n⟩= .nx ⟨[some (.ro (ns.map .int)),some (.int a),some (.int c),none,none],[some (.ro (ns.map .int)),some (.int a)],n⟩:=by
  by_cases h:a<ns.length
  .refine⟨if ns[a]<0 then -ns[a] else ns[a], ?_, ?_⟩
   rotate_left
   .rw[show decide ((a:Int)<((ns.map D.int).length:Int))=true by simp[h]]
    left
    rw[zc7 h]
    left
   .split<;>lia
  .refine⟨0,by decide, ?_⟩
   rw[show decide ((a:Int)<((ns.map D.int).length:Int))=false by simp;lia]
   left
 obtain⟨c,hc,e1⟩:=key
 rw[e1]
 left
 rw[z3f (by decide)]
 left
 rw[z3M (.inl ⟨by decide,by decide⟩)]
 left
 have q0:=E2 c (show(2147483629:Int)≠0 by decide)
 have q1:=D5 c (show(0:Int)<2147483629 by decide)
 rw[ze5 ⟨by decide,by decide,by lia⟩]
 left
 rw[z3f (by decide)]
 left
 have w0:((ns.map D.int).length:Int)=ns.length:=by simp
 rw[w0]
 generalize hk:(if(60:Int)<(ns.length:Int) then(60:Int) else(ns.length:Int))=k
 have hk0:0<=k/\k<=60/\k<=ns.length:=by split at hk<;>lia
 rw[z3N ⟨by lia,by lia⟩]
 left
 have p0:=E2 ((c %2147483629+104729*(a:Int)+17)^(5:Int).toNat) (show(2147483647:Int)≠0 by decide)
 have p1:=D5 ((c %2147483629+104729*(a:Int)+17)^(5:Int).toNat) (show(0:Int)<2147483647 by decide)
 generalize (c %2147483629+104729*(a:Int)+17)^(5:Int).toNat %2147483647=x0 at p0 p1
 obtain⟨s',e2,x,o,hx0,hx1,rfl⟩:=z3h (P:=λi s=> ∃(x:Int) (o:Option D),0<=x/\x<2147483647/\s=⟨[some (.ro (ns.map .int)),some (.int a),some (.int c),some (.int x),o],[some (.ro (ns.map .int)),some (.int a)],n⟩) (lo:=0) (N:=k.toNat) (g:= .nm 4) (b:=J8 (.nm 3) (y8 (y8 (y8 (y8 (y0 3) (mC (.int 48271)) z6c) (y8 (y8 (y8 (y0 0) (y0 4) ixD) (mC (.int 2147483587)) z3o) (y8 (y0 4) (mC (.int 3)) K9) z6c) K9) (y0 4) K9) (mC (.int 2147483629)) z3o)) (by
  rintro i hi s ⟨x,o,h0,h1,rfl⟩
  have hi':i<ns.length:=by lia
  refine⟨[some (.ro (ns.map .int)),some (.int a),some (.int c),some (.int x),some (.int i)],by erw[N9];rfl, ?_⟩
  refine⟨⟨[some (.ro (ns.map .int)),some (.int a),some (.int c),some (.int ((x*48271+ns[i] %2147483587*(i+3)+i) %2147483629)),some (.int i)],[some (.ro (ns.map .int)),some (.int a)],n⟩, ?_, ?_⟩
  .left
   rw[z3M (.inl ⟨by lia,by lia⟩)]
   left
   rw[zc7 hi']
   left
   rw[z3f (by decide)]
   left
   rw[z3M (.inr ⟨by lia,by lia⟩)]
   left
   rw[z3f (by decide)]
   left
  .have r0:=E2 (x*48271+ns[i] %2147483587*(i+3)+i) (show(2147483629:Int)≠0 by decide)
   have r1:=D5 (x*48271+ns[i] %2147483587*(i+3)+i) (show(0:Int)<2147483629 by decide)
   exact⟨_,_,r0,by lia,rfl⟩) k.toNat 0 ⟨[some (.ro (ns.map .int)),some (.int a),some (.int c),some (.int x0),none],[some (.ro (ns.map .int)),some (.int a)],n⟩ (by lia) ⟨x0,none,p0,p1,rfl⟩
 rw[e2]
 left
 rw[ze5 ⟨by decide,by decide,by decide⟩]
 left
 by_cases h:c<10^(18:Int).toNat
 .refine⟨0,x,⟨by decide,hx0,hx1⟩, ?_⟩
  erw[h,decide_true]
  left
 .refine⟨c,x,⟨hc,hx0,hx1⟩, ?_⟩
  erw[h,decide_false]
  left
def z1y{l k:Nat}(h:k≠l):rp (pl l d) (.lst k ds)= .lst k (rpL (pl l d) ds):=by erw[rp,pl,qh h]
def Up(m:Nat)(t:D):Prop:= ∀k∈qq t,k<m
def zhi{α:Type}{ds:List α}{r:Int}(h0:0<=r)(h1:r<ds.length): ∃d∈ds,atI ds r=some d:=by
 have h:r.toNat<ds.length:=by lia
 exact⟨ds[r.toNat],l6 h,z0J h0 (by simp[h])⟩
theorem qv{k:Nat}: ∀{es:List D},k∈qx es->∃e∈es,k∈qq e
 |e::es,h=>by
  erw[qx,e9] at h
  rcases h with h|h
  .exact⟨e,c9,h⟩
  .obtain⟨e',h1,h2⟩:=qv h
   exact⟨e',b7 _ h1,h2⟩
def z5t{m l:Nat}(hl:l<m)(h: ∀e∈es,Up m e):Up m (.lst l es):=λk hk=>by
 erw[qq,c8] at hk
 rcases hk with rfl|hk
 .exact hl
 .obtain⟨e,h1,h2⟩:=qv hk
  exact h e h1 k h2
theorem z4q{k:Nat}: ∀{es:List D} {e:D},e∈es->k∈qq e->k∈qx es
 |e::es,x,h,hk=>by
  erw[qx,e9]
  rcases c8.mp h with rfl|h
  .exact .inl hk
  .exact .inr (z4q h hk)
def U3{f:Nat->Option D}{o:Option D}{r:List (Option D)}:rpO f (o::r)=o.map (rp f)::rpO f r:=by cases o<;>rfl
def UpO(n:Nat)(o:Option D):Prop:= ∀d,o=some d->Up n d
def UpO.fix{n:Nat}(h:UpO n o) d:m9 (rp (pl n d)) o=o:=by
 cases o with
 |none=>rfl
 |some t=>erw[i9];rw[Z5 λm=>A8 _ (h t rfl n m)]
def zk0{i j:Int}{s:Stt}:neD (.int i) (.int j) s= .ok (.bool (!(i==j))) s:=by
 rw[zjJ (by simp[eqC,Mi.U4,er,PyData.canLay0,PyData.depth])];erw[er,PyData.eqv]
inductive Wi where
 |bor (g:Int)|joi (g:Int)|spn (i j:Int)|hld (i j:Int) (bs:List Int)
noncomputable def iL(bs:List Int):List D:=bs.map D.int
def Wi.d:Wi->D
 | .bor g=> .tup [.str "border", .int g]
 | .joi g=> .tup [.str "joined", .int g]
 | .spn i j=> .tup [.str "span", .int i, .int j]
 | .hld i j bs=> .tup [.str "held", .int i, .int j, .tup (iL bs)]
def Wi.ok:Wi->Prop
 | .bor g=>0<=g/\g<=100
 | .joi g=>0<=g/\g<=100
 | .spn i j=>0<=i/\i<j/\j<=100
 | .hld i j bs=>(0<=i/\i<j/\j<=100)/\bs.length<=24
theorem z9v: ∀{ds:List D},(∀d∈ds,∃i:Int,d= .int i)->∃bs,ds=iL bs
 |[],_=>⟨[],rfl⟩
 |d::ds,h=>by
  obtain⟨i,rfl⟩:=h d (by simp)
  obtain⟨bs,rfl⟩:=z9v (ds:=ds) λd hd=>h d (by simp[hd])
  exact⟨i::bs,rfl⟩
noncomputable def B_3:=BA (BA (BA (BA @qg1 @qg2) (BA @qg3 (BA @qg4 @qg5))) (BA (BA @qg6 (BA @qg7 @qg9)) (BA @qh1 (BA @qh2 @qh3)))) (BA (BA (BA @qh4 (BA @qh5 @qh6)) (BA @zlo (BA @zlp @zlq))) (BA (BA @zkL (BA @zkM @zlr)) (BA @zjY (BA @z5s @zec))))
noncomputable def B_4:=BA (BA @zeb (BA @zb3 @zb4)) (BA @zb5 (BA @zk0 @U3))
local macro_rules | `(tactic| left) => `(tactic| (simp (config := { dsimp := false }) only [B_0, B_2, ↓B_3, B_4, Y6, asg, asgL, m7, R8, R9, String.reduceBEq, S0]))
def bj:(("joined" :Str)==("border" :Str))=false:=by decide+kernel
def sb:(("span" :Str)==("border" :Str))=false:=by decide+kernel
def sj:(("span" :Str)==("joined" :Str))=false:=by decide+kernel
def hb:(("held" :Str)==("border" :Str))=false:=by decide+kernel
def hj:(("held" :Str)==("joined" :Str))=false:=by decide+kernel
def hs:(("held" :Str)==("span" :Str))=false:=by decide+kernel
def bh:(("border" :Str)==("held" :Str))=false:=by decide+kernel
def jh:(("joined" :Str)==("held" :Str))=false:=by decide+kernel
def sh:(("span" :Str)==("held" :Str))=false:=by decide+kernel
def z2t:PyData.strOk ("joined" :Str)=true:=by decide+kernel
def z5u:PyData.strOk ("span" :Str)=true:=by decide+kernel
def z5v:PyData.strOk ("held" :Str)=true:=by decide+kernel
noncomputable def z0m(lo:Int)(n:Nat):List Int:=(B3 n).map λ(k:Nat)=>lo+(k:Int)
def z3P lo n:U8 lo n=iL (z0m lo n):=by erw[U8,iL,z0m,A4];rfl
def Wi.wants:Wi->List Int
 | .bor g=>[g]
 | .joi _=>[]
 | .spn i j=>[i,j]
 | .hld i j _=>[i,j]
def Wi.bars:Wi->List Int
 | .bor _=>[]
 | .joi g=>[g]
 | .spn i j=>z0m (i+1) (j -(i+1)).toNat
 | .hld i j _=>z0m (i+1) (j -(i+1)).toNat
def uc4:z5Z [a,b,c,d] (some 1) (some 3)=[b,c]:=rfl
def Wi.isH:Wi->Bool
 | .hld _ _ _=>true
 |_=>false
def Wi.kd:Wi->Str
 | .bor _=> "border" | .joi _=> "joined" | .spn _ _=> "span" | .hld _ _ _=> "held"
def qs(hx:PyData.strOk x=true)(hy:PyData.strOk y=true):eqD (.str y) (.str x) s= .ok (.bool (y==x)) s:=by
 rw[zhg (t:= .str y) ⟨rfl,hy⟩ hx];rfl
def zkN{i j:Int}{n:Nat}(h:(-(2^62)<=i/\i<2^62/\-(2^62)<=j/\j<2^62)/\(j -i).toNat<=qg):lrM [.int i, .int j] ⟨σ,tm,n⟩= .ok (.lst n (U8 i (j -i).toNat)) ⟨σ,tm,n+1⟩:=by
 erw[lrM,qy h];rfl
theorem z02: ∀bs:List Int,plainL (iL bs)=true/\PyData.canLayAll0 (erL (iL bs))=true/\PyData.depthAll (erL (iL bs))=0
 |[]=>⟨rfl,rfl,rfl⟩
 |b::bs=>by
  obtain⟨h1,h2,h3⟩:=z02 bs
  refine⟨?_, ?_, ?_⟩
  .show plainL (.int b::iL bs)=true
   erw[plainL,Mi.U4,h1,B0]
  .show PyData.canLayAll0 (erL (.int b::iL bs))=true
   erw[erL,er,PyData.canLayAll0,PyData.canLay0,h2,B0]
  .show PyData.depthAll (erL (.int b::iL bs))=0
   erw[erL,er,PyData.depthAll,PyData.depth,h3];rfl
theorem z4r(p:Int): ∀bs:List Int,((erL (iL bs)).any λy=>PyData.eqv y (er (.int p)))=bs.contains p
 |[]=>rfl
 |b::bs=>by
  have ih:=z4r p bs
  show((erL (.int b::iL bs)).any λy=>PyData.eqv y (er (.int p)))=_
  erw[erL,F7,ih,List.contains_cons]
  congr 1
  erw[er,PyData.eqv]
  exact z9u
def z9w{p:Int}{l:Nat}{bs:List Int}:inD (.int p) (.lst l (iL bs)) s= .ok (.bool (bs.contains p)) s:=by
 obtain⟨h1,h2,h3⟩:=z02 bs
 rw[zkJ (ds:=iL bs) rfl (by erw[inC,h1,h2,h3,Mi.U4,er,PyData.canLay0,B0,C0];rfl),z4r]
def inB(bs:List Int):D->Bool
 | .int p=>bs.contains p
 |_=>false
def z9x(w:Wi):w.wants.length<=2:=by cases w<;>simp[Wi.wants]
def zba(h:d∈iL bs): ∃p,d= .int p:=by
 obtain⟨p,_,rfl⟩:=i0.mp h;exact⟨p,rfl⟩
def z0n(ds:List D):ds.filter (λ_=>true)=ds:=F4.mpr λ_ _=>rfl
def zhj(w:Wi):ixD w.d (.int 0) s= .ok (.str w.kd) s:=by
 cases w<;>erw[Wi.d,Wi.kd]<;>left
def zhk(w:Wi):eqD (.str w.kd) (.str "held") s= .ok (.bool w.isH) s:=by
 cases w<;>erw[Wi.kd,Wi.isH,qs z5v okB,qs z5v z2t,qs z5v z5u,qs z5v z5v,bh,jh,sh,beq_self_eq_true]
def eqP(a b:D):Bool:=PyData.eqv (er a) (er b)
def zc8{i j i' j':Int}:eqD (.tup [.int i, .int j]) (.tup [.int i', .int j']) s= .ok (.bool (eqP (.tup [.int i, .int j]) (.tup [.int i', .int j']))) s:=by
 rw[ziz (by simp[eqC,Mi.U4,plainL,er,erL,PyData.canLay0,PyData.canLayAll0,PyData.depth,PyData.depthAll])];rfl
def z5w{w:Wi}(h:w.isH=true): ∃i j bs,w= .hld i j bs:=by cases w<;>simp[Wi.isH] at h;exact⟨_,_,_,rfl⟩
structure Pz where
 e:Int
 ss:List Int
 k:Int
 c:Int
def Pz.d(p:Pz):D:= .tup [.int p.e, .tup (iL p.ss), .int p.k, .int p.c]
def Pz.ok(m b:Int)(p:Pz):Prop:=b<p.e/\p.e<=m/\p.ss.length<=24/\0<=p.k/\p.k<=8
def kpB(b:Int)(p:Pz):Wi->Bool
 | .bor g=> !(decide (b<g)&&decide (g<p.e))
 | .joi g=> !(b==g)&& !(p.e==g)
 | .spn i j=>(decide (p.e<=i)||decide (j<=b))||(b==i&&p.e==j)
 | .hld i j bs=>(decide (p.e<=i)||decide (j<=b))||(b==i&&p.e==j&&eqP (.tup (iL p.ss)) (.tup (iL bs)))
def zk1:eqD (.tup (iL bs)) (.tup (iL bs')) s= .ok (.bool (eqP (.tup (iL bs)) (.tup (iL bs')))) s:=by
 obtain⟨a1,a2,a3⟩:=z02 bs
 obtain⟨b1,b2,b3⟩:=z02 bs'
 rw[ziz (by simp[eqC,Mi.U4,er,PyData.canLay0,PyData.depth,a1,a2,a3,b1,b2,b3])];rfl
def zbb(w:Wi) b(p:Pz) n:X1 [w.d, .int b,p.d] n= .ok (.bool (kpB b p w)) [w.d, .int b,p.d] n:=by
 delta X1 z39
 cases w with
 |bor g=>
  erw[Wi.d,Pz.d]
  left
  rw[qs okB okB]
  left
  cases h:decide (b<g) with
  |true=>
   left
   erw[kpB,h,C0]
  |false=>
   left
   erw[kpB,h,D4,I0]
 |joi g=>
  erw[Wi.d,Pz.d]
  left
  rw[qs okB z2t,bj]
  left
  rw[qs z2t z2t]
  left
  cases h:(b==g) with
  |true=>
   left
   erw[kpB,h,R7,D4]
  |false=>
   left
   erw[kpB,h,I0,C0]
 |spn i j=>
  erw[Wi.d,Pz.d]
  left
  rw[qs okB z5u,sb]
  left
  rw[qs z2t z5u,sj]
  left
  cases h:decide (p.e<=i) with
  |true=>
   left
   erw[kpB,h,E5]
  |false=>
  left
  cases h':decide (j<=b) with
  |true=>
   left
   erw[kpB,h,h',S9,E5]
  |false=>
  left
  cases h2:(b==i) with
  |false=>
   left
   erw[kpB,h,h',h2,D8,D4]
  |true=>
  left
  cases h3:(p.e==j) with
  |false=>
   left
   erw[kpB,h,h',h2,h3,D8,L1]
  |true=>
  left
  rw[qs z5u z5u]
  left
  erw[kpB,h,h',h2,h3,D7,B0]
 |hld i j bs=>
  erw[Wi.d,Pz.d]
  left
  rw[qs okB z5v,hb]
  left
  rw[qs z2t z5v,hj]
  left
  cases h:decide (p.e<=i) with
  |true=>
   left
   erw[kpB,h,E5]
  |false=>
  left
  cases h':decide (j<=b) with
  |true=>
   left
   erw[kpB,h,h',S9,E5]
  |false=>
  left
  cases h2:(b==i) with
  |false=>
   left
   erw[kpB,h,h',h2,D8,D4]
  |true=>
  left
  cases h3:(p.e==j) with
  |false=>
   left
   erw[kpB,h,h',h2,h3,D8,L1,D4]
  |true=>
  left
  rw[qs z5u z5v,hs]
  left
  rw[zk1]
  left
  erw[kpB,h,h',h2,h3,D7,B0,C0]
def mem_range{lo x:Int}{n:Nat}:(z0m lo n).contains x=decide (lo<=x/\x<lo+n):=by
 rw[P8]
 erw[z0m,t7,i0,O1,decide_eq_true_eq]
 constructor
 .rintro ⟨k,hk,rfl⟩;lia
 .rintro ⟨h1,h2⟩;exact⟨(x -lo).toNat,by lia,by lia⟩
def unI:D->Int
 | .int i=>i
 |_=>0
def unP:D->Pz
 | .tup [.int e, .tup ds, .int k, .int c]=>⟨e,ds.map unI,k,c⟩
 |_=>⟨0,[],0,0⟩
def zc9 bs:(iL bs).map unI=bs:=by
 erw[iL,A4]
 exact(A7 λ_ _=>rfl).trans (T9 _)
def z9y(p:Pz):unP p.d=p:=by
 cases p
 erw[Pz.d,unP,zc9]
def unW:D->Wi
 | .tup [.str k, .int g]=>if k== "border" then .bor g else .joi g
 | .tup [.str _, .int i, .int j]=> .spn i j
 | .tup [.str _, .int i, .int j, .tup ds]=> .hld i j (ds.map unI)
 |_=> .bor 0
def zhl(w:Wi):unW w.d=w:=by
 cases w with
 |bor g=>rfl
 |joi g=>erw[Wi.d,unW,bj];rfl
 |spn i j=>rfl
 |hld i j bs=>erw[Wi.d,unW,zc9]
def wsD(W:List Wi):List D:=W.map Wi.d
def psD(ps:List Pz):List D:=ps.map Pz.d
def keep(W:List Wi)(b:Int)(ps:List Pz):List Pz:=ps.filter λp=>W.all (kpB b p)
def zef W b ps:((psD ps).filter λd=>W.all (kpB b (unP d))).map id=psD (keep W b ps):=by
 rw[T9]
 delta psD keep
 rw[u02]
 congr 1
 exact List.filter_congr λp _=>by erw[Function.comp,z9y]
def zeg{me:M D}{PL:Nat->List D->Prop}{L:Nat}{ds:List D}{ix:List Nat}{n:Nat}(hc:Y0 ms s= .ok [.lst L ds] ⟨σ,tm,n⟩)(hz:ds.length<qg)(h0:PL n [])
 (hme: ∀acc (hi:acc.length<ds.length) tm m,PL m acc->∃y n',PL n' (acc++[y])/\me ⟨some (.int (acc.length:Nat))::some ds[acc.length]::(ix.map λi=>(σ[i]?).getD none),tm,m⟩= .ok y ⟨some (.int (acc.length:Nat))::some ds[acc.length]::(ix.map λi=>(σ[i]?).getD none),tm,n'⟩):
 ∃ys n',ys.length=ds.length/\PL n' ys/\Y7 (z1N ms) (.tp [.nm 0, .nm 1]) (rt true) me 2 ix s= .ok (.lst n' ys) ⟨σ,tm,n'+1⟩:=by
 have hl:(ds.mapIdx λi d=>D.tup [.int i,d]).length=ds.length:=by simp
 obtain⟨ys,_,n',⟨h1,h2⟩,h3⟩:=z2l (mi:=z1N ms) (K:=z66) (g:= .tp [.nm 0, .nm 1]) (mt:=rt true) (me:=me) (items:=ds.mapIdx λi d=> .tup [.int i,d]) (its:=[some (.lst L ds)]) (ix:=ix) (k:=2) (β:=Unit) (cap:=λ_=>ix.map λi=>(σ[i]?).getD none) (σ:=λ_=>σ) (tm:=λ_=>tm) (λd=>match d with| .tup [x,y]=>[some x,some y]|_=>[none,none])
  (λi m acc _=>acc.length=i/\PL m acc) (s:=s) (b:=()) (n:=n) (λ_=>rfl) (by delta z1N;rw[zgR,hc];rfl) rfl (λ_=>rfl) (by rw[hl];exact hz) (λi rest=>by show some ((ds[i]?).map _)=_;rw[List.getElem?_mapIdx]) (by rw[hl];rfl) (λd hd b=>by
   obtain⟨i,hi,rfl⟩:=u03.mp hd
   exact zkK) (λd hd=>by
   obtain⟨i,hi,rfl⟩:=u03.mp hd
   rfl) ⟨rfl,h0⟩ (by
    rintro i hi acc _ m ha ⟨rfl,q⟩
    rw[hl] at hi
    obtain⟨y,n',h1,h2⟩:=hme acc hi (acc.reverse.map some++(σ++(some (.lst L ds)::tm))) m q
    rw[F5]
    exact⟨true,m,rfl, .inr ⟨rfl,y,(),n',⟨by simp,h1⟩,h2⟩⟩)
 exact⟨ys,n',h1.trans hl,h2,h3⟩
def zhm W b(p:Pz):List.all (T0 (λd=>kpB b p (unW d)) (wsD W)) id=W.all (kpB b p):=by
 erw[wsD,A4,u0c]
 congr 1
 funext w
 erw[Function.comp,zhl,id]
def zeh W K l(hW:W.length<=100) b ps(hl:ps.length<=200) tm n: ∃n',n<=n'/\Y7 (Q5 (y0 1)) (.nm 0) (J3 (mCB [(Y7 (Q5 (y0 2)) (.nm 0) (rt true) (Z0 X1 [(y0 0),(y0 1),(y0 2)]) 1 [1,0])] za0)) (y0 0) 1 [0,2] ⟨[some (.int b),some (.lst l (psD ps)),some (.lst K (wsD W))],tm,n⟩= .ok (.lst n' (psD (keep W b ps))) ⟨[some (.int b),some (.lst l (psD ps)),some (.lst K (wsD W))],tm,n'+1⟩:=by
 obtain⟨n',h1,h2⟩:=z0l (mc:=y0 1) (mt:=J3 (mCB [(Y7 (Q5 (y0 2)) (.nm 0) (rt true) (Z0 X1 [(y0 0),(y0 1),(y0 2)]) 1 [1,0])] za0)) (me:=y0 0) (p:=λd=>W.all (kpB b (unP d))) (g:=id) (l:=l) (ds:=psD ps) (ix:=[0,2]) (s:=⟨[some (.int b),some (.lst l (psD ps)),some (.lst K (wsD W))],tm,n⟩) (σ:=[some (.int b),some (.lst l (psD ps)),some (.lst K (wsD W))]) (tm:=tm) (n:=n)
  (by left) (by rw[zl];erw[psD,i5];lia) (λd hd tm n=>by
   obtain⟨p,_,rfl⟩:=i0.mp hd
   erw[b8,l0,List.getElem?_cons_zero,List.getElem?_cons_succ,l7,z9y]
   obtain⟨n',h1,h2⟩:=z0l (mc:=y0 2) (mt:=rt true) (me:=Z0 X1 [(y0 0),(y0 1),(y0 2)]) (p:=λ_=>true) (g:=λd=> .bool (kpB b p (unW d))) (l:=K) (ds:=wsD W) (ix:=[1,0]) (s:=⟨[some p.d,some (.int b),some (.lst K (wsD W))],tm,n⟩) (σ:=[some p.d,some (.int b),some (.lst K (wsD W))]) (tm:=tm) (n:=n)
    (by left) (by rw[zl];erw[wsD,i5];lia) (λd _ tm n=>⟨n,b9 _,rfl⟩) (λd hd _ tm n=>by
     obtain⟨w,_,rfl⟩:=i0.mp hd
     refine⟨n,b9 _, ?_⟩
     erw[b8,l0,List.getElem?_cons_zero,List.getElem?_cons_succ,l7,zhl]
     left
     rw[zbb]
     left)
   refine⟨n'+1,by lia, ?_⟩
   rw[zgS,zjF,z5s,h2,z0n]
   left
   rw[zh4 (z1U _ λd=>kpB b p (unW d)),zhm]
   left) (λd hd _ tm n=>⟨n,b9 _,by left;rfl⟩)
 rw[zef] at h2
 exact⟨n',h1,h2⟩
def nD(N:List (Nat×List Pz)):List D:=N.map λq=> .lst q.1 (psD q.2)
def thA(W:List Wi)(X:List (List Pz)):List (List Pz):=X.mapIdx λi ps=>keep W (i:Nat) ps
def zbc{X:List (List Pz)}{i:Nat}(h:i<X.length):(thA W X).take (i+1)=(thA W X).take i++[keep W (i:Nat) X[i]]:=by
 rw[T1]
 congr 1
 erw[thA,List.getElem?_mapIdx,List.getElem?_eq_getElem h,i9,Option.toList_some]
def Lb(lo hi:Nat)(N:List (Nat×List Pz)):Prop:= ∀q∈N,lo<=q.1/\q.1<hi
def zei W K L(hW:W.length<=100)(N:List (Nat×List Pz))(hN:N.length<=100)(hP: ∀q∈N,q.2.length<=200) n: ∃N' n',n<=n'/\N'.map (·.2)=thA W (N.map (·.2))/\Lb n n' N'/\Q8 [.lst L (nD N), .lst K (wsD W)] n= .ok (.lst n' (nD N')) [.lst L (nD N), .lst K (wsD W)] (n'+1):=by
 delta Q8 z1v
 have ln:(nD N).length=N.length:=by simp[nD]
 obtain⟨ys,n',g0,⟨g1,N',rfl,g2,g3⟩,h3⟩:=zeg (ms:=[y0 0]) (me:=(Y7 (Q5 (y0 1)) (.nm 0) (J3 (mCB [(Y7 (Q5 (y0 2)) (.nm 0) (rt true) (Z0 X1 [(y0 0),(y0 1),(y0 2)]) 1 [1,0])] za0)) (y0 0) 1 [0,2])) (PL:=λm acc=>n<=m/\∃N',acc=nD N'/\N'.map (·.2)=(thA W (N.map (·.2))).take acc.length/\Lb n m N') (L:=L) (ds:=nD N) (ix:=[1]) (s:=⟨[some (.lst L (nD N)),some (.lst K (wsD W))],[some (.lst L (nD N)),some (.lst K (wsD W))],n⟩) (σ:=[some (.lst L (nD N)),some (.lst K (wsD W))]) (tm:=[some (.lst L (nD N)),some (.lst K (wsD W))]) (n:=n) (by left) (by rw[zl,ln];lia)
  ⟨b9 _,[],rfl,by simp,by intro q hq;cases hq⟩ (by
   rintro acc hi tm m ⟨q1,N',rfl,q2,q3⟩
   have hi':(nD N').length<N.length:=by rw[<-ln];exact hi
   have e:(nD N)[(nD N').length]= .lst N[(nD N').length].1 (psD N[(nD N').length].2):=by simp[nD]
   erw[e,b8,l0,List.getElem?_cons_zero,List.getElem?_cons_succ,l7]
   obtain⟨n1,h1,h2⟩:=zeh W K N[(nD N').length].1 hW ((nD N').length:Nat) N[(nD N').length].2 (hP _ (l6 _)) tm m
   refine⟨_,_,⟨by lia,N'++[(n1,keep W ((nD N').length:Nat) N[(nD N').length].2)], ?_, ?_, ?_⟩,h2⟩
   .erw[nD,B1,b8,l0]
   .rw[B1,q2,n8,R3,zbc (by simpa using hi')]
    simp
   .intro q hq
    rcases e9.mp hq with hq|hq
    .have:=q3 q hq;exact⟨this.1,by lia⟩
    .rw[i4.mp hq];exact⟨by lia,by lia⟩)
 refine⟨N',n',g1, ?_,g3, ?_⟩
 .rw[g2,g0,ln,D3 (by simp[thA])]
 .left
  rw[h3]
  left
theorem z3k{K:ItK}{g:Tg}{b:MS}{P:Nat->Stt->Prop}{item:Nat->D}{N:Nat}(hat: ∀i s,P i s->K.at' i s.tm=some (if i<N then some (item i) else none))
 (body: ∀i,i<N->∀s,P i s->∃σ',asg g (item i) s.σ=some σ'/\∃s',b {s with σ:=σ'}= .nx s'/\P (i+1) s'):
 ∀(f i:Nat) (s:Stt),i+f=N->P i s->∃s',forGo K g b f i s= .nx (s'.popn K.k)/\P N s'
 |0,i,s,hi,h=>by
  have e:i=N:=by lia
  subst e
  exact⟨s,zed (by rw[hat i s h,qh (A8 _)]),h⟩
 |f+1,i,s,hi,h=>by
  obtain⟨σ',h1,s1,h2,h3⟩:=body i (by lia) s h
  obtain⟨s2,h4,h5⟩:=z3k hat body f (i+1) s1 (by lia) h3
  exact⟨s2,by rw[zb6 (by rw[hat i s h,qy (by lia)]) h1 h2,h4],h5⟩
def z4s{k:Nat}{L:Nat}(hL:L<k)(h: ∀q∈N,q.1<k):Up k (.lst L (nD N)):=z5t hL λe he=>by
 obtain⟨q,hq,rfl⟩:=i0.mp he
 refine z5t (h q hq) λe he j hj=> ?_
 obtain⟨p,_,rfl⟩:=i0.mp he
 have e0: ∀bs:List Int,qx (iL bs)=[]:=λbs=>by
  induction bs with
  |nil=>rfl
  |cons b bs ih=>erw[iL,b8,qx,qq] at ih⊢;simpa using ih
 erw[Pz.d,qq,qx,e0,e8] at hj
 cases hj
def z9z(w:Wi):qq w.d=[]:=by
 have e0: ∀bs:List Int,qx (iL bs)=[]:=λbs=>by
  induction bs with
  |nil=>rfl
  |cons b bs ih=>erw[iL,b8,qx,qq] at ih⊢;simpa using ih
 cases w<;>erw[Wi.d,qq,qx,e0,e8]
def zk2{k:Nat}{L:Nat}(hL:L<k):Up k (.lst L (wsD W)):=z5t hL λe he j hj=>by
 obtain⟨w,_,rfl⟩:=i0.mp he
 rw[z9z] at hj;cases hj
def z0E ps:qx (psD ps)=[]:=by
 have e0: ∀bs:List Int,qx (iL bs)=[]:=λbs=>by
  induction bs with
  |nil=>rfl
  |cons b bs ih=>erw[iL,b8,qx,qq] at ih⊢;simpa using ih
 induction ps with
 |nil=>rfl
 |cons p ps ih=>
  erw[psD,b8,qx,Pz.d,qq,e0,e8] at ih⊢
  exact ih
def z1e{N:List (Nat×List Pz)}:(nD N).length=N.length:=by simp[nD]
def UpO.of{k:Nat}(h:Up k d):UpO k (some d):=λx hx=>by cases hx;exact h
def zej{M:List (Nat×List Pz)}{l:Nat}{X:List Pz}:nD (M++[(l,X)])=nD M++[.lst l (psD X)]:=by simp[nD]
def z9A{K:ItK}{me:M D}{PL:Nat->List D->Prop}{items:List D}{its:List (Option D)}{ix:List Nat}{n:Nat}(hc:mi s= .ok K ⟨σ,its++tm,n⟩)(hk:its.length=K.k)(hz:items.length<qg)(hat: ∀i rest,K.at' i (its++rest)=some items[i]?)(hlen:K.len (its++tm)=items.length)(h0:PL n [])
 (hme: ∀acc (hi:acc.length<items.length) tm m,PL m acc->∃y n',PL n' (acc++[y])/\me ⟨some items[acc.length]::(ix.map λi=>(σ[i]?).getD none),tm,m⟩= .ok y ⟨some items[acc.length]::(ix.map λi=>(σ[i]?).getD none),tm,n'⟩):
 ∃ys n',ys.length=items.length/\PL n' ys/\Y7 mi (.nm 0) (rt true) me 1 ix s= .ok (.lst n' ys) ⟨σ,tm,n'+1⟩:=by
 obtain⟨ys,_,n',⟨h1,h2⟩,h3⟩:=z2l (mi:=mi) (g:= .nm 0) (mt:=rt true) (me:=me) (ix:=ix) (k:=1) (β:=Unit) (cap:=λ_=>ix.map λi=>(σ[i]?).getD none) (σ:=λ_=>σ) (tm:=λ_=>tm) (λd=>[some d])
  (λi m acc _=>acc.length=i/\PL m acc) (s:=s) (b:=()) (n:=n) (λ_=>rfl) hc hk (λ_=>rfl) hz hat hlen (λd _ b=>zeP) (λ_ _=>rfl) ⟨rfl,h0⟩ (by
   rintro i hi acc _ m ha ⟨rfl,q⟩
   obtain⟨y,n',h1,h2⟩:=hme acc hi (acc.reverse.map some++(σ++(its++tm))) m q
   exact⟨true,m,rfl, .inr ⟨rfl,y,(),n',⟨by simp,h1⟩,h2⟩⟩)
 exact⟨ys,n',h1,h2,h3⟩
def zek ps:GdL (psD ps)/\PyData.depthAll (erL (psD ps))<=2:=by
 induction ps with
 |nil=>exact⟨⟨rfl,rfl⟩,by simp[psD,erL,PyData.depthAll]⟩
 |cons p ps ih=>
  obtain⟨a1,a2,a3⟩:=z02 p.ss
  have g:Gd p.d:=by
   erw[Gd,Pz.d,Mi.U4,plainL,er,erL,PyData.canLay0,PyData.canLayAll0,a1,a2,B0,and_self]
  have d:(er p.d).depth<=2:=by
   erw[Pz.d,er,erL,PyData.depth,PyData.depthAll,a3];decide
  have i2:=ih.2
  refine⟨GdL.cons.mpr ⟨g,ih.1⟩, ?_⟩
  show PyData.depthAll (er p.d::erL (psD ps))<=2
  erw[PyData.depthAll]
  lia
def UpO.int{k:Nat}{i:Int}:UpO k (some (.int i)):=UpO.of λj hj=>by erw[qq] at hj;cases hj
def UpO.none{k:Nat}:UpO k none:=λd hd=>by cases hd
def z4t{k:Nat}(h:k∈qx (nD N)): ∃q∈N,q.1=k:=by
 obtain⟨e,he,hk⟩:=qv h
 obtain⟨q,hq,rfl⟩:=i0.mp he
 erw[qq,z0E,c8,i3,or_false] at hk
 exact⟨q,hq,hk.symm⟩
def z1Y{l LN:Nat}(hL:l<LN)(hN: ∀q∈N,l<q.1) d:rp (pl l d) (.lst LN (nD N))= .lst LN (nD N):=Z5 λhk=>by
 erw[qq,c8] at hk
 rcases hk with hk|hk
 .lia
 .obtain⟨q,hq,e⟩:=z4t hk
  have:=hN q hq
  lia
def g9 bs:qx (iL bs)=[]:=by
 induction bs with
 |nil=>rfl
 |cons b bs ih=>erw[iL,b8,qx,qq] at ih⊢;simpa using ih
def zhn{ps:List Pz}{r:Int}(h0:0<=r)(h1:r<ps.length): ∃p∈ps,atI (psD ps) r=some p.d:=by
 obtain⟨d,hd,e⟩:=zhi (ds:=psD ps) h0 (by simpa[psD] using h1)
 obtain⟨z,hz,rfl⟩:=i0.mp hd
 exact⟨z,hz,e⟩
def zel{N:List (Nat×List Pz)}{i:Nat}(hi:i<N.length)(h:N.length<=100):atI (nD N) (i:Int)=some (.lst N[i].1 (psD N[i].2)):=z0J (by lia) (by simp[nD,hi])
def wb(w o:Wi):Bool:=w.wants.any λp=>o.bars.contains p
def zho(w o:Wi):List.any (T0 (inB o.bars) (iL w.wants)) id=wb w o:=by
 erw[iL,A4,L4];rfl
def z3l:Wi->Wi->Bool
 | .hld i j bs, .hld i' j' bs'=>eqP (.tup [.int i, .int j]) (.tup [.int i', .int j'])&& !eqP (.tup (iL bs)) (.tup (iL bs'))
 |_,_=>false
def zk3:neD (.tup (iL bs)) (.tup (iL bs')) s= .ok (.bool (!eqP (.tup (iL bs)) (.tup (iL bs')))) s:=by
 obtain⟨h1,h2,h3⟩:=z02 bs
 obtain⟨g1,g2,g3⟩:=z02 bs'
 rw[zjJ (by erw[eqC,Mi.U4,er,PyData.canLay0,PyData.depth,h1,h2,h3,g1,g2,g3,B0,C0];rfl)];rfl
def fightB(w o:Wi):Bool:=z3l w o||(wb w o||wb o w)
noncomputable def wAt(W:List Wi)(e:Nat):Wi:=W.getD e (.bor 0)
def zem{W:List Wi}{e:Nat}(h:e<W.length):(wsD W)[e]? =some (wAt W e).d:=by
 erw[wsD,wAt,List.getElem?_map,List.getD_eq_getElem?_getD,List.getElem?_eq_getElem h,i9,l7]
def zca{W:List Wi}(hW: ∀w∈W,w.ok){e:Nat}(h:e<W.length):(wAt W e).ok:=by
 erw[wAt,List.getD_eq_getElem?_getD,List.getElem?_eq_getElem h,l7]
 exact hW _ (l6 h)
def zbd{ws:List D}{l:Nat}(h:l<=ws.length):z5Z ws none (some (l:Int))=ws.take l:=by
 delta z5Z
 rw[HT.sIx_nat,HT.sIx_none,R0 h,D9,u0d]
def z7u(W:List Wi)(l e:Nat):Option D:=if fightB (wAt W e) (wAt W l) then some (.tup [.int e, .int l]) else none
def z1Z(W:List Wi):D:=match Q9 (λl=>Q9 (z7u W l) l 0) W.length 0 with|some v=>v|none=> .non
def zhp{l:Nat}{n:Nat}:zaV [.lst l ds] ⟨σ,tm,n⟩= .ok z66 ⟨σ,some (.lst l ds)::tm,n⟩:=(rfl)
def zhq:z1N ms s=(Y0 ms s).bnd zaV:=(rfl)
def zcb{l:Nat}{i:Nat}:z66.at' i (some (.lst l ds)::tm)=some ((ds[i]?).map λd=> .tup [.int i,d]):=(rfl)
def z9B{l:Nat}{ds:List D}:z66.len (some (.lst l ds)::tm)=ds.length:=(rfl)
def fgB:MS:=sIf (J3 (Z0 z16 [(y0 4),(y0 2)])) (G2 (mCB [(y0 3),(y0 1)] x6)) sNx
def fgM:MS:=z1A (z1N [(mSl (y0 0) none (some (y0 1)))]) (.tp [(.nm 3),(.nm 4)]) fgB
def zk4(w:Wi) n:J0 [w.d] n= .ok (.lst n (iL w.wants)) [w.d] (n+1):=by
 delta J0 V6
 left
 cases w<;>erw[Wi.d]<;>left <;>erw[qs okB okB,qs okB z2t,qs okB z5u,qs okB z5v,qs z2t z2t,qs z2t z5u,qs z2t z5v,bj,sb,sj,hb,hj,beq_self_eq_true]<;>left <;>(try erw[qs okB okB,qs okB z2t,qs okB z5u,qs okB z5v,qs z2t z2t,qs z2t z5u,qs z2t z5v,bj,sb,sj,hb,hj,beq_self_eq_true])<;>(try (left))<;>rfl
def zk5(w:Wi)(hw:w.ok) n:J9 [w.d] n= .ok (.lst n (iL w.bars)) [w.d] (n+1):=by
 delta J9 V5
 left
 have hz:(qg:Nat)=16777216:=rfl
 cases w with
 |bor g=>erw[Wi.d];left;erw[qs okB okB,beq_self_eq_true];left;rfl
 |joi g=>erw[Wi.d];left;erw[qs okB z2t,bj];left;erw[qs z2t z2t,beq_self_eq_true];left;rfl
 |spn i j=>
  erw[Wi.d,Wi.ok] at hw⊢
  left;erw[qs okB z5u,sb];left;erw[qs z2t z5u,sj];left
  rw[zkN ⟨⟨by lia,by lia,by lia,by lia⟩,by lia⟩]
  left
  rw[z3P];rfl
 |hld i j ds=>
  erw[Wi.d,Wi.ok] at hw⊢
  obtain⟨hw,_⟩:=hw
  left;erw[qs okB z5v,hb];left;erw[qs z2t z5v,hj];left
  rw[zkN ⟨⟨by lia,by lia,by lia,by lia⟩,by lia⟩]
  left
  rw[z3P];rfl
def zhr(w o:Wi)(ho:o.ok) n: ∃n',n<=n'/\Z6 [w.d,o.d] n= .ok (.bool (wb w o)) [w.d,o.d] n':=by
 delta Z6 X9
 left
 rw[zk5 o ho]
 left
 obtain⟨n',h1,h2⟩:=z0l (mc:=Z0 J0 [y0 0]) (mt:=rt true) (me:=y8 (y0 0) (y0 1) inD) (p:=λ_=>true) (g:=λd=> .bool (inB o.bars d)) (l:=n+1) (ds:=iL w.wants) (ix:=[2]) (s:=⟨[some w.d,some o.d,some (.lst n (iL o.bars))],[some w.d,some o.d],n+1⟩) (σ:=[some w.d,some o.d,some (.lst n (iL o.bars))]) (tm:=[some w.d,some o.d]) (n:=n+1+1)
  (by left;rw[zk4];left) (by rw[zl];have:=z9x w;erw[iL,i5];lia) (λd _ tm n=>⟨n,b9 _,rfl⟩) (λd hd _ tm n=>by
   obtain⟨p,rfl⟩:=zba hd
   refine⟨n,b9 _, ?_⟩
   erw[b8,l0,List.getElem?_cons_zero,List.getElem?_cons_succ,l7]
   left
   rw[z9w];rfl)
 refine⟨n'+1,by lia, ?_⟩
 rw[h2,z0n]
 left
 rw[zh5 (z1U _ (inB o.bars)),zho]
 left
def zen(w o:Wi)(hw:w.ok)(ho:o.ok) n: ∃n',n<=n'/\((zbN (Z0 Z6 [(y0 0),(y0 1)]) (Z0 Z6 [(y0 1),(y0 0)])) ⟨[some w.d,some o.d],[some w.d,some o.d],n⟩)= .ok (.bool (wb w o||wb o w)) ⟨[some w.d,some o.d],[some w.d,some o.d],n'⟩:=by
 obtain⟨n1,h1,e1⟩:=zhr w o ho n
 obtain⟨n2,h2,e2⟩:=zhr o w hw n1
 cases hq:wb w o with
 |true=>
  refine⟨n1,h1, ?_⟩
  left;rw[e1,hq];left
 |false=>
  refine⟨n2,by lia, ?_⟩
  left;rw[e1,hq];left;rw[e2];left
def zk6(w o:Wi)(hw:w.ok)(ho:o.ok) n: ∃n',n<=n'/\z16 [w.d,o.d] n= .ok (.bool (fightB w o)) [w.d,o.d] n':=by
 obtain⟨n1,h1,e1⟩:=zen w o hw ho n
 delta z16
 have e0:z38=(W9 (sIf (zaA (J3 (y8 (y8 (y0 0) (mC (.int 0)) ixD) (mC (.str ("held" :Str))) eqD)) (zaA (J3 (y8 (y8 (y0 1) (mC (.int 0)) ixD) (mC (.str ("held" :Str))) eqD)) (zaA (J3 (y8 (mSl (y0 0) (some (mC (.int 1))) (some (mC (.int 3)))) (mSl (y0 1) (some (mC (.int 1))) (some (mC (.int 3)))) eqD)) (J3 (y8 (y8 (y0 0) (mC (.int 3)) ixD) (y8 (y0 1) (mC (.int 3)) ixD) neD))))) (G2 (mC (.bool true))) sNx)
  (G2 (zbN (Z0 Z6 [(y0 0),(y0 1)]) (Z0 Z6 [(y0 1),(y0 0)])))):=rfl
 rw[e0]
 generalize (zbN (Z0 Z6 [(y0 0),(y0 1)]) (Z0 Z6 [(y0 1),(y0 0)]))=T at e1⊢
 left
 rw[zhj]
 left
 rw[zhk]
 cases hH:w.isH with
 |false=>
  have:z3l w o=false:=by cases w<;>first|rfl|(simp[Wi.isH] at hH)
  refine⟨n1,h1, ?_⟩
  left
  rw[e1]
  left
  erw[fightB,this,D7]
 |true=>
  left
  rw[zhj]
  left
  rw[zhk]
  obtain⟨i,j,bs,rfl⟩:=z5w hH
  cases hH2:o.isH with
  |false=>
   have:z3l (.hld i j bs) o=false:=by cases o<;>first|rfl|(simp[Wi.isH] at hH2)
   refine⟨n1,h1, ?_⟩
   left
   rw[e1]
   left
   erw[fightB,this,D7]
  |true=>
   obtain⟨i',j',bs',rfl⟩:=z5w hH2
   erw[Wi.d] at e1⊢
   left
   erw[uc4]
   rw[zc8]
   cases hq:eqP (.tup [.int i, .int j]) (.tup [.int i', .int j']) with
   |false=>
    refine⟨n1,h1, ?_⟩
    left
    rw[e1]
    left
    erw[fightB,z3l,hq,D4,D7]
   |true=>
    left
    rw[zk3]
    cases hq2:eqP (.tup (iL bs)) (.tup (iL bs')) with
    |true=>
     refine⟨n1,h1, ?_⟩
     left
     rw[e1]
     left
     erw[fightB,z3l,hq,hq2,R7,L1,D7]
    |false=>
     refine⟨n,b9 _, ?_⟩
     left
     erw[fightB,z3l,hq,hq2,I0,B0,E5]
def zhs(W:List Wi)(hW: ∀w∈W,w.ok)(hlW:W.length<=100)(L l n:Nat)(hl:l<W.length)(o3 o4:Option D):
 match Q9 (z7u W l) l 0 with
 |none=> ∃o3' o4' n',n<=n'/\fgM ⟨[some (.lst L (wsD W)),some (.int l),some (wAt W l).d,o3,o4],[some (.lst L (wsD W)),some (.lst L (wsD W))],n⟩= .nx ⟨[some (.lst L (wsD W)),some (.int l),some (wAt W l).d,o3',o4'],[some (.lst L (wsD W)),some (.lst L (wsD W))],n'⟩
 |some v=> ∃σ n',n<=n'/\fgM ⟨[some (.lst L (wsD W)),some (.int l),some (wAt W l).d,o3,o4],[some (.lst L (wsD W)),some (.lst L (wsD W))],n⟩= .rt v ⟨σ,[some (.lst L (wsD W)),some (.lst L (wsD W))],n'⟩:=by
 have lw:(wsD W).length=W.length:=by simp[wsD]
 have e0:fgM ⟨[some (.lst L (wsD W)),some (.int l),some (wAt W l).d,o3,o4],[some (.lst L (wsD W)),some (.lst L (wsD W))],n⟩=forGo z66 (.tp [(.nm 3),(.nm 4)]) fgB l 0 ⟨[some (.lst L (wsD W)),some (.int l),some (wAt W l).d,o3,o4],[some (.lst n ((wsD W).take l)),some (.lst L (wsD W)),some (.lst L (wsD W))],n+1⟩:=by
  delta fgM
  rw[z9p,zhq]
  left
  rw[zhp]
  left
  rw[zbd (by lia),z9B,A3,R0 (by lia)]
 rw[e0]
 have q:=z5r (K:=z66) (g:= .tp [(.nm 3),(.nm 4)]) (b:=fgB) (N:=l) (item:=λe=> .tup [.int e,(wAt W e).d]) (hit:=z7u W l)
  (P:=λ_ s=> ∃o3 o4 n',n<=n'/\s=⟨[some (.lst L (wsD W)),some (.int l),some (wAt W l).d,o3,o4],[some (.lst n ((wsD W).take l)),some (.lst L (wsD W)),some (.lst L (wsD W))],n'⟩)
  (R:=λ_ s=> ∃σ n',n<=n'/\s=⟨σ,[some (.lst n ((wsD W).take l)),some (.lst L (wsD W)),some (.lst L (wsD W))],n'⟩)
  (by
   rintro i s ⟨o3,o4,n',hn,rfl⟩
   show z66.at' i (some (.lst n ((wsD W).take l))::_)=_
   rw[zcb]
   by_cases h:i<l
   .rw[qy h,List.getElem?_take_of_lt h,zem (by lia)];rfl
   .rw[qh h,List.getElem?_eq_none (by rw[A3];lia)];rfl)
  (by
   rintro e he s ⟨o3,o4,n',hn,rfl⟩
   refine⟨[some (.lst L (wsD W)),some (.int l),some (wAt W l).d,some (.int e),some (wAt W e).d],rfl, ?_⟩
   obtain⟨n2,hn2,e2⟩:=zk6 (wAt W e) (wAt W l) (zca hW (by lia)) (zca hW hl) n'
   delta z7u
   cases hf:fightB (wAt W e) (wAt W l) with
   |true=>
    refine⟨⟨[some (.lst L (wsD W)),some (.int l),some (wAt W l).d,some (.int e),some (wAt W e).d],[some (.lst n ((wsD W).take l)),some (.lst L (wsD W)),some (.lst L (wsD W))],n2⟩, ?_,_,n2,by lia,rfl⟩
    delta fgB
    left
    rw[e2,hf]
    left
   |false=>
    refine⟨_, ?_,some (.int e),some (wAt W e).d,n2,by lia,rfl⟩
    delta fgB
    left
    rw[e2,hf]
    left) l 0 ⟨[some (.lst L (wsD W)),some (.int l),some (wAt W l).d,o3,o4],[some (.lst n ((wsD W).take l)),some (.lst L (wsD W)),some (.lst L (wsD W))],n+1⟩ (by lia) ⟨o3,o4,n+1,by lia,rfl⟩
 cases hh:Q9 (z7u W l) l 0 with
 |none=>
  rw[hh] at q
  obtain⟨s',e1,o3',o4',n',hn,rfl⟩:=q
  exact⟨o3',o4',n',hn,e1⟩
 |some v=>
  rw[hh] at q
  obtain⟨s',e1,σ,n',hn,rfl⟩:=q
  exact⟨σ,n',hn,e1⟩
def zht(W:List Wi)(hW: ∀w∈W,w.ok)(hlW:W.length<=100)(L n:Nat): ∃n',n<=n'/\J7 [.lst L (wsD W)] n= .ok (z1Z W) [.lst L (wsD W)] n':=by
 have lw:(wsD W).length=W.length:=by simp[wsD]
 delta J7
 have e0:z17=W9 (z1A (z1N [(y0 0)]) (.tp [(.nm 1),(.nm 2)]) fgM) (G2 (mC .non)):=rfl
 rw[e0]
 left
 rw[zhq]
 left
 rw[zhp]
 left
 rw[z9B,lw]
 have q:=z5r (K:=z66) (g:= .tp [(.nm 1),(.nm 2)]) (b:=fgM) (N:=W.length) (item:=λe=> .tup [.int e,(wAt W e).d]) (hit:=λl=>Q9 (z7u W l) l 0)
  (P:=λ_ s=> ∃o1 o2 o3 o4 n',n<=n'/\s=⟨[some (.lst L (wsD W)),o1,o2,o3,o4],[some (.lst L (wsD W)),some (.lst L (wsD W))],n'⟩)
  (R:=λ_ s=> ∃σ n',n<=n'/\s=⟨σ,[some (.lst L (wsD W)),some (.lst L (wsD W))],n'⟩)
  (by
   rintro i s ⟨o1,o2,o3,o4,n',hn,rfl⟩
   show z66.at' i (some (.lst L (wsD W))::_)=_
   rw[zcb]
   by_cases h:i<W.length
   .rw[qy h,zem h];rfl
   .rw[qh h,List.getElem?_eq_none (by lia)];rfl)
  (by
   rintro l hl s ⟨o1,o2,o3,o4,n',hn,rfl⟩
   refine⟨[some (.lst L (wsD W)),some (.int l),some (wAt W l).d,o3,o4],rfl, ?_⟩
   have q:=zhs W hW hlW L l n' hl o3 o4
   cases hh:Q9 (z7u W l) l 0 with
   |none=>
    rw[hh] at q
    obtain⟨o3',o4',n2,hn2,e2⟩:=q
    exact⟨_,e2,_,_,o3',o4',n2,by lia,rfl⟩
   |some v=>
    rw[hh] at q
    obtain⟨σ,n2,hn2,e2⟩:=q
    exact⟨_,e2,σ,n2,by lia,rfl⟩) W.length 0 ⟨[some (.lst L (wsD W)),none,none,none,none],[some (.lst L (wsD W)),some (.lst L (wsD W))],n⟩ (by lia) ⟨none,none,none,none,n,b9 _,rfl⟩
 delta z1Z
 cases hh:Q9 (λl=>Q9 (z7u W l) l 0) W.length 0 with
 |none=>
  rw[hh] at q
  obtain⟨s',e1,o1,o2,o3,o4,n',hn,rfl⟩:=q
  rw[e1]
  refine⟨n',hn, ?_⟩
  show(RS.sq _ (.nx ⟨_,[some (.lst L (wsD W))],n'⟩)).fin=_
  left
 |some v=>
  rw[hh] at q
  obtain⟨s',e1,σ,n',hn,rfl⟩:=q
  rw[e1]
  refine⟨n',hn, ?_⟩
  show(RS.sq _ (.rt v ⟨_,[some (.lst L (wsD W))],n'⟩)).fin=_
  left
noncomputable def Sv(B:Nat->Int):Nat->List Int->Int
 |_,[]=>0
 |k,w::W=>w*B k+Sv B (k+1) W
theorem zcc(B:Nat->Int): ∀(L:List Int) (k j:Nat) (v:Int),j<L.length->Sv B k (L.set j v)=Sv B k L+(v -L.getD j 0)*B (k+j)
 |[],_,_,_,h=>by simp at h
 |w::L,k,0,v,_=>by
  erw[C3,Sv,List.getD_cons_zero,Nat.add_zero,Int.sub_mul]
  lia
 |w::L,k,j+1,v,h=>by
  have:=zcc B L (k+1) j v (by simpa using h)
  erw[C4,Sv,List.getD_cons_succ,this,show k+1+j=k+(j+1) by lia]
  lia
noncomputable def z6k(i:Nat)(W:List Int)(e:Nat):List Int:=W.set e (W.getD e 0+W.getD i 0)
def zhu{i e:Nat}{W:List Int}(h1:i<e)(h2:e<W.length):(z6k i W e).length=W.length/\(z6k i W e).getD i 0=W.getD i 0/\Sv B (i+1) ((z6k i W e).drop (i+1))=Sv B (i+1) (W.drop (i+1))+W.getD i 0*B e:=by
 delta z6k
 refine⟨by simp, ?_, ?_⟩
 .erw[List.getD_eq_getElem?_getD]
  rw[List.getElem?_set_ne (by lia)]
 .have e1:(W.set e (W.getD e 0+W.getD i 0)).drop (i+1)=(W.drop (i+1)).set (e -(i+1)) (W.getD e 0+W.getD i 0):=by
   rw[List.drop_set,qh (by lia)]
  rw[e1,zcc B _ _ _ _ (by simp;lia)]
  have e2:(W.drop (i+1)).getD (e -(i+1)) 0=W.getD e 0:=by
   erw[List.getD_eq_getElem?_getD,List.getElem?_drop]
   rw[show i+1+(e -(i+1))=e by lia]
  rw[e2,show i+1+(e -(i+1))=e by lia]
  congr 2
  lia
theorem zcd{i:Nat}: ∀(es:List Nat) (W:List Int),(∀e∈es,i<e/\e<W.length)->(es.foldl (z6k i) W).length=W.length/\(es.foldl (z6k i) W).getD i 0=W.getD i 0/\Sv B (i+1) ((es.foldl (z6k i) W).drop (i+1))=Sv B (i+1) (W.drop (i+1))+W.getD i 0*(es.map B).sum
 |[],W,_=>⟨rfl,rfl,by simp⟩
 |e::es,W,h=>by
  obtain⟨a1,a2,a3⟩:=zhu (B:=B) (h e c9).1 (h e c9).2
  obtain⟨b1,b2,b3⟩:=zcd (B:=B) es (z6k i W e) λe' he'=>by rw[a1];exact h e' (b7 _ he')
  refine⟨b1.trans a1,b2.trans a2, ?_⟩
  rw[F8,b3,a3,a2,b8,u09,Int.mul_add]
  lia
def zbe{i:Nat}{es:List Nat}{W:List Int}(hi:i<W.length)(h: ∀e∈es,i<e/\e<W.length)(hB:B i=(es.map B).sum):Sv B (i+1) ((es.foldl (z6k i) W).drop (i+1))=Sv B i (W.drop i):=by
 rw[(zcd es W h).2.2]
 have e:W.drop i=W.getD i 0::W.drop (i+1):=by
  rw[D0 hi]
  congr 1
  simp[hi]
 rw[e,Sv,hB]
 lia
theorem z9C(B:Nat->Int): ∀k n,Sv B k (m7 n 0)=0
 |_,0=>rfl
 |k,n+1=>by rw[N6,Sv,z9C B (k+1) n];lia
def zeo{n:Nat}{W:List Int}(hl:W.length=n+1)(hB:B n=1):Sv B n (W.drop n)=W.getD n 0:=by
 have e:W.drop n=[W.getD n 0]:=by
  rw[D0 (by lia),P7 (by lia)]
  congr 1
  simp[show n<W.length by lia]
 rw[e]
 simp[Sv,hB]
def z5H(ps:List Pz):List Nat:=ps.map λp=>p.e.toNat
structure Bk(N:List (Nat×List Pz))(B:Nat->Int):Prop where
 last:B N.length=1
 at': ∀i (h:i<N.length),B i=((z5H N[i].2).map B).sum
def zhv:z8U mo mi me s=(mo s).lf λo s1=>(mi (s1.psh o)).lf λi s2=>(zgC i s2).lf λx s3=>(me s3).lf λy s4=>(pop s4).lf λo' s5=>ziv o' i x y s5:=by
 delta z8U z0N
 rfl
def z9D{W:List Int}{e:Nat}(h:e<W.length)(hz:W.length<=1000):atI (iL W) (e:Int)=some (.int (W.getD e 0)):=z0J (by lia) (by simp[iL,h])
def zhw{W:List Int}{e:Nat}{v:Int}:(iL W).set e (.int v)=iL (W.set e v):=by simp[iL,u0e]
def zhx{W:List Int}:(iL W).length=W.length:=by simp[iL]
def zhy{l n k:Nat}{W:List Int}(h:k<W.length)(hz:W.length<=1000):zgC (.int (k:Nat)) ⟨σ,some (.lst l (iL W))::tm,n⟩= .ok (.int (W.getD k 0)) ⟨σ,some (.lst l (iL W))::tm,n⟩:=by
 erw[zgC,z9D h hz]
def zce{k:Nat}{r:Int}(h0:0<=r)(h1:r<k):ixN k r=some r.toNat:=by
 delta ixN;rw[qy h0,qy h1]
def zhz{l n k:Nat}{W:List Int}{a b:Int}(h:k<W.length)(hz:W.length<=1000):ziv (.lst l (iL W)) (.int (k:Nat)) (.int a) (.int b) ⟨σ,tm,n⟩= .nx (Stt.put ⟨σ,tm,n⟩ l (.lst l (iL (W.set k (a+b))))):=by
 erw[ziv,z8M]
 have e:ixN (iL W).length (k:Int)=some k:=by
  rw[zhx]
  rw[zce (by lia) (by lia),t9]
 erw[e,zhw]
 rw[qy (by erw[qq];exact i3)]
def ziA:MS:=z8U (y0 1) (y8 (y0 4) (mC (.int 0)) ixD) (y8 (y0 1) (y0 2) ixD)
def zep L Lw l i(N:List (Nat×List Pz)) ps(p:Pz) W(hz:W.length<=1000)(hi:i<W.length)(he:p.e.toNat<W.length)(he0:0<=p.e)(fN: ∀d,rp (pl Lw d) (.lst L (nD N))= .lst L (nD N))(fP: ∀d,rp (pl Lw d) (.lst l (psD ps))= .lst l (psD ps)) n:
 ziA ⟨[some (.lst L (nD N)),some (.lst Lw (iL W)),some (.int (i:Nat)),some (.lst l (psD ps)),some p.d],[some (.lst l (psD ps)),some (.lst L (nD N)),some (.lst L (nD N))],n⟩= .nx ⟨[some (.lst L (nD N)),some (.lst Lw (iL (z6k i W p.e.toNat))),some (.int (i:Nat)),some (.lst l (psD ps)),some p.d],[some (.lst l (psD ps)),some (.lst L (nD N)),some (.lst L (nD N))],n⟩:=by
 obtain⟨e,ee⟩:=B5 he0
 have px: ∀{s:Stt},ixD p.d (.int 0) s= .ok (.int (e:Nat)) s:=λ{s}=>by rw[<-ee];erw[Pz.d];left
 have ht:p.e.toNat=e:=by lia
 rw[ht] at he⊢
 have fp: ∀d,rp (pl Lw d) p.d=p.d:=λd=>Z5 (by erw[Pz.d,qq,qx,g9,e8];exact i3)
 delta ziA
 rw[zhv]
 left
 rw[px]
 left
 rw[zhy he hz]
 left
 rw[z9D hi hz]
 left
 rw[zhz he hz]
 left
 erw[fN,fP,fp]
 rfl
def zhA:MS:=z1A (Q5 (y0 3)) (.nm 4) ziA
def z9E{ps:List Pz}{j:Nat}(h:j<ps.length):(z5H ps).take (j+1)=(z5H ps).take j++[ps[j].e.toNat]:=by
 rw[T1]
 simp[z5H,h]
theorem z20{i:Nat}: ∀(es:List Nat) (W:List Int),(es.foldl (z6k i) W).length=W.length
 |[],_=>rfl
 |e::es,W=>by rw[F8,z20 es];simp[z6k]
def zhB L Lw l i(N:List (Nat×List Pz)) ps W(hz:W.length<=1000)(hi:i<W.length)(hp: ∀p∈ps,0<=p.e/\p.e.toNat<W.length)(hps:ps.length<=1000)(fN: ∀d,rp (pl Lw d) (.lst L (nD N))= .lst L (nD N))(fP: ∀d,rp (pl Lw d) (.lst l (psD ps))= .lst l (psD ps)) n o4(u4: ∀d,m9 (rp (pl Lw d)) o4=o4):
 ∃o4',(∀d,m9 (rp (pl Lw d)) o4'=o4')/\zhA ⟨[some (.lst L (nD N)),some (.lst Lw (iL W)),some (.int (i:Nat)),some (.lst l (psD ps)),o4],[some (.lst L (nD N)),some (.lst L (nD N))],n⟩= .nx ⟨[some (.lst L (nD N)),some (.lst Lw (iL ((z5H ps).foldl (z6k i) W))),some (.int (i:Nat)),some (.lst l (psD ps)),o4'],[some (.lst L (nD N)),some (.lst L (nD N))],n⟩:=by
 have lp:(psD ps).length=ps.length:=by simp[psD]
 obtain⟨s',e1,p4,v4,rfl⟩:=z3k (K:=z4d) (g:= .nm 4) (b:=ziA) (N:=ps.length) (item:=λj=>(psD ps).getD j .non) (P:=λj s=> ∃p4,(∀d,m9 (rp (pl Lw d)) p4=p4)/\s=⟨[some (.lst L (nD N)),some (.lst Lw (iL (((z5H ps).take j).foldl (z6k i) W))),some (.int (i:Nat)),some (.lst l (psD ps)),p4],[some (.lst l (psD ps)),some (.lst L (nD N)),some (.lst L (nD N))],n⟩)
  (by
   rintro j s ⟨p4,v4,rfl⟩
   show some (psD ps)[j]? =_
   by_cases hj:j<ps.length
   .rw[qy hj,List.getD_eq_getElem?_getD,List.getElem?_eq_getElem (by rw[lp];exact hj)];rfl
   .rw[qh hj,List.getElem?_eq_none (by rw[lp];lia)])
  (by
   rintro j hj s ⟨p4,v4,rfl⟩
   have e:(psD ps).getD j .non=ps[j].d:=by simp[psD,hj]
   refine⟨_,rfl,_, ?_,some ps[j].d, ?_,rfl⟩
   .rw[e]
    have hpj:=hp ps[j] (l6 hj)
    have:=zep L Lw l i N ps ps[j] (((z5H ps).take j).foldl (z6k i) W) (by rw[z20];exact hz) (by rw[z20];exact hi) (by rw[z20];exact hpj.2) hpj.1 fN fP n
    rw[z9E hj,List.foldl_append]
    exact this
   .intro d
    rw[i9,Z5 (by erw[Pz.d,qq,qx,g9,e8];exact i3)]) ps.length 0 ⟨[some (.lst L (nD N)),some (.lst Lw (iL W)),some (.int (i:Nat)),some (.lst l (psD ps)),o4],[some (.lst l (psD ps)),some (.lst L (nD N)),some (.lst L (nD N))],n⟩ (by lia) ⟨o4,u4,rfl⟩
 rw[D3 (by simp[z5H])] at e1
 refine⟨p4,v4, ?_⟩
 delta zhA
 rw[z9p,z1X (m:=y0 3) (l:=l) (ds:=psD ps) (σ:=[some (.lst L (nD N)),some (.lst Lw (iL W)),some (.int (i:Nat)),some (.lst l (psD ps)),o4]) (tm:=[some (.lst L (nD N)),some (.lst L (nD N))]) (n:=n) rfl,z2i]
 show forGo z4d _ _ (psD ps).length 0 _=_
 rw[lp,e1]
 rfl
def zhC L(N:List (Nat×List Pz))(hN:N.length<=100)(hP: ∀q∈N,q.2.length<=200)(hO: ∀i (h:i<N.length),∀p∈N[i].2,p.ok (N.length:Nat) (i:Nat))(B:Nat->Int)(hB:Bk N B) n(hL:L<n)(hl: ∀q∈N,q.1<n):
 ∃n',n<=n'/\j8 [.lst L (nD N)] n= .ok (.int (B 0)) [.lst L (nD N)] n':=by
 obtain⟨n1,a1,e1⟩:=z0l (mc:=y0 0) (mt:=rt true) (me:=mC (.int 0)) (p:=λ_=>true) (g:=λ_=> .int 0) (l:=L) (ds:=nD N) (ix:=[]) (s:=⟨[some (.lst L (nD N)),none,none,none,none],[some (.lst n [.int 1]),some (.lst L (nD N))],n+1⟩) (σ:=[some (.lst L (nD N)),none,none,none,none]) (tm:=[some (.lst n [.int 1]),some (.lst L (nD N))]) (n:=n+1) (by left) (by rw[z1e,zl];lia) (λd _ tm n=>⟨n,b9 _,rfl⟩) (λd hd _ tm n=>⟨n,b9 _,rfl⟩)
 rw[z0n,show(nD N).map (λ_=>D.int 0)=iL (m7 N.length 0) by rw[iL,List.map_replicate,List.map_const',z1e]] at e1
 have fr: ∀d,rp (pl (n1+1) d) (.lst L (nD N))= .lst L (nD N):=λd=>Z5 λh=>by have:=z4s (k:=n) hL hl _ h;lia
 obtain⟨s',e2,W,p2,p3,p4,g1,g2,g3,g4,g5,rfl⟩:=z3k (K:=z66) (g:= .tp [.nm 2, .nm 3]) (b:=zhA) (N:=N.length) (item:=λi=> .tup [.int (i:Nat),(nD N).getD i .non])
  (P:=λi s=> ∃W p2 p3 p4,W.length=N.length+1/\Sv B i (W.drop i)=B 0/\(∀d,m9 (rp (pl (n1+1) d)) p2=p2)/\(∀d,m9 (rp (pl (n1+1) d)) p3=p3)/\(∀d,m9 (rp (pl (n1+1) d)) p4=p4)/\s=⟨[some (.lst L (nD N)),some (.lst (n1+1) (iL W)),p2,p3,p4],[some (.lst L (nD N)),some (.lst L (nD N))],n1+1+1⟩)
  (by
   rintro i s ⟨W,p2,p3,p4,g1,g2,g3,g4,g5,rfl⟩
   show some (((nD N)[i]?).map λd=>D.tup [.int (i:Nat),d])=_
   by_cases hi:i<N.length
   .rw[qy hi,List.getD_eq_getElem?_getD,List.getElem?_eq_getElem (by rw[z1e];exact hi)];rfl
   .rw[qh hi,List.getElem?_eq_none (by rw[z1e];lia)];rfl)
  (by
   rintro i hi s ⟨W,p2,p3,p4,g1,g2,g3,g4,g5,rfl⟩
   have e:(nD N).getD i .non= .lst N[i].1 (psD N[i].2):=by simp[nD,hi]
   have fi: ∀d,rp (pl (n1+1) d) (.lst N[i].1 (psD N[i].2))= .lst N[i].1 (psD N[i].2):=λd=>Z5 λh=>by
    erw[qq,z0E,c8,i3,or_false] at h
    have:=hl _ (l6 hi)
    lia
   have ok:=hO i hi
   have ee: ∀e∈z5H N[i].2,i<e/\e<W.length:=λe he=>by
    obtain⟨p,hp,rfl⟩:=i0.mp he
    have q:=ok p hp
    have q1:=q.1
    have q2:=q.2.1
    lia
   refine⟨[some (.lst L (nD N)),some (.lst (n1+1) (iL W)),some (.int (i:Nat)),some ((nD N).getD i .non),p4],rfl, ?_⟩
   rw[e]
   obtain⟨o4,v4,e3⟩:=zhB L (n1+1) N[i].1 i N N[i].2 W (by lia) (by lia) (λp hp=>by have q:=ok p hp;have q1:=q.1;have q2:=q.2.1;lia) (by have:=hP _ (l6 hi);lia) fr fi (n1+1+1) p4 g5
   refine⟨_,e3,_,some (.int (i:Nat)),some (.lst N[i].1 (psD N[i].2)),o4, ?_, ?_,λd=>rfl,λd=>by rw[i9,fi],v4,rfl⟩
   .rw[z20];exact g1
   .rw[zbe (by lia) ee (hB.at' i hi)];exact g2) N.length 0 ⟨[some (.lst L (nD N)),some (.lst (n1+1) (iL (1::m7 N.length 0))),none,none,none],[some (.lst L (nD N)),some (.lst L (nD N))],n1+1+1⟩ (by lia) ⟨1::m7 N.length 0,none,none,none,by simp,by rw[D9,Sv,z9C];lia,λ_=>rfl,λ_=>rfl,λ_=>rfl,rfl⟩
 rw[zeo g1 hB.last] at g2
 refine⟨n1+1+1,by lia, ?_⟩
 have e0:z18=W9 (J8 (.nm 1) (y8 (mCB [(mC (.int 1))] lstM) (Y7 (Q5 (y0 0)) (.nm 0) (rt true) (mC (.int 0)) 1 []) K9)) (W9 (z1A (z1N [(y0 0)]) (.tp [(.nm 2),(.nm 3)]) zhA) (G2 (y8 (y0 1) (mCB [(y0 0)] z4Y) ixD))):=rfl
 have e4:z1A (z1N [(y0 0)]) (.tp [(.nm 2),(.nm 3)]) zhA ⟨[some (.lst L (nD N)),some (.lst (n1+1) (iL (1::m7 N.length 0))),none,none,none],[some (.lst L (nD N))],n1+1+1⟩= .nx ⟨[some (.lst L (nD N)),some (.lst (n1+1) (iL W)),p2,p3,p4],[some (.lst L (nD N))],n1+1+1⟩:=by
  rw[z9p]
  show forGo z66 _ _ (nD N).length 0 _=_
  rw[z1e]
  exact e2
 rw[z9p] at e4
 delta j8
 rw[e0]
 left
 rw[e1]
 left
 rw[zc3 (by rw[zl];simp[iL];lia)]
 left
 rw[show(D.int 1::iL (m7 N.length 0):List D)=iL (1::m7 N.length 0) from rfl,e4]
 left
 rw[z1e,z9D (by lia) (by lia),g2]
 left
def Ints(ys:List D):Prop:= ∀y∈ys,∃i:Int,y= .int i
theorem z21: ∀{ys:List D},Ints ys->qx ys=[]
 |[],_=>rfl
 |y::ys,h=>by
  obtain⟨i,rfl⟩:=h y (by simp)
  erw[qx,qq,l5]
  exact z21 λz hz=>h z (by simp[hz])
def z5x{l:Nat}(h:qx ts=[]):rpL (pl l d) ts=ts:=by
 have e:=Z5 (l:=l) (d:=d) (t:= .tup ts) (by erw[qq,h];exact i3)
 erw[z9n,D.tup.injEq] at e;exact e
def Row(y:D):Prop:= ∃ys,y= .tup ys/\Ints ys/\ys.length=10
def z9F{n:Nat}{as bs:List D}(h:All2 (λ(_:D) y=> ∃i:Int,y= .int i) as bs):Ints bs/\bs.length=as.length:=by
 induction h with
 |nil=>exact⟨(λ_ h=>nomatch h),rfl⟩
 |cons h1 _ ih=>
  refine⟨?_,by simp[ih.2]⟩
  intro y hy
  rcases c8.mp hy with rfl|hy
  .exact h1
  .exact ih.1 y hy
def zbf{as bs:List D}(h:All2 (λ(_:D) y=>Row y) as bs):(∀b∈bs,Row b)/\bs.length=as.length:=by
 induction h with
 |nil=>exact⟨(λ_ h=>nomatch h),rfl⟩
 |cons h1 _ ih=>
  refine⟨?_,by simp[ih.2]⟩
  intro y hy
  rcases c8.mp hy with rfl|hy
  .exact h1
  .exact ih.1 y hy
def z9G l c x v n(h:Bg c x)(hn:l<n)(hv0:0<v)(hv1:v<1000000) σ0 tm0 ix i j(hix:ix=[i,j])(hi:(σ0[i]?).getD none=some (.lst l [.int c, .int x]))(hj:(σ0[j]?).getD none=some (.int v))(f1:rpO (pl l (.lst l [.int c, .int x])) σ0=σ0)(f2:rpO (pl l (.lst l [.int c, .int x])) tm0=tm0):
 ∃ys c' x' n',Ints ys/\ys.length=10/\Bg c' x'/\n<=n'/\Y7 (X4 [mC (.int 10)]) (.nm 0) (rt true) (Z0 y9 [y0 1,y0 2]) 1 ix ⟨σ0,tm0,n⟩= .ok (.lst n' ys) ⟨rpO (pl l (.lst l [.int c', .int x'])) σ0,rpO (pl l (.lst l [.int c', .int x'])) tm0,n'+1⟩:=by
 subst hix
 obtain⟨ys,b',n',g1,g2,g3,⟨c3,x3,rfl,h3⟩,g5,g6⟩:=z5p (ms:=[mC (.int 10)]) (me:=Z0 y9 [y0 1,y0 2]) (N:=10) (ix:=[i,j]) (s:=⟨σ0,tm0,n⟩) (l:=l) (n:=n) (j:=10) (σ0:=σ0) (tm0:=tm0) (b:=[.int c, .int x]) (Bg:=λb=> ∃c x,b=[.int c, .int x]/\Bg c x) (Q:=λ_ d=> ∃i:Int,d= .int i) (λ_ _ _ _ h=>h)
  (by left) rfl ⟨by lia,by lia⟩ (by rw[zl];lia) ⟨c,x,rfl,h⟩ hn f1 f2 (by erw[b8,l0,hi,hj];left) (by
   rintro k hk b tm m ⟨c,x,rfl,hb⟩ hm hf
   obtain⟨r,c',x',hs0,hs1,h',e'⟩:=J5 l c x v m hb hv0 hv1
   refine⟨.int r,[.int c', .int x'],m,⟨c',x',rfl,h'⟩,⟨r,rfl⟩,b9 _,by simp[qq], ?_⟩
   erw[b8,l0,hi,hj]
   left
   rw[e',z1d rfl rfl rfl (by left) hf]
   left)
 exact⟨ys,c3,x3,n',g2,g1,h3,g5,g6⟩
def zk7:M D:=mCB [(Y7 (Q5 (y0 2)) (.nm 0) (rt true) (y8 (y8 (y0 2) (y0 0) K9) (y0 1) z3o) 1 [1,0])] z6z
def zk8:M D:=mCB [(Y7 (X4 [(mC (.int 10))]) (.nm 0) (rt true) (Z0 y9 [(y0 1),(y0 2)]) 1 [1,2])] z6z
def zhD l c x n(h:Bg c x)(hn:l<n): ∃rs c' x' n',rs.length=10/\(∀r∈rs,Row r)/\Bg c' x'/\n<=n'/\z19 [.lst l [.int c, .int x]] n= .ok (.tup rs) [.lst l [.int c', .int x']] n':=by
 delta z19
 have e0:z3b=(W9 (J8 (.nm 1) (y8 (mCB [(mC (.int 1)),(mC (.int 2)),(mC (.int 4)),(mC (.int 1000))] lstM) (Z0 y9 [(y0 0),(mC (.int 4))]) ixD))
  (W9 (sIf (J3 (y8 (Z0 y9 [(y0 0),(mC (.int 2))]) (mC (.int 0)) eqD)) (W9 (J8 (.nm 2) (Y7 (X4 [(mC (.int 10))]) (.nm 0) (rt true) (Z0 y9 [(y0 1),(y0 2)]) 1 [0,1]))
  (W9 (J8 (.nm 3) (Y7 (X4 [(mC (.int 10))]) (.nm 0) (rt true) (Z0 y9 [(y0 1),(y0 2)]) 1 [0,1]))
  (G2 (mCB [(Y7 (Q5 (y0 2)) (.nm 0) (rt true) zk7 1 [1,3])] z6z)))) sNx)
  (G2 (mCB [(Y7 (X4 [(mC (.int 10))]) (.nm 0) (rt true) zk8 1 [0,1])] z6z)))):=rfl
 rw[e0]
 left
 obtain⟨r,c1,x1,hr0,hr1,b1,e1⟩:=J5 l c x 4 (n+1) h (by decide) (by decide)
 rw[e1,z1d rfl rfl rfl (by left) (by left;rw[z1y (by lia)];left)]
 left
 rw[z1y (by lia)]
 left
 have hv: ∃v:Int,0<v/\v<1000000/\atI [D.int 1,D.int 2,D.int 4,D.int 1000] r=some (.int v):=by
  have:r=0\/r=1\/r=2\/r=3:=by lia
  rcases this with rfl|rfl|rfl|rfl
  .exact⟨_,by decide,by decide,at0⟩
  .exact⟨_,by decide,by decide,at1⟩
  .exact⟨_,by decide,by decide,at2⟩
  .exact⟨_,by decide,by decide,at3⟩
 obtain⟨v,hv0,hv1,ev⟩:=hv
 rw[ev]
 left
 obtain⟨w,c2,x2,hw0,hw1,b2,e2⟩:=J5 l c1 x1 2 (n+1) b1 (by decide) (by decide)
 rw[e2,z1d rfl rfl rfl (by left) (by left)]
 left
 cases hw:(w==0) with
 |true=>
  left
  obtain⟨as,c3,x3,n3,ia,la,b3,g3,e3⟩:=z9G l c2 x2 v (n+1) b2 (by lia) hv0 hv1 [some (.lst l [.int c2, .int x2]),some (.int v),none,none] [some (.lst l [.int c2, .int x2])] [0,1] 0 1 rfl rfl rfl (by left) (by left)
  rw[e3]
  have hsa: ∀k d,rpL (pl k d) as=as:=λk d=>z5x (z21 ia)
  left
  have q3:n3≠l:=by lia
  obtain⟨bs,c4,x4,n4,ib,lb,b4,g4,e4⟩:=z9G l c3 x3 v (n3+1) b3 (by lia) hv0 hv1 [some (.lst l [.int c3, .int x3]),some (.int v),some (.lst n3 as),none] [some (.lst l [.int c3, .int x3])] [0,1] 0 1 rfl rfl rfl (by left;erw[z1y q3,hsa]) (by left)
  rw[e4]
  have hsb: ∀k d,rpL (pl k d) bs=bs:=λk d=>z5x (z21 ib)
  left
  erw[z1y q3,hsa]
  obtain⟨rs,n5,h1,h2,h3⟩:=z5q (mc:=y0 2) (me:=zk7) (Q:=λ_ (_:D) y=>Row y) (λ_ _ _ _ _ h=>h) (l:=n3) (ds:=as) (ix:=[1,3]) (s:=⟨[some (.lst l [.int c4, .int x4]),some (.int v),some (.lst n3 as),some (.lst n4 bs)],[some (.lst l [.int c4, .int x4])],n4+1⟩) (σ:=[some (.lst l [.int c4, .int x4]),some (.int v),some (.lst n3 as),some (.lst n4 bs)]) (tm:=[some (.lst l [.int c4, .int x4])]) (n:=n4+1) (by left) (by rw[zl];lia) (by
   intro d hd tm m
   obtain⟨a,rfl⟩:=ia d hd
   obtain⟨ys,m2,j1,j2,j3⟩:=z5q (mc:=y0 2) (me:=y8 (y8 (y0 2) (y0 0) K9) (y0 1) z3o) (Q:=λ_ (_:D) y=> ∃i:Int,y= .int i) (λ_ _ _ _ _ h=>h) (l:=n4) (ds:=bs) (ix:=[1,0]) (s:=⟨[some (.int a),some (.int v),some (.lst n4 bs)],tm,m⟩) (σ:=[some (.int a),some (.int v),some (.lst n4 bs)]) (tm:=tm) (n:=m) (by left) (by rw[zl];lia) (by
    intro d hd tm m
    obtain⟨b,rfl⟩:=ib d hd
    refine⟨_,m,b9 _,⟨(a+b) %v,rfl⟩, ?_⟩
    erw[b8,l0,List.getElem?_cons_zero,List.getElem?_cons_succ,l7]
    left
    rw[z3f hv0])
   obtain⟨iy,ly⟩:=z9F (n:=m2) j1
   refine⟨.tup ys,m2+1,by lia,⟨ys,rfl,iy,by lia⟩, ?_⟩
   erw[b8,l0,List.getElem?_cons_zero,List.getElem?_cons_succ,l7]
   delta zk7
   left
   rw[j3]
   left)
  obtain⟨hr,lr⟩:=zbf h1
  rw[h3]
  left
  exact⟨rs,c4,x4,n5+1,by lia,hr,b4,by lia,rfl⟩
 |false=>
  left
  obtain⟨rs,b',n',g1,g2,g3,⟨c3,x3,rfl,h3⟩,g5,g6⟩:=z5p (ms:=[mC (.int 10)]) (me:=zk8) (N:=10) (ix:=[0,1]) (s:=⟨[some (.lst l [.int c2, .int x2]),some (.int v),none,none],[some (.lst l [.int c2, .int x2])],n+1⟩) (l:=l) (n:=n+1) (j:=10) (σ0:=[some (.lst l [.int c2, .int x2]),some (.int v),none,none]) (tm0:=[some (.lst l [.int c2, .int x2])]) (b:=[.int c2, .int x2]) (Bg:=λb=> ∃c x,b=[.int c, .int x]/\Bg c x) (Q:=λ_ y=>Row y) (λ_ _ _ _ h=>h)
   (by left) rfl ⟨by lia,by lia⟩ (by rw[zl];lia) ⟨c2,x2,rfl,b2⟩ (by lia) (by left) (by left) (by erw[b8,l0,List.getElem?_cons_zero,List.getElem?_cons_succ,l7];left) (by
    rintro k hk b tm m ⟨c,x,rfl,hb⟩ hm hf
    obtain⟨ys,c5,x5,n5,iy,ly,b5,g5,e5⟩:=z9G l c x v m hb hm hv0 hv1 [some (.int (0+(k:Int))),some (.lst l [.int c, .int x]),some (.int v)] tm [1,2] 1 2 rfl rfl rfl (by left) hf
    refine⟨.tup ys,[.int c5, .int x5],n5+1,⟨c5,x5,rfl,b5⟩,⟨ys,rfl,iy,ly⟩,by lia,by erw[qq,z21 iy];exact i3, ?_⟩
    erw[b8,l0,List.getElem?_cons_zero,List.getElem?_cons_succ,l7]
    delta zk8
    left
    erw[N9] at e5
    rw[e5]
    left)
  rw[g6]
  left
  exact⟨rs,c3,x3,n'+1,g1,g2,h3,by lia,rfl⟩
noncomputable def rte(R:List (List Int))(a b:Int):Int:=(R.getD a.toNat []).getD b.toNat 0
def rD(R:List (List Int)):List D:=R.map λr=> .tup (iL r)
def R10(R:List (List Int)):Prop:=R.length=10/\∀r∈R,r.length=10
theorem zcf: ∀{rs:List D},(∀r∈rs,Row r)->∃R:List (List Int),rs=rD R/\∀r∈R,r.length=10
 |[],_=>⟨[],rfl,λ_ h=>nomatch h⟩
 |r::rs,h=>by
  obtain⟨R,rfl,hR⟩:=zcf (rs:=rs) λd hd=>h d (by simp[hd])
  obtain⟨ys,rfl,h1,h2⟩:=h r (by simp)
  obtain⟨bs,rfl⟩:=z9v h1
  exact⟨bs::R,rfl,λr hr=>(c8.mp hr).elim (λe=>e▸by simpa[iL] using h2) (hR r)⟩
def zhE{R:List (List Int)}(h:R10 R){a b:Int}(h0:0<=a)(h1:a<=9)(g0:0<=b)(g1:b<=9):atI (iL (R.getD a.toNat [])) b=some (.int (rte R a b)):=by
 obtain⟨k,rfl⟩:=B5 g0
 obtain⟨j,rfl⟩:=B5 h0
 have hj:j<R.length:=by have:=h.1;lia
 have hk:k<(R.getD j []).length:=by
  have:=h.2 R[j] (l6 hj)
  have e:R.getD j []=R[j]:=by simp[hj]
  rw[e];lia
 refine z0J (by lia) ?_
 have hk':k<(R[j]?.getD []).length:=by simpa using hk
 simp[iL,rte,hk']
def z9H R: ∀k d,rp (pl k d) (.tup (rD R))= .tup (rD R):=λk d=>Z5 (by
 intro h
 erw[qq] at h
 obtain⟨e,he,hk⟩:=qv h
 obtain⟨r,_,rfl⟩:=i0.mp he
 erw[qq,g9] at hk;cases hk)
def z5y R: ∀k d,rpL (pl k d) (rD R)=rD R:=λk d=>by
 have:=z9H R k d;erw[rp,D.tup.injEq] at this;exact this
def kD3(p:Pz):D:= .tup [.int p.e, .tup (iL p.ss), .int p.k]
def nk3(p:Pz):NK:=[.inl (.inl p.e), .inr (p.ss.map Sum.inl), .inl (.inl p.k)]
def zcg(p:Pz):kD3 p=dkD (nk3 p):=by
 erw[kD3,dkD,nk3,b8,l0,nkD,X3,A4,iL]
 congr 3
def tk3(p:Pz):tkey (kD3 p)=some (nk3 p):=by rw[zcg,z27]
def ksD(K:List Pz):List D:=K.map kD3
def vsD(K:List Pz):List D:=K.map λp=>D.int p.c
def z9I{p q:Pz}(h:nk3 p=nk3 q):p.e=q.e/\p.ss=q.ss/\p.k=q.k:=by
 erw[nk3,List.cons.injEq,Sum.inl.injEq,Sum.inr.injEq,and_true] at h
 refine⟨h.1, ?_,h.2.2⟩
 have:=h.2.1
 generalize p.ss=a at this
 generalize q.ss=b at this
 clear h
 induction a generalizing b with
 |nil=>cases b with|nil=>rfl|cons y b=>simp at this
 |cons x a ih=>
  cases b with
  |nil=>simp at this
  |cons y b=>
   erw[b8,List.cons.injEq,Sum.inl.injEq] at this
   rw[this.1,ih b this.2]
def zkO m b K(p:Pz)(hK: ∀q∈K,q.ok m b)(hp:p.ok m b): ∃K':List Pz,K'.length<=K.length+1/\(∀q∈K',q.ok m b)/\(∀q,q∈K\/q=p->∃r∈K',r.e=q.e)/\z7f (ksD K) (nk3 p)=ksD K'/\z56 (ksD K) (vsD K) (nk3 p) (.int p.c)=vsD K':=by
 delta z7f z56
 cases h:(ksD K).any λd=>decide (tkey d=some (nk3 p)) with
 |true=>
  refine⟨K.map λq=>if nk3 q=nk3 p then{q with c:=p.c} else q,by simp, ?_, ?_, ?_, ?_⟩
  .intro q hq
   obtain⟨r,hr,rfl⟩:=i0.mp hq
   have:=hK r hr
   split
   .exact this
   .exact this
  .have go: ∀q∈K,∃r∈K.map λq=>if nk3 q=nk3 p then{q with c:=p.c} else q,r.e=q.e:=λq hq=>⟨_,i0.mpr ⟨q,hq,rfl⟩,by split<;>rfl⟩
   rintro q (hq|rfl)
   .exact go q hq
   .obtain⟨d,hd,e⟩:=E7.mp h
    obtain⟨r,hr,rfl⟩:=i0.mp hd
    erw[tk3,Option.some.injEq,decide_eq_true_eq] at e
    obtain⟨z,hz,ez⟩:=go r hr
    exact⟨z,hz,ez.trans (z9I e).1⟩
  .erw[if_true,ksD,A4]
   refine A7 λq _=> ?_
   erw[Function.comp]
   split<;>rfl
  .erw[if_true]
   clear h hK
   induction K with
   |nil=>rfl
   |cons q K ih=>
    erw[ksD,vsD,b8,C7,tk3,Option.some.injEq] at ih⊢
    rw[ih]
    congr 1
    split<;>rfl
 |false=>
  refine⟨K++[p],by simp, ?_, ?_, ?_, ?_⟩
  .intro q hq
   rcases e9.mp hq with hq|hq
   .exact hK q hq
   .rw[i4.mp hq];exact hp
  .rintro q (hq|rfl)
   .exact⟨q,e6 _ hq,rfl⟩
   .exact⟨q,by simp,rfl⟩
  .simp[ksD,zcg]
  .simp[vsD]
def zk9 K(p:Pz)(h:p∈K): ∃q∈K,findK (ksD K) (vsD K) (nk3 p)=some (.int q.c)/\nk3 q=nk3 p:=by
 induction K with
 |nil=>cases h
 |cons r K ih=>
  erw[ksD,vsD,b8,findK,tk3,Option.some.injEq]
  by_cases e:nk3 r=nk3 p
  .rw[qy e];exact⟨r,c9,rfl,e⟩
  .rw[qh e]
   rcases c8.mp h with rfl|h
   .exact absurd rfl e
   .obtain⟨q,h1,h2,h3⟩:=ih h
    exact⟨q,b7 _ h1,h2,h3⟩
def gK(K:List Pz)(d:D):D:=zbU d (fdK (ksD K) (vsD K) d)
def zka{p:Pz}(h:p∈K): ∃q∈K,gK K (kD3 p)=q.d/\q.e=p.e:=by
 obtain⟨q,h1,h2,h3⟩:=zk9 K p h
 obtain⟨a1,a2,a3⟩:=z9I h3
 refine⟨q,h1, ?_,a1⟩
 have e:gK K (kD3 p)= .tup ([.int p.e, .tup (iL p.ss), .int p.k]++[fdK (ksD K) (vsD K) (kD3 p)]):=rfl
 rw[e]
 erw[fdK,tk3,P4,h2,l7]
 rw[Pz.d,a1,a2,a3]
 rfl
theorem gKs: ∀L:List Pz,(∀p∈L,p∈K)->∃ps:List Pz,(ksD L).map (gK K)=psD ps/\ps.length=L.length/\(∀q∈ps,q∈K)/\∀p∈L,∃q∈ps,q.e=p.e
 |[],_=>⟨[],rfl,rfl,(by intro q hq;cases hq),(by intro q hq;cases hq)⟩
 |p::L,h=>by
  obtain⟨ps,h1,h2,h3,h4⟩:=gKs L λq hq=>h q (b7 _ hq)
  obtain⟨q,g1,g2,g3⟩:=zka (h p c9)
  refine⟨q::ps, ?_,by rw[l8,l8,h2],λr hr=> ?_,λr hr=> ?_⟩
  .show gK K (kD3 p)::(ksD L).map (gK K)=q.d::psD ps
   rw[g2,h1]
  .rcases c8.mp hr with rfl|hr
   .exact g1
   .exact h3 r hr
  .rcases c8.mp hr with rfl|hr
   .exact⟨q,c9,g3⟩
   .obtain⟨z,hz,ez⟩:=h4 r hr
    exact⟨z,b7 _ hz,ez⟩
theorem z9J: ∀a b:List Int,(So.ltL (erL (iL a)) (erL (iL b))).isSome=true
 |[],b=>by simp[iL,erL,So.ltL]
 |x::a,[]=>by simp[iL,erL,So.ltL]
 |x::a,y::b=>by
  show(So.ltL (.int x::erL (iL a)) (.int y::erL (iL b))).isSome=true
  rw[So.ltL]
  split
  .exact z9J a b
  .simp[So.ltD]
def zhF(p q:Pz):(So.ltD (er p.d) (er q.d)).isSome=true:=by
 erw[Pz.d,er,erL,So.ltD,So.ltL]
 split
 .split
  .split
   .split
    .rfl
    .rfl
   .rfl
  .exact z9J _ _
 .rfl
def z9K{α:Type}(f:α->D)(xs:List α)(h1: ∀a∈xs,(So.hdI (er (f a))&&(er (f a)).canLay0&&decide ((er (f a)).depth<=60))=true)(h2: ∀a∈xs,∀b∈xs,(So.ltD (er (f a)) (er (f b))).isSome=true):z4S (erL (xs.map f))=true:=by
 have mem: ∀{xs:List α} {d:bX},d∈erL (xs.map f)->∃a∈xs,d=er (f a):=by
  intro xs
  induction xs with
  |nil=>intro d h;simp[erL] at h
  |cons p ps ih=>
   intro d h
   have h':d∈er (f p)::erL (ps.map f):=h
   rcases c8.mp h' with rfl|h'
   .exact⟨p,c9,rfl⟩
   .obtain⟨q,hq,e⟩:=ih h'
    exact⟨q,b7 _ hq,e⟩
 delta z4S
 rw[l9,B2,B2]
 refine⟨λd hd=> ?_,λd hd=> ?_⟩
 .obtain⟨p,hp,rfl⟩:=mem hd
  exact h1 p hp
 .obtain⟨p,hp,rfl⟩:=mem hd
  rw[B2]
  intro e he
  obtain⟨q,hq,rfl⟩:=mem he
  exact h2 p hp q hq
def z6Q{α:Type}(f:α->D)(xs:List α): ∃ys:List α,zdC (xs.map f)=ys.map f/\ys.length=xs.length/\(∀y∈ys,y∈xs)/\(xs.length<64->∀x∈xs,x∈ys):=by
 have go: ∀r:List Nat,(∀i∈r,i<xs.length)->∃qs:List α,(r.map λi=>(xs.map f).getD i .non)=qs.map f/\qs.length=r.length/\(∀q∈qs,q∈xs)/\∀i∈r,∀x,xs[i]? =some x->x∈qs:=by
  intro r
  induction r with
  |nil=>intro _;exact⟨[],rfl,rfl,(by intro q hq;cases hq),(by intro q hq;cases hq)⟩
  |cons i r ih=>
   intro h
   obtain⟨qs,h1,h2,h3,h4⟩:=ih λj hj=>h j (b7 _ hj)
   have hi:=h i c9
   refine⟨xs[i]::qs, ?_,by simp[h2],λq hq=> ?_,λj hj x hx=> ?_⟩
   .rw[b8,h1,b8]
    congr 1
    simp[hi]
   .rcases c8.mp hq with rfl|hq
    .exact l6 hi
    .exact h3 q hq
   .rcases c8.mp hj with rfl|hj
    .rw[List.getElem?_eq_getElem hi] at hx
     injection hx with hx
     rw[<-hx];exact c9
    .exact b7 _ (h4 j hj x hx)
 obtain⟨qs,h1,h2,h3,h4⟩:=go (So.perm (xs.map f).length (zd7 (erL (xs.map f)))) λi hi=>by have:=So.perm_lt i hi;simpa using this
 refine⟨qs,h1,by rw[h2,So.perm_len,i5],h3,λhl x hx=> ?_⟩
 obtain⟨i,hi,rfl⟩:=C9 hx
 refine h4 i ?_ _ (List.getElem?_eq_getElem hi)
 refine(So.perm_pm (by simpa using hl)).mem_iff.mpr ?_
 simpa using hi
def zch{l n:Nat}(h:(plainL ds&&z4S (erL ds)&&(qx ds).isEmpty)=true):z7g [.lst l ds] ⟨σ,tm,n⟩= .ok (.lst n (zdC ds)) ⟨σ,tm,n+1⟩:=by
 erw[z7g]
 rw[qy h]
 rfl
def zhG ps:(plainL (psD ps)&&z4S (erL (psD ps))&&(qx (psD ps)).isEmpty)=true:=by
 rw[(zek ps).1.1,z0E,show psD ps=ps.map Pz.d from rfl,z9K Pz.d ps (λp hp=> ?_) (λp _ q _=>zhF p q)]
 .rfl
 .obtain⟨a1,a2,a3⟩:=z02 p.ss
  have d1:(er p.d).depth<=60:=by
   erw[Pz.d,er,erL,PyData.depth,PyData.depthAll,a3];decide
  have d2:(er p.d).canLay0=true:=by erw[Pz.d,er,erL,PyData.canLay0,PyData.canLayAll0,a2,B0]
  have d3:So.hdI (er p.d)=true:=rfl
  rw[d2,d3,decide_eq_true d1];rfl
def zhH(f:Nat->Option D) K:rpL f (vsD K)=vsD K:=by
 induction K with
 |nil=>rfl
 |cons p K ih=>erw[vsD,b8,z4p,z1V] at ih⊢;rw[ih]
def z9L K:qx (vsD K)=[]:=by
 induction K with
 |nil=>rfl
 |cons p K ih=>erw[vsD,b8,qx,qq,l5] at ih⊢;exact ih
def z6R{l m:Nat}(h:l≠m):rp (pl l d) (.dct m (ksD K) (vsD K))= .dct m (ksD K) (vsD K):=by
 erw[rp,pl,qh (λq:m=l=>h q.symm),zhH]
def z5z{m:Nat}:rp (pl m d) (.dct m ks vs)=d:=by erw[rp,pl,if_true]
def z9M{l m:Nat}{c x:Int}(h:l≠m):rp (pl m d) (.lst l [.int c, .int x])= .lst l [.int c, .int x]:=by
 rw[z1y h];rfl
def zkP K:isT (ksD K)=true:=by cases K<;>rfl
def z5A(o:Option D):Prop:=o=none\/∃i:Int,o=some (.int i)
def z5A.fix(h:z5A o)(f:Nat->Option D):m9 (rp f) o=o:=by
 rcases h with rfl|⟨i,rfl⟩<;>rfl
def zci{m:Nat}{K:List Pz}{v:Int}{s:Stt}(h:K.length<=1000):z4f (.dct m (ksD K) (vsD K)) (kD3 p) (.int v) s= .nx (s.put m (.dct m (z7f (ksD K) (nk3 p)) (z56 (ksD K) (vsD K) (nk3 p) (.int v)))):=by
 delta z4f
 erw[tk3]
 rw[qy ⟨zkP K,by rw[zl];erw[ksD,i5];lia,by erw[qq],z9L K⟩]
def zhI{m n:Nat}{K:List Pz}(h:K.length<=1000):zdF (.dct m (ksD K) (vsD K)) ⟨σ,tm,n⟩= .ok (.lst n ((ksD K).map (gK K))) ⟨σ,tm,n+1⟩:=by
 have e:z7h (ksD K) (vsD K)=true:=by
  have e1:(ksD K).all zgH=true:=by
   rw[B2]
   intro d hd
   obtain⟨p,_,rfl⟩:=i0.mp hd
   rfl
  delta z7h
  rw[zkP,z9L,e1,decide_eq_true (by rw[zl];erw[ksD,i5];lia)]
  rfl
 erw[zdF,qy e]
 rfl
def zcj{i j:Int}(h: -(2^62)<=i/\i<2^62/\-(2^62)<=j/\j<2^62):zgo [.int i, .int j] s= .ok (z4x i (j -i).toNat) s:=by erw[zgo,qy h];rfl
def zck:z50 ms s=(Y0 ms s).bnd zgo:=(rfl)
def sgI:D->D
 | .int v=> .int (1000+v*7 %40)
 |_=> .non
def sgM:M D:=(Y7 (z50 [(y0 4),(y0 6)]) (.nm 0) (rt true) (y8 (mC (.int 1000)) (y8 (y8 (y0 0) (mC (.int 7)) z6c) (mC (.int 40)) z3o) K9) 1 [])
def ziB:MS:=(z7y (Z0 y9 [(y0 0),(y0 2)]) (y0 5) (mCB [(y0 6),(mCB [sgM] z6z),(mC (.int 8))] x6) z4f)
def ziC:MS:=(W9 (J8 (.nm 6) (y8 (y8 (y0 4) (mC (.int 1)) K9) (Z0 y9 [(y0 0),(mCB [(mC (.int 4)),(y8 (y0 1) (y0 4) zdi)] zaE)]) K9))
 (z7y (Z0 y9 [(y0 0),(y0 2)]) (y0 5) (mCB [(y0 6),(mCB [(Z0 y9 [(y0 0),(mC (.int 4))])] x6),(Z0 y9 [(y0 0),(mC (.int 8))])] x6) z4f))
def zkb:MS:=(z26 (z1p (y0 3) [(mCB [(bd (y0 5) zdF)] z7g)] z8L))
def zkc{b e:Int}(h4:σ[4]? =some (some (.int b)))(h6:σ[6]? =some (some (.int e)))(hb:0<=b)(hbe:b<e)(he:e<=24) n: ∃(bs:List Int) (n':Nat),bs.length<=24/\n<=n'/\sgM ⟨σ,tm,n⟩= .ok (.lst n' (iL bs)) ⟨σ,tm,n'+1⟩:=by
 obtain⟨n',h1,h2⟩:=z3j (mi:=z50 [(y0 4),(y0 6)]) (K:=z4x b (e -b).toNat) (mt:=rt true) (me:=y8 (mC (.int 1000)) (y8 (y8 (y0 0) (mC (.int 7)) z6c) (mC (.int 40)) z3o) K9) (p:=λ_=>true) (g:=sgI) (items:=U8 b (e -b).toNat) (its:=[]) (ix:=[]) (s:=⟨σ,tm,n⟩) (σ:=σ) (tm:=tm) (n:=n)
  (by
   rw[zck,z2j,z5n,h4]
   left
   rw[h6]
   left
   rw[zcj (by lia)]) rfl (by rw[zl];erw[U8,i5,L5];lia) (λi rest=>zha _ _ _ _) (by simp[z4x,U8]) (λd _ tm n=>⟨n,b9 _,rfl⟩) (λd hd _ tm n=>by
   obtain⟨k,hk,rfl⟩:=i0.mp hd
   rw[O1] at hk
   refine⟨n,b9 _, ?_⟩
   erw[l0]
   left
   rw[z3M (by delta za8;lia)]
   left
   rw[z3f (by decide)]
   left
   rfl)
 rw[z0n] at h2
 have e1:(U8 b (e -b).toNat).map sgI=iL ((B3 (e -b).toNat).map λ(k:Nat)=>1000+(b+(k:Int))*7 %40):=by
  erw[U8,iL,A4];rfl
 rw[e1] at h2
 exact⟨_,n',by erw[i5,L5];lia,h1,h2⟩
def zhJ(l L3 m:Nat)(A:List (Nat×List Pz))(hl:l<L3)(hA: ∀q∈A,l<q.1/\q.1<m)(hm:L3<m)(qj b top e:Int)(hb0:0<=b)(hb1:b<qj)(hm1:qj<=24)(ht0:0<top)(ht1:top<1000000)(hbe:b<e)(hem:e<=qj)(c x:Int)(hbg:Bg c x)(K:List Pz)(hK: ∀q∈K,q.ok qj b)(hKl:K.length<=500)(o7:Option D)(i7:z5A o7)(n:Nat)(hn:m<n):
 ∃(c' x':Int) (K':List Pz) (n':Nat),Bg c' x'/\(∀q∈K',q.ok qj b)/\K'.length<=K.length+1/\(∀q∈K,∃r∈K',r.e=q.e)/\(∃r∈K',r.e=e)/\n<=n'/\ziB ⟨[some (.lst l [.int c, .int x]),some (.int qj),some (.int top),some (.lst L3 (nD A)),some (.int b),some (.dct m (ksD K) (vsD K)),some (.int e),o7],[some (.lst l [.int c, .int x]),some (.int qj)],n⟩= .nx ⟨[some (.lst l [.int c', .int x']),some (.int qj),some (.int top),some (.lst L3 (nD A)),some (.int b),some (.dct m (ksD K') (vsD K')),some (.int e),o7],[some (.lst l [.int c', .int x']),some (.int qj)],n'⟩:=by
 have fA: ∀d,rp (pl l d) (.lst L3 (nD A))= .lst L3 (nD A):=z1Y hl λq hq=>(hA q hq).1
 have fA': ∀d,rp (pl m d) (.lst L3 (nD A))= .lst L3 (nD A):=λd=>Z5 λh=>A8 _ (z4s hm (λq hq=>(hA q hq).2) m h)
 have fD: ∀d,rp (pl l d) (.dct m (ksD K) (vsD K))= .dct m (ksD K) (vsD K):=λd=>z6R (by lia)
 have fB: ∀d (c x:Int),rp (pl m d) (.lst l [.int c, .int x])= .lst l [.int c, .int x]:=λd c x=>z9M (by lia)
 obtain⟨r,c1,x1,r0,r1,b1,e1⟩:=J5 l c x top n hbg ht0 (by lia)
 obtain⟨bs,n2,g1,g2,e2⟩:=zkc (σ:=[some (.lst l [.int c1, .int x1]),some (.int qj),some (.int top),some (.lst L3 (nD A)),some (.int b),some (.dct m (ksD K) (vsD K)),some (.int e),o7]) (tm:=some (.int e)::some (.dct m (ksD K) (vsD K))::some (.int r)::[some (.lst l [.int c1, .int x1]),some (.int qj)]) (b:=b) (e:=e) rfl rfl hb0 hbe (by lia) n
 have pok:(⟨e,bs,8,r⟩:Pz).ok qj b:=⟨hbe,hem,g1,by show(0:Int)<=8;lia,by show(8:Int)<=8;lia⟩
 obtain⟨K',h1,h2,h2',h3,h4⟩:=zkO qj b K ⟨e,bs,8,r⟩ hK pok
 refine⟨c1,x1,K',n2+1,b1,h2,h1,λq hq=>h2' q (.inl hq),h2' _ (.inr rfl),by lia, ?_⟩
 delta ziB
 left
 rw[e1,Y9 rfl rfl rfl (λq=>by left;erw[fA,fD,i7.fix];rfl) (λq=>by left;rfl)]
 left
 rw[e2]
 left
 rw[show D.tup [.int e, .tup (iL bs), .int 8]=kD3 ⟨e,bs,8,r⟩ from rfl,zci (by lia),h3,h4]
 left
 erw[fA',fB,z5z,i7.fix]
def zhK(l L3 m:Nat)(A:List (Nat×List Pz))(hl:l<L3)(hA: ∀q∈A,l<q.1/\q.1<m)(hm:L3<m)(qj b top:Int)(hb0:0<=b)(hb1:b<qj)(hm1:qj<=24)(ht0:0<top)(ht1:top<1000000)(c x:Int)(hbg:Bg c x)(K:List Pz)(hK: ∀q∈K,q.ok qj b)(hKl:K.length<=500)(o6 o7:Option D)(i6:z5A o6)(i7:z5A o7)(n:Nat)(hn:m<n):
 ∃(c' x':Int) (K':List Pz) (o6':Option D) (n':Nat),Bg c' x'/\(∀q∈K',q.ok qj b)/\K'.length<=K.length+1/\(∀q∈K,∃r∈K',r.e=q.e)/\z5A o6'/\n<=n'/\ziC ⟨[some (.lst l [.int c, .int x]),some (.int qj),some (.int top),some (.lst L3 (nD A)),some (.int b),some (.dct m (ksD K) (vsD K)),o6,o7],[some (.lst l [.int c, .int x]),some (.int qj)],n⟩= .nx ⟨[some (.lst l [.int c', .int x']),some (.int qj),some (.int top),some (.lst L3 (nD A)),some (.int b),some (.dct m (ksD K') (vsD K')),o6',o7],[some (.lst l [.int c', .int x']),some (.int qj)],n'⟩:=by
 have fA: ∀d,rp (pl l d) (.lst L3 (nD A))= .lst L3 (nD A):=z1Y hl λq hq=>(hA q hq).1
 have fA': ∀d,rp (pl m d) (.lst L3 (nD A))= .lst L3 (nD A):=λd=>Z5 λh=>A8 _ (z4s hm (λq hq=>(hA q hq).2) m h)
 have fD: ∀d,rp (pl l d) (.dct m (ksD K) (vsD K))= .dct m (ksD K) (vsD K):=λd=>z6R (by lia)
 have fB: ∀d (c x:Int),rp (pl m d) (.lst l [.int c, .int x])= .lst l [.int c, .int x]:=λd c x=>z9M (by lia)
 obtain⟨v,ev,v0,v1⟩: ∃v:Int,(if qj -b<4 then qj -b else 4)=v/\0<v/\v<=qj -b:=⟨_,rfl,by split<;>lia,by split<;>lia⟩
 obtain⟨r2,c2,x2,s0,s1,b2,e2⟩:=J5 l c x v n hbg v0 (by lia)
 obtain⟨co,c3,x3,t0,t1,b3,e3⟩:=J5 l c2 x2 top n b2 ht0 (by lia)
 obtain⟨sg,c4,x4,u0,u1,b4,e4⟩:=J5 l c3 x3 4 n b3 (by decide) (by decide)
 obtain⟨k,c5,x5,k0,k1,b5,e5⟩:=J5 l c4 x4 8 n b4 (by decide) (by decide)
 have pok:(⟨b+1+r2,[sg],k,co⟩:Pz).ok qj b:=⟨by show b<b+1+r2;lia,by show b+1+r2<=qj;lia,by simp,by show 0<=k;lia,by show k<=8;lia⟩
 obtain⟨K',h1,h2,h2',h3,h4⟩:=zkO qj b K ⟨b+1+r2,[sg],k,co⟩ hK pok
 refine⟨c5,x5,K',some (.int (b+1+r2)),n,b5,h2,h1,λq hq=>h2' q (.inl hq), .inr ⟨_,rfl⟩,by lia, ?_⟩
 delta ziC
 left
 rw[ev,e2,Y9 rfl rfl rfl (λq=>by left;erw[fA,fD,i6.fix,i7.fix];rfl) (λq=>by left;rfl)]
 left
 rw[e3,Y9 rfl rfl rfl (λq=>by left;erw[fA,fD,i7.fix];rfl) (λq=>by left;rfl)]
 left
 rw[e4,Y9 rfl rfl rfl (λq=>by left;erw[fA,fD,i7.fix];rfl) (λq=>by left;erw[fA,fD,i7.fix];rfl)]
 left
 rw[e5,Y9 rfl rfl rfl (λq=>by left;erw[fA,fD,i7.fix];rfl) (λq=>by left;erw[fA,fD,i7.fix];rfl)]
 left
 rw[show D.tup [.int (b+1+r2), .tup [.int sg], .int k]=kD3 ⟨b+1+r2,[sg],k,co⟩ from rfl,zci (by lia),h3,h4]
 left
 erw[fA',fB,z5z,i7.fix]
def zhL l L3 m(A:List (Nat×List Pz))(hl:l<L3)(hA: ∀q∈A,l<q.1/\q.1<m)(hAl:A.length<=100)(hm:L3<m) qj b top c x K(hK: ∀q∈K,q.ok qj b)(hKl:K.length<=60) o6 o7(i6:z5A o6)(i7:z5A o7) n(hn:m<n):
 ∃(ps:List Pz) (k n':Nat),ps.length<=60/\(∀q∈ps,q.ok qj b)/\(∀q∈K,∃r∈ps,r.e=q.e)/\n<=k/\k<n'/\zkb ⟨[some (.lst l [.int c, .int x]),some (.int qj),some (.int top),some (.lst L3 (nD A)),some (.int b),some (.dct m (ksD K) (vsD K)),o6,o7],[some (.lst l [.int c, .int x]),some (.int qj)],n⟩= .nx ⟨[some (.lst l [.int c, .int x]),some (.int qj),some (.int top),some (.lst L3 (nD (A++[(k,ps)]))),some (.int b),some (.dct m (ksD K) (vsD K)),o6,o7],[some (.lst l [.int c, .int x]),some (.int qj)],n'⟩:=by
 have fB4: ∀d (c x:Int),rp (pl L3 d) (.lst l [.int c, .int x])= .lst l [.int c, .int x]:=λd c x=>z9M (by lia)
 have fD: ∀d,rp (pl L3 d) (.dct m (ksD K) (vsD K))= .dct m (ksD K) (vsD K):=λd=>z6R (by lia)
 obtain⟨ps,p1,p2,p3,p4⟩:=gKs (K:=K) K λp hp=>hp
 obtain⟨qs,q1,q2,q3,q4⟩:=z6Q Pz.d ps
 have q1':zdC (psD ps)=psD qs:=q1
 refine⟨qs,n+1,n+1+1,by lia,λq hq=>hK q (p3 q (q3 q hq)),λq hq=> ?_,by lia,by lia, ?_⟩
 .obtain⟨z,hz,ez⟩:=p4 q hq
  exact⟨z,q4 (by lia) z hz,ez⟩
 delta zkb
 left
 rw[zhI (by lia),p1]
 left
 rw[zch (zhG ps),q1']
 left
 rw[ze9 ⟨by rw[z1e,zl];lia,by erw[qq,z0E,c8,i3,or_false];lia⟩]
 left
 erw[fB4,fD,i6.fix,i7.fix,zej]
def ziD:MS:=(W9 (J8 (.nm 5) zaN) (W9 (z1A (z50 [(y8 (y0 4) (mC (.int 1)) K9),(y8 (y0 1) (mC (.int 1)) K9)]) (.nm 6) ziB) (W9 (z1A (X4 [(Z0 y9 [(y0 0),(mC (.int 4))])]) (.nm 7) ziC) zkb)))
def zkd:MS:=z1A (X4 [(y0 1)]) (.nm 4) ziD
structure Net(m:Nat)(N:List (Nat×List Pz)):Prop where
 len:N.length=m
 few: ∀q∈N,q.2.length<=60
 ok: ∀i (h:i<N.length),∀p∈N[i].2,p.ok m (i:Nat)
 full: ∀i (h:i<N.length) (e:Int),(i:Int)<e->e<=(m:Int)->∃p∈N[i].2,p.e=e
def zhM(l L3:Nat)(A:List (Nat×List Pz))(hl:l<L3)(hAl:A.length<=99)(qj b top:Int)(hb0:0<=b)(hb1:b<qj)(hm1:qj<=24)(ht0:0<top)(ht1:top<1000000)(c x:Int)(hbg:Bg c x)(o5 o6 o7:Option D)(i6:z5A o6)(i7:z5A o7)(n:Nat)(hn:L3<n)(hA: ∀q∈A,l<q.1/\q.1<n):
 ∃(c' x':Int) (ps:List Pz) (k n':Nat) (o5' o6' o7':Option D),Bg c' x'/\ps.length<=60/\(∀q∈ps,q.ok qj b)/\(∀e,b<e->e<=qj->∃r∈ps,r.e=e)/\n<=k/\k<n'/\z5A o6'/\z5A o7'/\ziD ⟨[some (.lst l [.int c, .int x]),some (.int qj),some (.int top),some (.lst L3 (nD A)),some (.int b),o5,o6,o7],[some (.lst l [.int c, .int x]),some (.int qj)],n⟩= .nx ⟨[some (.lst l [.int c', .int x']),some (.int qj),some (.int top),some (.lst L3 (nD (A++[(k,ps)]))),some (.int b),o5',o6',o7'],[some (.lst l [.int c', .int x']),some (.int qj)],n'⟩:=by
 have fA: ∀d,rp (pl l d) (.lst L3 (nD A))= .lst L3 (nD A):=z1Y hl λq hq=>(hA q hq).1
 obtain⟨s1,e1,c1,x1,K1,p6,n1,b1,k1,k2,k3,j6,hn1,rfl⟩:=z3h (P:=λi s=> ∃(c x:Int) (K:List Pz) (p6:Option D) (n2:Nat),Bg c x/\(∀q∈K,q.ok qj b)/\K.length<=i/\(∀e,b<e->e<=b+(i:Int)->∃r∈K,r.e=e)/\z5A p6/\n+1<=n2/\s=⟨[some (.lst l [.int c, .int x]),some (.int qj),some (.int top),some (.lst L3 (nD A)),some (.int b),some (.dct n (ksD K) (vsD K)),p6,o7],[some (.lst l [.int c, .int x]),some (.int qj)],n2⟩) (lo:=b+1) (N:=(qj -b).toNat) (g:= .nm 6) (b:=ziB) (by
  rintro i hi s ⟨c,x,K,p6,n2,b2,k1,k2,k3,j6,hn2,rfl⟩
  refine⟨_,rfl, ?_⟩
  obtain⟨c',x',K',n',g1,g2,g3,g4,g5,g6,e⟩:=zhJ l L3 n A hl hA hn qj b top (b+1+(i:Int)) hb0 hb1 hm1 ht0 ht1 (by lia) (by lia) c x b2 K k1 (by lia) o7 i7 n2 (by lia)
  refine⟨_,e,c',x',K',_,n',g1,g2,by lia,λe' h1 h2=> ?_, .inr ⟨_,rfl⟩,by lia,rfl⟩
  by_cases q:e'=b+1+(i:Int)
  .subst q;exact g5
  .obtain⟨r,hr,er⟩:=k3 e' h1 (by lia)
   obtain⟨r',hr',er'⟩:=g4 r hr
   exact⟨r',hr',er'.trans er⟩) (qj -b).toNat 0 ⟨[some (.lst l [.int c, .int x]),some (.int qj),some (.int top),some (.lst L3 (nD A)),some (.int b),some (.dct n (ksD []) (vsD [])),o6,o7],[some (.lst l [.int c, .int x]),some (.int qj)],n+1⟩ (by lia) ⟨c,x,[],o6,n+1,hbg,(by intro q hq;cases hq),b9 _,(by intro e h1 h2;lia),i6,b9 _,rfl⟩
 obtain⟨r,c2,x2,r0,r1,b2,e2⟩:=J5 l c1 x1 4 n1 b1 (by decide) (by decide)
 have fD: ∀d,rp (pl l d) (.dct n (ksD K1) (vsD K1))= .dct n (ksD K1) (vsD K1):=λd=>z6R (by lia)
 obtain⟨s3,e3,c3,x3,K3,q6,q7,n3,b3,m1,m2,m3,j6',j7',hn3,rfl⟩:=z3h (P:=λi s=> ∃(c x:Int) (K:List Pz) (p6 p7:Option D) (n2:Nat),Bg c x/\(∀q∈K,q.ok qj b)/\K.length<=K1.length+i/\(∀q∈K1,∃r∈K,r.e=q.e)/\z5A p6/\z5A p7/\n1<=n2/\s=⟨[some (.lst l [.int c, .int x]),some (.int qj),some (.int top),some (.lst L3 (nD A)),some (.int b),some (.dct n (ksD K) (vsD K)),p6,p7],[some (.lst l [.int c, .int x]),some (.int qj)],n2⟩) (lo:=0) (N:=r.toNat) (g:= .nm 7) (b:=ziC) (by
  rintro i hi s ⟨c,x,K,p6,p7,n2,b2,k1,k2,k3,j6,j7,hn2,rfl⟩
  refine⟨_,rfl, ?_⟩
  obtain⟨c',x',K',o6',n',g1,g2,g3,g4,g5,g6,e⟩:=zhK l L3 n A hl hA hn qj b top hb0 hb1 hm1 ht0 ht1 c x b2 K k1 (by lia) p6 (some (.int (0+(i:Int)))) j6 (.inr ⟨_,rfl⟩) n2 (by lia)
  refine⟨_,e,c',x',K',o6',_,n',g1,g2,by lia,λq hq=> ?_,g5, .inr ⟨_,rfl⟩,by lia,rfl⟩
  obtain⟨r,hr,er⟩:=k3 q hq
  obtain⟨r',hr',er'⟩:=g4 r hr
  exact⟨r',hr',er'.trans er⟩) r.toNat 0 ⟨[some (.lst l [.int c2, .int x2]),some (.int qj),some (.int top),some (.lst L3 (nD A)),some (.int b),some (.dct n (ksD K1) (vsD K1)),p6,o7],[some (.lst l [.int c2, .int x2]),some (.int qj)],n1⟩ (by lia) ⟨c2,x2,K1,p6,o7,n1,b2,k1,b9 _,λq hq=>⟨q,hq,rfl⟩,j6,i7,b9 _,rfl⟩
 obtain⟨ps,k,n',a1,a2,a3,a4,a5,e4⟩:=zhL l L3 n A hl hA (by lia) hn qj b top c3 x3 K3 m1 (by lia) q6 q7 j6' j7' n3 (by lia)
 refine⟨c3,x3,ps,k,n',some (.dct n (ksD K3) (vsD K3)),q6,q7,b3,a1,a2,λe h1 h2=> ?_,by lia,a5,j6',j7', ?_⟩
 .obtain⟨r,hr,er⟩:=k3 e h1 (by lia)
  obtain⟨r',hr',er'⟩:=m3 r hr
  obtain⟨r2,hr2,er2⟩:=a3 r' hr'
  exact⟨r2,hr2,er2.trans (er'.trans er)⟩
 delta ziD
 have ed: ∀σ tm,zaN ⟨σ,tm,n⟩= .ok (.dct n [] []) ⟨σ,tm,n+1⟩:=λ_ _=>rfl
 left
 rw[ed]
 left
 rw[zck]
 left
 rw[zcj (by lia)]
 left
 rw[show qj+1 -(b+1)=qj -b by lia,show(D.dct n [] [])= .dct n (ksD []) (vsD []) from rfl,e1]
 left
 rw[e2,Y9 rfl rfl rfl (λq=>by left;erw[fA,fD,j6.fix,i7.fix];rfl) (λq=>by left;rfl)]
 left
 rw[z3N (by lia)]
 left
 rw[e3]
 left
 rw[e4]
def zhN l c x qj(hm:qj<=24) n(hn:l<n)(hbg:Bg c x): ∃(N:List (Nat×List Pz)) (L3:Nat) (c' x':Int) (n':Nat),Net qj N/\n<=L3/\L3<n'/\(∀q∈N,n<=q.1/\q.1<n')/\Bg c' x'/\X2 [.lst l [.int c, .int x], .int (qj:Nat)] n= .ok (.lst L3 (nD N)) [.lst l [.int c', .int x'], .int (qj:Nat)] n':=by
 obtain⟨r,c1,x1,r0,r1,b1,e1⟩:=J5 l c x 3 (n+1) hbg (by decide) (by decide)
 have hv: ∃v:Int,0<v/\v<1000000/\atI [D.int 3,D.int 100,D.int 100000] r=some (.int v):=by
  have:r=0\/r=1\/r=2:=by lia
  rcases this with rfl|rfl|rfl
  .exact⟨_,by decide,by decide,at0⟩
  .exact⟨_,by decide,by decide,at1⟩
  .exact⟨_,by decide,by decide,at2⟩
 obtain⟨v,v0,v1,ev⟩:=hv
 obtain⟨s',e3,A,c3,x3,p4,p5,p6,p7,n3,g1,g2,g3,g3',g4,g5,j6,j7,hn3,rfl⟩:=z3h (P:=λi s=> ∃(A:List (Nat×List Pz)) (c x:Int) (p4 p5 p6 p7:Option D) (n3:Nat),A.length=i/\(∀q∈A,q.2.length<=60)/\(∀i (h:i<A.length),∀p∈A[i].2,p.ok qj (i:Nat))/\(∀i (h:i<A.length) (e:Int),(i:Int)<e->e<=(qj:Int)->∃p∈A[i].2,p.e=e)/\(∀q∈A,n+1<q.1/\q.1<n3)/\Bg c x/\z5A p6/\z5A p7/\n+1+1<=n3/\s=⟨[some (.lst l [.int c, .int x]),some (.int (qj:Nat)),some (.int v),some (.lst (n+1) (nD A)),p4,p5,p6,p7],[some (.lst l [.int c, .int x]),some (.int (qj:Nat))],n3⟩) (lo:=0) (N:=qj) (g:= .nm 4) (b:=ziD) (by
  rintro i hi s ⟨A,c,x,p4,p5,p6,p7,n3,g1,g2,g3,g3',g4,g5,j6,j7,hn3,rfl⟩
  refine⟨_,rfl, ?_⟩
  obtain⟨c',x',ps,k,n',o5',o6',o7',h1,h2,h3,h3',h4,h5,h6,h7,e⟩:=zhM l (n+1) A (by lia) (by lia) (qj:Nat) (0+(i:Int)) v (by lia) (by lia) (by lia) v0 v1 c x g5 p5 p6 p7 j6 j7 n3 (by lia) (λq hq=>by have:=g4 q hq;lia)
  rw[N9] at h3 h3'
  refine⟨_,e,A++[(k,ps)],c',x',_,o5',o6',o7',n',by simp[g1], ?_, ?_, ?_, ?_,h1,h6,h7,by lia,rfl⟩
  .intro q hq
   rcases e9.mp hq with hq|hq
   .exact g2 q hq
   .rw[i4.mp hq];exact h2
  .intro j hj p hp
   by_cases hja:j<A.length
   .rw[P0 hja] at hp
    exact g3 j hja p hp
   .have ej:j=i:=by simp at hj;lia
    subst ej
    rw[E8 (by lia)] at hp
    exact h3 p (by simpa using hp)
  .intro j hj e' q1 q2
   by_cases hja:j<A.length
   .rw[P0 hja]
    exact g3' j hja e' q1 q2
   .have ej:j=i:=by simp at hj;lia
    subst ej
    rw[E8 (by lia)]
    simpa using h3' e' q1 q2
  .intro q hq
   rcases e9.mp hq with hq|hq
   .have:=g4 q hq;lia
   .rw[i4.mp hq];exact⟨by show n+1<k;lia,h5⟩) qj 0 ⟨[some (.lst l [.int c1, .int x1]),some (.int (qj:Nat)),some (.int v),some (.lst (n+1) (nD [])),none,none,none,none],[some (.lst l [.int c1, .int x1]),some (.int (qj:Nat))],n+1+1⟩ (by lia) ⟨[],c1,x1,none,none,none,none,n+1+1,rfl,(by intro q hq;cases hq),(by intro i h;cases h),(by intro i h;cases h),(by intro q hq;cases hq),b1, .inl rfl, .inl rfl,b9 _,rfl⟩
 refine⟨A,n+1,c3,x3,n3,⟨g1,g2,g3,g3'⟩,by lia,by lia,λq hq=>by have:=g4 q hq;lia,g5, ?_⟩
 have e0:z1a=W9 (J8 (.nm 2) (y8 (mCB [(mC (.int 3)),(mC (.int 100)),(mC (.int 100000))] lstM) (Z0 y9 [(y0 0),(mC (.int 3))]) ixD)) (W9 (J8 (.nm 3) (mCB [] lstM)) (W9 zkd (G2 (y0 3)))):=rfl
 have e4:zkd ⟨[some (.lst l [.int c1, .int x1]),some (.int (qj:Nat)),some (.int v),some (.lst (n+1) []),none,none,none,none],[some (.lst l [.int c1, .int x1]),some (.int (qj:Nat))],n+1+1⟩= .nx ⟨[some (.lst l [.int c3, .int x3]),some (.int (qj:Nat)),some (.int v),some (.lst (n+1) (nD A)),p4,p5,p6,p7],[some (.lst l [.int c3, .int x3]),some (.int (qj:Nat))],n3⟩:=by
  delta zkd
  left
  rw[z3N (by lia)]
  left
  rw[t9]
  exact e3
 delta X2
 rw[e0]
 left
 rw[e1,z1d rfl rfl rfl (by left) (by left;rw[z1y (by lia)];left)]
 left
 rw[z1y (by lia)]
 left
 rw[ev]
 left
 rw[e4]
 left
def Wi.fit(N:List (Nat×List Pz)):Wi->Prop
 | .bor g=>1<=g/\g<(N.length:Int)
 | .joi g=>1<=g/\g<(N.length:Int)
 | .spn i j=>0<=i/\i<j/\j<=(N.length:Int)
 | .hld i j bs=>0<=i/\i<j/\j<=(N.length:Int)/\∃(k:Nat) (h:k<N.length),i=(k:Int)/\∃p∈N[k].2,p.e=j/\p.ss=bs
def Net.pos{m:Nat}{N:List (Nat×List Pz)}(h:Net m N){i:Nat}(hi:i<N.length):0<N[i].2.length:=by
 obtain⟨p,hp,_⟩:=h.full i hi (i+1) (by lia) (by have:=h.len;lia)
 exact List.length_pos_of_mem hp
def Wi.fit_ok{m:Nat}(hN:Net m N)(hm:m<=24){w:Wi}(h:w.fit N):w.ok:=by
 have:=hN.len
 cases w with
 |bor g=>erw[Wi.fit,Wi.ok] at h⊢;lia
 |joi g=>erw[Wi.fit,Wi.ok] at h⊢;lia
 |spn i j=>erw[Wi.fit,Wi.ok] at h⊢;lia
 |hld i j bs=>
  erw[Wi.fit,Wi.ok] at h⊢
  obtain⟨h1,h2,h3,k,hk,_,p,hp,_,rfl⟩:=h
  exact⟨⟨h1,h2,by lia⟩,(hN.ok k hk p hp).2.2.1⟩
def zhO(l LN m:Nat)(c x:Int)(N:List (Nat×List Pz))(n:Nat)(h:Bg c x)(hL:l<LN)(hNl: ∀q∈N,l<q.1)(hN:Net m N)(h1:1<=m)(h2:m<=24)(hn:l<n):
 ∃(w:Wi) (c' x':Int) (n':Nat),w.fit N/\Bg c' x'/\n<=n'/\V8 [.lst l [.int c, .int x], .lst LN (nD N)] n= .ok w.d [.lst l [.int c', .int x'], .lst LN (nD N)] n':=by
 have hl:=hN.len
 have fN:=z1Y hL hNl
 obtain⟨wy,c1,x1,w0,w1,b1,e1⟩:=J5 l c x 4 n h (by decide) (by decide)
 obtain⟨bg,c2,x2,g0,g1,b2,e2⟩:=J5 l c1 x1 (N.length:Int) n b1 (by lia) (by lia)
 obtain⟨i,rfl⟩:=B5 g0
 have hi:i<N.length:=by lia
 have hp0:=hN.pos hi
 have fi: ∀d,rp (pl l d) (.lst N[i].1 (psD N[i].2))= .lst N[i].1 (psD N[i].2):=λd=>Z5 λhk=>by
  erw[qq,z0E,c8,i3,or_false] at hk
  have:=hNl _ (l6 hi)
  lia
 obtain⟨r3,c3,x3,t0,t1,b3,e3⟩:=J5 l c2 x2 (N[i].2.length:Int) n b2 (by lia) (by have:=hN.few _ (l6 hi);lia)
 obtain⟨p,hp,ep⟩:=zhn t0 t1
 have pk:=hN.ok i hi p hp
 have px: ∀{s:Stt},ixD p.d (.int 0) s= .ok (.int p.e) s:=λ{s}=>by erw[Pz.d];left
 have px1: ∀{s:Stt},ixD p.d (.int 1) s= .ok (.tup (iL p.ss)) s:=λ{s}=>by erw[Pz.d];left
 have fp: ∀d,rp (pl l d) p.d=p.d:=λd=>Z5 (by erw[Pz.d,qq,qx,g9,e8];exact i3)
 have lp:(psD N[i].2).length=N[i].2.length:=by simp[psD]
 delta V8 z1w
 left
 rw[e1,Y9 rfl rfl rfl (λq=>by left;erw[fN];rfl) (λq=>by left;erw[fN];rfl)]
 left
 rw[z1e,e2,Y9 rfl rfl rfl (λq=>by left;erw[fN];rfl) (λq=>by left;erw[fN];rfl)]
 left
 rw[zel hi (by lia)]
 left
 rw[zel hi (by lia)]
 left
 rw[lp,e3,Y9 rfl rfl rfl (λq=>by left;erw[fN];rfl) (λq=>by left;erw[fN,fi];rfl)]
 left
 rw[ep]
 left
 cases hw:decide (wy<2)&&decide (1<(N.length:Int)) with
 |true=>
  obtain⟨q1,q2⟩:=(l9 _ _).mp hw
  have q3:=of_decide_eq_true q1
  have q4:=of_decide_eq_true q2
  obtain⟨r4,c4,x4,u0,u1,b4,e4⟩:=J5 l c3 x3 ((N.length:Int) - 1) (n+1) b3 (by lia) (by lia)
  have hv: ∃w:Wi,w.fit N/\∃s:Str,atI [D.str "border",D.str "joined"] wy=some (.str s)/\w.d= .tup [.str s, .int (1+r4)]:=by
   have:wy=0\/wy=1:=by lia
   rcases this with rfl|rfl
   .exact⟨.bor (1+r4),⟨by lia,by lia⟩,_,at0,rfl⟩
   .exact⟨.joi (1+r4),⟨by lia,by lia⟩,_,at1,rfl⟩
  obtain⟨w,wf,s,es,ed⟩:=hv
  refine⟨w,c4,x4,n+1,wf,b4,by lia, ?_⟩
  rw[q1]
  left
  rw[q2]
  left
  rw[es]
  left
  rw[e4,Y9 rfl rfl rfl (λq=>by left;erw[fN,fp];rfl) (λq=>by left;erw[fN];rfl)]
  left
  rw[ed]
 |false=>
  cases h2:(wy==2) with
  |true=>
   refine⟨.hld i p.e p.ss,c3,x3,n,⟨by lia,pk.1,by have:=pk.2.1;lia,i,hi,rfl,p,hp,rfl,rfl⟩,b3,b9 _, ?_⟩
   have hwy:wy=2:=by simpa using h2
   rw[show decide (wy<2)=false by rw[hwy];rfl]
   left
   rw[h2]
   left
   rw[px]
   left
   rw[px1]
   left
   rfl
  |false=>
   refine⟨.spn i p.e,c3,x3,n,⟨by lia,pk.1,by have:=pk.2.1;lia⟩,b3,b9 _, ?_⟩
   cases h1:decide (wy<2) with
   |true=>
    rw[h1] at hw
    left
    rw[show decide (1<(N.length:Int))=false by simpa using hw]
    left
    rw[h2]
    left
    rw[px]
    left
    rfl
   |false=>
    left
    rw[h2]
    left
    rw[px]
    left
    rfl
def z6S{K:ItK}{mt:M Bool}{me:M D}{p:D->D->Bool}{g:D->D->D}{items:List (D×D)}{its:List (Option D)}{ix:List Nat}{n:Nat}(hc:mi s= .ok K ⟨σ,its++tm,n⟩)(hk:its.length=K.k)(hz:items.length<qg)(hat: ∀i rest,K.at' i (its++rest)=some ((items[i]?).map λq=> .tup [q.1,q.2]))(hlen:K.len (its++tm)=items.length)
 (hmt: ∀q∈items,∀tm n,∃n',n<=n'/\mt ⟨some q.1::some q.2::(ix.map λi=>(σ[i]?).getD none),tm,n⟩= .ok (p q.1 q.2) ⟨some q.1::some q.2::(ix.map λi=>(σ[i]?).getD none),tm,n'⟩)
 (hme: ∀q∈items,p q.1 q.2=true->∀tm n,∃n',n<=n'/\me ⟨some q.1::some q.2::(ix.map λi=>(σ[i]?).getD none),tm,n⟩= .ok (g q.1 q.2) ⟨some q.1::some q.2::(ix.map λi=>(σ[i]?).getD none),tm,n'⟩):
 ∃n',n<=n'/\Y7 mi (.tp [.nm 0, .nm 1]) mt me 2 ix s= .ok (.lst n' ((items.filter λq=>p q.1 q.2).map λq=>g q.1 q.2)) ⟨σ,tm,n'+1⟩:=by
 have h:=z6i (mi:=mi) (g:= .tp [.nm 0, .nm 1]) (mt:=mt) (me:=me) (p:=λd=>match d with| .tup [x,y]=>p x y|_=>false) (gf:=λd=>match d with| .tup [x,y]=>g x y|_=>d) (items:=items.map λq=> .tup [q.1,q.2]) (ix:=ix) (k:=2) (λd=>match d with| .tup [x,y]=>[some x,some y]|_=>[none,none])
  hc hk (by rw[i5];exact hz) (λi rest=>by rw[hat,List.getElem?_map]) (by rw[i5];exact hlen) (λd hd=>by
   obtain⟨q,hq,rfl⟩:=i0.mp hd
   exact zkK) (λd hd=>by
   obtain⟨q,hq,rfl⟩:=i0.mp hd
   rfl) (λd hd=>by
   obtain⟨q,hq,rfl⟩:=i0.mp hd
   exact hmt q hq) (λd hd hp=>by
   obtain⟨q,hq,rfl⟩:=i0.mp hd
   exact hme q hq hp)
 rw[u02,A4] at h
 exact h
abbrev Ro:=Int×List Pz
def rwd(r:Ro):D:= .tup [.int r.1, .tup (psD r.2)]
def rwD(R:List Ro):List D:=R.map rwd
def kdD(A:List (Nat×List Ro)):List D:=A.map λq=> .lst q.1 (rwD q.2)
def onD(O:List (Nat×List (Nat×List Ro))):List D:=O.map λq=> .lst q.1 (kdD q.2)
abbrev Fk:=Int×Nat×List Ro
noncomputable def fkD(F:List Fk):List D:=F.map λf=> .int f.1
def fvD(F:List Fk):List D:=F.map λf=> .lst f.2.1 (rwD f.2.2)
def Way(X:List (List Pz)):Nat->List Pz->Prop
 |b,[]=>b=X.length
 |b,p::ps=>(∃h:b<X.length,p∈X[b])/\Way X p.e.toNat ps
def Go(X:List (List Pz))(b:Nat):Prop:= ∃ps,Way X b ps
def On(X:List (List Pz)):Prop:= ∀(i:Nat) (h:i<X.length),∀p∈X[i],(i:Int)<p.e/\p.e<=(X.length:Int)/\0<=p.k/\p.k<=8
theorem Way.len{X:List (List Pz)}(hX:On X): ∀{ps:List Pz} {b:Nat},Way X b ps->ps.length+b<=X.length
 |[],b,h=>by erw[Way] at h;simp;lia
 |p::ps,b,h=>by
  erw[Way] at h
  obtain⟨⟨hb,hp⟩,h⟩:=h
  have:=Way.len hX h
  have:=hX b hb p hp
  erw[l8]
  lia
def z1z R:qx (rwD R)=[]:=by
 induction R with
 |nil=>rfl
 |cons r R ih=>erw[rwD,b8,qx,rwd,qq,z0E,e8,l5] at ih⊢;exact ih
def z5B(f:Nat->Option D) R:rpL f (rwD R)=rwD R:=rpL_id (rwD R) λj hj=>by rw[z1z] at hj;cases hj
def z9N{j:Nat}(h:j∈qx (fvD F)): ∃f∈F,f.2.1=j:=by
 obtain⟨e,he,hk⟩:=qv h
 obtain⟨q,hq,rfl⟩:=i0.mp he
 erw[qq,z1z,c8,i3,or_false] at hk
 exact⟨q,hq,hk.symm⟩
noncomputable def upF(F:List Fk)(l:Nat)(R:List Ro):List Fk:=F.map λf=>if f.2.1=l then(f.1,l,R) else f
def zke F l R:fkD (upF F l R)=fkD F:=by
 erw[fkD,upF,A4]
 refine A7 λf _=> ?_
 erw[Function.comp]
 split<;>rfl
def zkf F l R:rpL (pl l (.lst l (rwD R))) (fvD F)=fvD (upF F l R):=by
 induction F with
 |nil=>rfl
 |cons f F ih=>
  erw[fvD,upF,b8,z4p] at ih⊢
  rw[ih]
  congr 1
  by_cases h:f.2.1=l
  .rw[qy h,h,z2s]
  .rw[qh h,z1y h,z5B]
def zeq F k:(∃f∈F,f.1=k/\z28 (fkD F) (fvD F) (.inl k)=some (.lst f.2.1 (rwD f.2.2)))\/((∀f∈F,f.1≠k)/\z28 (fkD F) (fvD F) (.inl k)=none):=by
 induction F with
 |nil=>exact .inr ⟨(by intro f hf;cases hf),rfl⟩
 |cons f F ih=>
  erw[fkD,fvD,b8,z28,U5,Option.some.injEq,Sum.inl.injEq] at ih⊢
  by_cases h:f.1=k
  .rw[qy h];exact .inl ⟨f,c9,h,rfl⟩
  .rw[qh h]
   rcases ih with⟨g,g1,g2,g3⟩|⟨g1,g2⟩
   .exact .inl ⟨g,b7 _ g1,g2,g3⟩
   .refine .inr ⟨λg hg=> ?_,g2⟩
    rcases c8.mp hg with rfl|hg
    .exact h
    .exact g1 g hg
def zhP{k:Int}(h: ∀f∈F,f.1≠k):((fkD F).any λd=>decide (U5 d=some (.inl k)))=false:=by
 rw[S8]
 intro d hd
 obtain⟨f,hf,rfl⟩:=i0.mp hd
 erw[U5,Option.some.injEq,Sum.inl.injEq,decide_eq_true_eq]
 exact h f hf
structure FI(X:List (List Pz))(b lo n c:Nat)(qs:List Pz)(F:List Fk):Prop where
 nod:(F.map (·.1)).Nodup
 key: ∀f∈F,0<=f.1/\f.1<=8
 lab: ∀f∈F,lo<=f.2.1/\f.2.1<n
 few: ∀f∈F,f.2.2.length<=c
 way: ∀f∈F,∀r∈f.2.2,Way X b r.2
 sam: ∀f∈F,∀g∈F,f.2.1=g.2.1->f.2.2=g.2.2
 has: ∀q∈qs,Go X q.e.toNat->∃f∈F,f.2.2≠[]
def FI.mono{X:List (List Pz)}{b lo n n' c:Nat}{qs:List Pz}{F:List Fk}(h:FI X b lo n c qs F)(hn:n<=n'):FI X b lo n' c qs F:=
 ⟨h.nod,h.key,λf hf=>by have:=h.lab f hf;lia,h.few,h.way,h.sam,h.has⟩
def FI.put{X:List (List Pz)}{b lo n c c':Nat}{qs:List Pz}{F:List Fk}(h:FI X b lo n c qs F){f0:Fk}(hf:f0∈F){p:Pz}{R:List Ro}(h1:c+R.length<=c')(h2: ∀r∈R,Way X b r.2)(h3:Go X p.e.toNat->R≠[]):FI X b lo n c' (qs++[p]) (upF F f0.2.1 (f0.2.2++R)):=by
 have mem: ∀f∈upF F f0.2.1 (f0.2.2++R),∃g∈F,f.1=g.1/\f.2.1=g.2.1/\((g.2.1=f0.2.1/\f.2.2=f0.2.2++R)\/(g.2.1≠f0.2.1/\f.2.2=g.2.2)):=by
  intro f hf'
  obtain⟨g,hg,rfl⟩:=i0.mp hf'
  by_cases e:g.2.1=f0.2.1
  .rw[qy e];exact⟨g,hg,rfl,e.symm, .inl ⟨e,rfl⟩⟩
  .rw[qh e];exact⟨g,hg,rfl,rfl, .inr ⟨e,rfl⟩⟩
 refine⟨?_, ?_, ?_, ?_, ?_, ?_, ?_⟩
 .have e:(upF F f0.2.1 (f0.2.2++R)).map (·.1)=F.map (·.1):=by
   erw[upF,A4]
   refine A7 λf _=> ?_
   erw[Function.comp]
   split<;>rfl
  rw[e];exact h.nod
 .intro f hf'
  obtain⟨g,hg,e,_⟩:=mem f hf'
  rw[e];exact h.key g hg
 .intro f hf'
  obtain⟨g,hg,_,e,_⟩:=mem f hf'
  rw[e];exact h.lab g hg
 .intro f hf'
  obtain⟨g,hg,_,_,⟨_,e⟩|⟨_,e⟩⟩:=mem f hf'
  .rw[e,n8];have:=h.few f0 hf;lia
  .rw[e];have:=h.few g hg;lia
 .intro f hf' r hr
  obtain⟨g,hg,_,_,⟨_,e⟩|⟨_,e⟩⟩:=mem f hf'
  .rw[e] at hr
   rcases e9.mp hr with hr|hr
   .exact h.way f0 hf r hr
   .exact h2 r hr
  .rw[e] at hr;exact h.way g hg r hr
 .intro f hf' f' hf'' e
  obtain⟨g,hg,_,e1,q1⟩:=mem f hf'
  obtain⟨g',hg',_,e1',q2⟩:=mem f' hf''
  rcases q1 with⟨a1,a2⟩|⟨a1,a2⟩<;>rcases q2 with⟨b1,b2⟩|⟨b1,b2⟩
  .rw[a2,b2]
  .exact absurd (by rw[<-e1',<-e,e1,a1]) b1
  .exact absurd (by rw[<-e1,e,e1',b1]) a1
  .rw[a2,b2];exact h.sam g hg g' hg' (by rw[<-e1,e,e1'])
 .intro q hq hgo
  rcases e9.mp hq with hq|hq
  .obtain⟨f,hf',hne⟩:=h.has q hq hgo
   by_cases e:f.2.1=f0.2.1
   .refine⟨_,i0.mpr ⟨f,hf',rfl⟩, ?_⟩
    rw[qy e]
    rw[h.sam f hf' f0 hf e] at hne
    show f0.2.2++R≠[]
    intro q;exact hne (C8.mp q).1
   .refine⟨_,i0.mpr ⟨f,hf',rfl⟩, ?_⟩
    rw[qh e];exact hne
  .rw[i4.mp hq] at hgo
   refine⟨_,i0.mpr ⟨f0,hf,rfl⟩, ?_⟩
   rw[qy rfl]
   show f0.2.2++R≠[]
   intro q;exact h3 hgo (C8.mp q).2
def zhQ F l R:(upF F l R).length=F.length:=by simp[upF]
def FI.new{X:List (List Pz)}{b lo n c:Nat}{qs:List Pz}{F:List Fk}(h:FI X b lo n c qs F)(hl:lo<=n){k:Int}(h1: ∀f∈F,f.1≠k)(h2:0<=k/\k<=8):FI X b lo (n+1) c qs (F++[(k,n,[])]):=by
 have mem: ∀f∈F++[(k,n,[])],f∈F\/f=(k,n,[]):=λf hf=>by simpa using hf
 refine⟨?_, ?_, ?_, ?_, ?_, ?_, ?_⟩
 .rw[B1]
  refine List.nodup_append.mpr ⟨h.nod,by simp, ?_⟩
  intro a ha b hb e
  obtain⟨f,hf,rfl⟩:=i0.mp ha
  erw[b8,l0,i4] at hb
  exact h1 f hf (e.trans hb)
 .intro f hf
  rcases mem f hf with hf|rfl
  .exact h.key f hf
  .exact h2
 .intro f hf
  rcases mem f hf with hf|rfl
  .have:=h.lab f hf;lia
  .exact⟨hl,m8 _⟩
 .intro f hf
  rcases mem f hf with hf|rfl
  .exact h.few f hf
  .exact B6 _
 .intro f hf r hr
  rcases mem f hf with hf|rfl
  .exact h.way f hf r hr
  .cases hr
 .intro f hf g hg e
  rcases mem f hf with hf|rfl<;>rcases mem g hg with hg|rfl
  .exact h.sam f hf g hg e
  .have:=(h.lab f hf).2;simp only at e;lia
  .have:=(h.lab g hg).2;simp only at e;lia
  .rfl
 .intro q hq hgo
  obtain⟨f,hf,hne⟩:=h.has q hq hgo
  exact⟨f,e6 _ hf,hne⟩
def zhR{m n:Nat}{F:List Fk}{k:Int}{σ tm:List (Option D)}{c:Nat}(hm:m≠c)(hF:F.length<=1000):
 (∃f∈F,f.1=k/\z5c (.dct m (.non::fkD F) (fvD F)) (.int k) (.lst c []) ⟨σ,tm,n⟩= .ok (.lst f.2.1 (rwD f.2.2)) ⟨σ,tm,n⟩)\/
 ((∀f∈F,f.1≠k)/\z5c (.dct m (.non::fkD F) (fvD F)) (.int k) (.lst c []) ⟨σ,tm,n⟩= .ok (.lst c []) (Stt.put ⟨σ,tm,n⟩ m (.dct m (.non::fkD (F++[(k,c,[])])) (fvD (F++[(k,c,[])]))))):=by
 have e0:(fkD F).length<qg/\m∉qq (.lst c []):=⟨by rw[zl];erw[fkD,i5];lia,by erw[qq,qx,c8,i3,or_false];exact hm⟩
 rcases zeq F k with⟨f,h1,h2,h3⟩|⟨h1,h2⟩
 .refine .inl ⟨f,h1,h2, ?_⟩
  erw[z5c,show U5 (.int k)=some (.inl k) from rfl,qy e0,h3]
 .refine .inr ⟨h1, ?_⟩
  erw[z5c,show U5 (.int k)=some (.inl k) from rfl,qy e0,h2,z8V,z59,zhP h1]
  simp[fkD,fvD,X3,rwD]
def wcM:M D:=(Y7 (Q5 (y8 (y8 (y0 1) (y0 5) ixD) (y0 7) ixD)) (.tp [(.nm 0),(.nm 1)]) (rt true) (mCB [(y8 (y0 2) (y0 0) K9),(y8 (mCB [(y0 3)] x6) (y0 1) K9)] x6) 2 [8,4])
def pcM:MS:=W9 (J8 (.tp [(.nm 5),(.nm 6),(.nm 7),(.nm 8)]) (y0 4)) (W9 (J8 (.nm 9) (z6a (y0 3) (y0 7) (mCB [] lstM))) (z26 (z1p (y0 9) [wcM] z7x)))
def wcG(c:Int)(p:D):D->D->D
 | .int i, .tup ds=> .tup [.int (c+i), .tup (p::ds)]
 |_,_=> .non
structure Onw(X:List (List Pz))(qj b:Nat)(O:List (Nat×List (Nat×List Ro))):Prop where
 len:O.length=X.length+1
 ten: ∀i (h:i<O.length),b<=i->O[i].2.length=10
 few: ∀i (h:i<O.length),b<=i->∀A∈O[i].2,A.2.length<=qj
 way: ∀i (h:i<O.length),b<=i->∀A∈O[i].2,∀r∈A.2,Way X i r.2
 has: ∀i (h:i<O.length),b<=i->∀A∈O[i].2,Go X i->A.2≠[]
def zhS{O:List (Nat×List (Nat×List Ro))}{i:Nat}(hi:i<O.length):atI (onD O) (i:Int)=some (.lst O[i].1 (kdD O[i].2)):=z0J (by lia) (by simp[onD,hi])
def kd_at{A:List (Nat×List Ro)}{i:Nat}(hi:i<A.length):atI (kdD A) (i:Int)=some (.lst A[i].1 (rwD A[i].2)):=z0J (by lia) (by simp[kdD,hi])
def zkg{σ tm:List (Option D)}{Lo e k:Nat}{O:List (Nat×List (Nat×List Ro))}{p:Pz}(s1:σ[1]? =some (some (.lst Lo (onD O))))(s5:σ[5]? =some (some (.int (e:Nat))))(s7:σ[7]? =some (some (.int (k:Nat))))(s8:σ[8]? =some (some (.int p.c)))(s4:σ[4]? =some (some p.d))(he:e<O.length)(hk:k<O[e].2.length)(hR:O[e].2[k].2.length<=100)(hW: ∀r∈O[e].2[k].2,r.2.length<=100) n:
 ∃n',n<=n'/\wcM ⟨σ,tm,n⟩= .ok (.lst n' (rwD (O[e].2[k].2.map λr=>(p.c+r.1,p::r.2)))) ⟨σ,tm,n'+1⟩:=by
 obtain⟨n',h1,h2⟩:=z6S (mi:=Q5 (y8 (y8 (y0 1) (y0 5) ixD) (y0 7) ixD)) (K:=z4d) (mt:=rt true) (me:=(mCB [(y8 (y0 2) (y0 0) K9),(y8 (mCB [(y0 3)] x6) (y0 1) K9)] x6)) (p:=λ_ _=>true) (g:=wcG p.c p.d) (items:=O[e].2[k].2.map λr=>(D.int r.1,D.tup (psD r.2))) (its:=[some (.lst O[e].2[k].1 (rwD O[e].2[k].2))]) (ix:=[8,4]) (s:=⟨σ,tm,n⟩) (σ:=σ) (tm:=tm) (n:=n)
  (z1X (by
   rw[z9h,z9h,z5n,s1]
   left
   rw[s5]
   left
   rw[zhS he]
   left
   rw[s7]
   left
   rw[kd_at hk]
   left
   rfl)) rfl (by rw[zl,i5];lia) (λi rest=>by
   show some (rwD O[e].2[k].2)[i]? =_
   erw[rwD,List.getElem?_map,u06]
   rfl) (by rw[i5];show(rwD O[e].2[k].2).length=_;rw[rwD,i5]) (λq _ tm n=>⟨n,b9 _,rfl⟩) (λq hq _ tm n=>by
   obtain⟨r,hr,rfl⟩:=i0.mp hq
   have:=hW r hr
   refine⟨n,b9 _, ?_⟩
   erw[b8,l0,s8,s4,l7]
   left
   rw[zgZ (by rw[zl];simp[psD];lia)]
   left
   rfl)
 refine⟨n',h1, ?_⟩
 delta wcM
 rw[h2]
 congr 2
 rw[F4.mpr λ_ _=>rfl]
 erw[rwD,A4]
 rfl
def zkh X(hX:On X) b(hb:b<X.length)(hx:X.length<=90) lp Lo m qj(hmany:qj<=100) ps(O:List (Nat×List (Nat×List Ro)))(hO:Onw X qj (b+1) O)(fp: ∀j d,m<=j->rp (pl j d) (.lst lp (psD ps))= .lst lp (psD ps))(fO: ∀j d,m<=j->rp (pl j d) (.lst Lo (onD O))= .lst Lo (onD O))
 (p:Pz) (hp:p∈X[b]) n c qs F (hF:FI X b (m+1) n c qs F) (hFl:F.length<=900) (hc:c<=100000) (hn:m<n) o5 o6 o7 o8 o9 (u9: ∀d,m9 (rp (pl m d)) o9=o9):
 ∃F' o9' n',FI X b (m+1) n' (c+qj) (qs++[p]) F'/\F'.length<=F.length+1/\n<=n'/\(∀d,m9 (rp (pl m d)) o9'=o9')/\pcM ⟨[some (.lst lp (psD ps)),some (.lst Lo (onD O)),some (.int (qj:Nat)),some (.dct m (.non::fkD F) (fvD F)),some p.d,o5,o6,o7,o8,o9],some (.lst lp (psD ps))::[some (.lst lp (psD ps)),some (.lst Lo (onD O)),some (.int (qj:Nat))],n⟩= .nx ⟨[some (.lst lp (psD ps)),some (.lst Lo (onD O)),some (.int (qj:Nat)),some (.dct m (.non::fkD F') (fvD F')),some p.d,some (.int p.e),some (.tup (iL p.ss)),some (.int p.k),some (.int p.c),o9'],some (.lst lp (psD ps))::[some (.lst lp (psD ps)),some (.lst Lo (onD O)),some (.int (qj:Nat))],n'⟩:=by
 obtain⟨e0,e1,k0,k1⟩:=hX b hb p hp
 obtain⟨e,ee⟩:=B5 (show 0<=p.e by lia)
 obtain⟨k,ek⟩:=B5 k0
 have lO:=hO.len
 have he:e<O.length:=by lia
 have hbe:b+1<=e:=by lia
 have hk:k<O[e].2.length:=by rw[hO.ten e he hbe];lia
 have kin:=l6 hk
 have hR:=hO.few e he hbe _ kin
 have hW:=hO.way e he hbe _ kin
 have fpd: ∀j d,rp (pl j d) p.d=p.d:=λj d=>Z5 (by erw[Pz.d,qq,qx,g9,e8];exact i3)
 have fss: ∀j d,rpL (pl j d) (iL p.ss)=iL p.ss:=λj d=>rpL_id (iL p.ss) λj hj=>by rw[g9] at hj;cases hj
 have key: ∀(F1:List Fk) (f:Fk) (n1:Nat),f∈F1->FI X b (m+1) n1 c qs F1->F1.length<=F.length+1->n<=n1->∃F' o9' n',FI X b (m+1) n' (c+qj) (qs++[p]) F'/\F'.length<=F.length+1/\n<=n'/\(∀d,m9 (rp (pl m d)) o9'=o9')/\z26 (z1p (y0 9) [wcM] z7x) ⟨[some (.lst lp (psD ps)),some (.lst Lo (onD O)),some (.int (qj:Nat)),some (.dct m (.non::fkD F1) (fvD F1)),some p.d,some (.int p.e),some (.tup (iL p.ss)),some (.int p.k),some (.int p.c),some (.lst f.2.1 (rwD f.2.2))],some (.lst lp (psD ps))::[some (.lst lp (psD ps)),some (.lst Lo (onD O)),some (.int (qj:Nat))],n1⟩= .nx ⟨[some (.lst lp (psD ps)),some (.lst Lo (onD O)),some (.int (qj:Nat)),some (.dct m (.non::fkD F') (fvD F')),some p.d,some (.int p.e),some (.tup (iL p.ss)),some (.int p.k),some (.int p.c),o9'],some (.lst lp (psD ps))::[some (.lst lp (psD ps)),some (.lst Lo (onD O)),some (.int (qj:Nat))],n'⟩:=by
  intro F1 f n1 hf h1 h2 h3
  have fl:=h1.lab f hf
  obtain⟨n2,g1,g2⟩:=zkg (σ:=[some (.lst lp (psD ps)),some (.lst Lo (onD O)),some (.int (qj:Nat)),some (.dct m (.non::fkD F1) (fvD F1)),some p.d,some (.int p.e),some (.tup (iL p.ss)),some (.int p.k),some (.int p.c),some (.lst f.2.1 (rwD f.2.2))]) (tm:=some (.lst f.2.1 (rwD f.2.2))::some (.lst lp (psD ps))::[some (.lst lp (psD ps)),some (.lst Lo (onD O)),some (.int (qj:Nat))]) (Lo:=Lo) (e:=e) (k:=k) (O:=O) (p:=p) rfl (by rw[<-ee];rfl) (by rw[<-ek];rfl) rfl rfl he hk (by lia) (λr hr=>by have:=(hW r hr).len hX;lia) n1
  refine⟨upF F1 f.2.1 (f.2.2++O[e].2[k].2.map λr=>(p.c+r.1,p::r.2)),some (.lst f.2.1 (rwD (f.2.2++O[e].2[k].2.map λr=>(p.c+r.1,p::r.2)))),n2+1,(h1.put hf (by rw[i5];lia) (λr hr=> ?_) (λhgo=> ?_)).mono (by lia),by rw[zhQ];exact h2,by lia,λd=> ?_, ?_⟩
  .obtain⟨r',hr',rfl⟩:=i0.mp hr
   refine⟨⟨hb,hp⟩, ?_⟩
   have:=hW r' hr'
   rw[ee,t9];exact this
  .rw[ee,t9] at hgo
   have:=hO.has e he hbe _ kin hgo
   simpa using this
  .rw[i9,z1y (by lia),z5B]
  .have ex:z7x (.lst f.2.1 (rwD f.2.2)) [.lst n2 (rwD (O[e].2[k].2.map λr=>(p.c+r.1,p::r.2)))]=λs=> .ok .non (s.put f.2.1 (.lst f.2.1 (rwD (f.2.2++O[e].2[k].2.map λr=>(p.c+r.1,p::r.2))))):=by
    funext s
    erw[z7x,z48,z1z]
    rw[qy ⟨by rw[zl];erw[rwD,i5];have:=h1.few f hf;lia,i3⟩]
    simp[rwD]
   left
   rw[g2]
   left
   rw[ex]
   left
   erw[fp _ _ (show m<=f.2.1 by lia),fO _ _ (show m<=f.2.1 by lia),fpd,fss]
   rw[show rp (pl f.2.1 (.lst f.2.1 (rwD (f.2.2++O[e].2[k].2.map λr=>(p.c+r.1,p::r.2))))) (.dct m (.non::fkD F1) (fvD F1))= .dct m (.non::fkD (upF F1 f.2.1 (f.2.2++O[e].2[k].2.map λr=>(p.c+r.1,p::r.2)))) (fvD (upF F1 f.2.1 (f.2.2++O[e].2[k].2.map λr=>(p.c+r.1,p::r.2)))) by
    rw[zke,<-zkf]
    erw[rp,pl,qh (show ¬m=f.2.1 by lia)]]
 have ea: ∀(a0 a1 a2 a3 a5 a6 a7 a8 a9:Option D) tm n,J8 (.tp [(.nm 5),(.nm 6),(.nm 7),(.nm 8)]) (y0 4) ⟨[a0,a1,a2,a3,some p.d,a5,a6,a7,a8,a9],tm,n⟩= .nx ⟨[a0,a1,a2,a3,some p.d,some (.int p.e),some (.tup (iL p.ss)),some (.int p.k),some (.int p.c),a9],tm,n⟩:=λ_ _ _ _ _ _ _ _ _ _ _=>rfl
 have es: ∀(σ tm:List (Option D)),σ[3]? =some (some (.dct m (.non::fkD F) (fvD F)))->σ[7]? =some (some (.int p.k))->z6a (y0 3) (y0 7) (mCB [] lstM) ⟨σ,tm,n⟩=z5c (.dct m (.non::fkD F) (fvD F)) (.int p.k) (.lst n []) ⟨σ,tm,n+1⟩:=λ σ tm h3 h7=>by
  rw[zhe,z5n,h3]
  left
  rw[show ∀s:Stt,zix (.dct m (.non::fkD F) (fvD F)) s= .ok () (s.psh (.dct m (.non::fkD F) (fvD F))) from λ_=>rfl]
  left
  rw[h7]
  left
 delta pcM
 rw[ze6,ea,zdY,ze6,zec,es _ _ rfl rfl]
 rcases zhR (m:=m) (n:=n+1) (F:=F) (k:=p.k) (σ:=[some (.lst lp (psD ps)),some (.lst Lo (onD O)),some (.int (qj:Nat)),some (.dct m (.non::fkD F) (fvD F)),some p.d,some (.int p.e),some (.tup (iL p.ss)),some (.int p.k),some (.int p.c),o9]) (tm:=some (.lst lp (psD ps))::[some (.lst lp (psD ps)),some (.lst Lo (onD O)),some (.int (qj:Nat))]) (c:=n) (by lia) (by lia) with⟨f,h1,h2,h3⟩|⟨h1,h2⟩
 .rw[h3,z2i]
  obtain⟨F',o9',n',g1,g2,g3,g4,g5⟩:=key F f (n+1) h1 (hF.mono (by lia)) (by lia) (by lia)
  exact⟨F',o9',n',g1,g2,g3,g4,g5⟩
 .rw[h2,z2i]
  obtain⟨F',o9',n',g1,g2,g3,g4,g5⟩:=key (F++[(p.k,n,[])]) (p.k,n,[]) (n+1) (by simp) (hF.new (by lia) h1 ⟨k0,k1⟩) (by simp) (by lia)
  refine⟨F',o9',n',g1,g2,g3,g4, ?_⟩
  rw[<-g5]
  congr 1
  erw[z3g,U3,z1c,i9,z1V,z9n,fp _ _ (b9 m),fO _ _ (b9 m),fpd,fss,z5z]
  rfl
def zcl{ws:List D}{l:Nat}:z5Z ws none (some (l:Int))=ws.take l:=by
 delta z5Z
 rw[HT.sIx_nat,HT.sIx_none,D9,u0d]
 rcases Nat.le_total l ws.length with h|h
 .rw[R0 h]
 .rw[Nat.min_eq_right h,E6,D3 h]
theorem zcm: ∀a b:List Pz,(So.ltL (erL (psD a)) (erL (psD b))).isSome=true
 |[],b=>by simp[psD,erL,So.ltL]
 |x::a,[]=>by simp[psD,erL,So.ltL]
 |x::a,y::b=>by
  show(So.ltL (er x.d::erL (psD a)) (er y.d::erL (psD b))).isSome=true
  rw[So.ltL]
  split
  .exact zcm a b
  .exact zhF x y
def zbg R:plainL (rwD R)=true:=by
 induction R with
 |nil=>rfl
 |cons r R ih=>
  show plainL (rwd r::rwD R)=true
  erw[plainL,rwd,Mi.U4,(zek r.2).1.1,ih,B0]
def zhT R:(plainL (rwD R)&&z4S (erL (rwD R))&&(qx (rwD R)).isEmpty)=true:=by
 rw[zbg,z1z,show rwD R=R.map rwd from rfl,z9K rwd R (λr hr=> ?_) (λr _ r' _=> ?_)]
 .rfl
 .obtain⟨⟨a1,a2⟩,a3⟩:=zek r.2
  have d1:(er (rwd r)).depth<=60:=by
   erw[rwd,er,erL,PyData.depth,PyData.depthAll];lia
  have d2:(er (rwd r)).canLay0=true:=by erw[rwd,er,erL,PyData.canLay0,PyData.canLayAll0,a2,B0]
  have d3:So.hdI (er (rwd r))=true:=rfl
  rw[d2,d3,decide_eq_true d1];rfl
 .erw[rwd,er,erL,So.ltD,So.ltL]
  split
  .split
   .rfl
   .exact zcm _ _
  .rfl
def zer(h:rwd r=rwd r'):r=r':=by
 erw[rwd,D.tup.injEq,List.cons.injEq,D.int.injEq,and_true] at h
 have h2:=congrArg (T0 unP) h.2
 erw[psD,A4] at h2
 have e: ∀ps:List Pz,T0 (unP∘Pz.d) ps=ps:=λps=>(A7 λp _=>z9y p).trans (T9 _)
 rw[e,e] at h2
 exact Prod.ext h.1 h2
def Cut(qj:Nat)(R R':List Ro):Prop:=R'.length<=qj/\(∀r∈R',r∈R)/\(1<=qj->R≠[]->R'≠[])
def zhU qj R: ∃R',Cut qj R R'/\z5Z (zdC (rwD R)) none (some (qj:Int))=rwD R':=by
 obtain⟨ys,h1,h2,h3,_⟩:=z6Q rwd R
 refine⟨ys.take qj,⟨by erw[A3];lia,λr hr=>h3 r (M7 hr),λh hne q=> ?_⟩, ?_⟩
 .have:=congrArg O6 q
  erw[A3,C2] at this
  have:R.length≠0:=λq=>hne (P5.mp q)
  lia
 .rw[show zdC (rwD R)=ys.map rwd from h1,zcl,rwD,u0a]
def zhV{l qj:Nat}{i j:Nat}(hi:σ[i]? =some (some (.lst l (rwD R))))(hj:σ[j]? =some (some (.int (qj:Nat)))) n: ∃R',Cut qj R R'/\mSl (mCB [(y0 i)] z7g) none (some (y0 j)) ⟨σ,tm,n⟩= .ok (.lst (n+1) (rwD R')) ⟨σ,tm,n+2⟩:=by
 obtain⟨R',h1,h2⟩:=zhU qj R
 refine⟨R',h1, ?_⟩
 left
 rw[hi]
 left
 rw[zch (zhT R)]
 left
 rw[hj]
 left
 rw[h2]
def zhW(qj:Nat)(_ b y:D)(n m:Nat):Prop:= ∃l R R' k,b= .lst l (rwD R)/\y= .lst k (rwD R')/\n<=k/\k<m/\Cut qj R R'
theorem z9O: ∀{R R':List Ro},rwD R=rwD R'->R=R'
 |[],[],_=>rfl
 |[],_::_,h=>by simp[rwD] at h
 |_::_,[],h=>by simp[rwD] at h
 |r::R,r'::R',h=>by
  erw[rwD,b8,List.cons.injEq] at h
  rw[zer h.1,z9O (R:=R) (R':=R') h.2]
theorem zkQ{qj:Nat}: ∀{F:List Fk} {ys:List D} {n n':Nat},DcV (zhW qj) (fkD F) (fvD F) ys n n'->n<=n'/\∃G:List Fk,ys=fvD G/\fkD G=fkD F/\(∀g∈G,n<=g.2.1/\g.2.1<n'/\g.2.2.length<=qj/\∃f∈F,g.1=f.1/\∀r∈g.2.2,r∈f.2.2)/\(1<=qj->∀f∈F,f.2.2≠[]->∃g∈G,g.2.2≠[])
 |[],ys,n,n',h=>by
  obtain⟨rfl,rfl⟩:ys=[]/\n'=n:=h
  exact⟨b9 _,[],rfl,rfl,(by intro g hg;cases hg),(by intro _ f hf;cases hf)⟩
 |f::F,ys,n,n',h=>by
  obtain⟨y,r,m,rfl,⟨l,R,R',k,e1,rfl,h1,h2,h3⟩,h4,h5⟩: ∃y r m,ys=y::r/\zhW qj (.int f.1) (.lst f.2.1 (rwD f.2.2)) y n m/\n<=m/\DcV (zhW qj) (fkD F) (fvD F) r m n':=h
  obtain⟨q0,G,rfl,q1,q2,q3⟩:=zkQ h5
  injection e1 with _ e1
  have e2:=z9O e1
  subst e2
  refine⟨by lia,(f.1,k,R')::G,rfl, ?_,λg hg=> ?_,λhm g hg hne=> ?_⟩
  .show D.int f.1::fkD G=D.int f.1::fkD F
   rw[q1]
  .rcases c8.mp hg with rfl|hg
   .exact⟨h1,l4 h2 q0,h3.1,f,c9,rfl,h3.2.1⟩
   .obtain⟨a,b,c,f',hf',d,e⟩:=q2 g hg
    exact⟨by lia,b,c,f',b7 _ hf',d,e⟩
  .rcases c8.mp hg with rfl|hg
   .exact⟨_,c9,h3.2.2 hm hne⟩
   .obtain⟨g',hg',e⟩:=q3 hm g hg hne
    exact⟨g',b7 _ hg',e⟩
structure Wk(X:List (List Pz))(b qj:Nat)(G:List Fk):Prop where
 key: ∀g∈G,0<=g.1/\g.1<=9
 few: ∀g∈G,g.2.2.length<=qj
 way: ∀g∈G,∀r∈g.2.2,Way X b r.2
 has:Go X b->∃g∈G,g.2.2≠[]
 len:G.length<=200
def zes{ps:List Pz}{j:Nat}(h:j<ps.length):(psD ps)[j]? =some ps[j].d:=by simp[psD,h]
def wrM:M D:=(z3J (z2v (y0 3)) (.tp [(.nm 0),(.nm 1)]) (y0 0) (mSl (mCB [(y0 1)] z7g) none (some (y0 2))) 2 [2])
def zki{X:List (List Pz)}{b m n c qj:Nat}{qs:List Pz}{F:List Fk}(hF:FI X b (m+1) n c qs F)(hFl:F.length<=900){a0 a1 a4 a5 a6 a7 a8 a9:Option D}{t0 t1:D}(f0: ∀d,m9 (rp (pl m d)) a0=a0)(f1: ∀d,m9 (rp (pl m d)) a1=a1)(f4: ∀d,m9 (rp (pl m d)) a4=a4)(f5: ∀d,m9 (rp (pl m d)) a5=a5)(f6: ∀d,m9 (rp (pl m d)) a6=a6)(f7: ∀d,m9 (rp (pl m d)) a7=a7)(f8: ∀d,m9 (rp (pl m d)) a8=a8)(f9: ∀d,m9 (rp (pl m d)) a9=a9)(g0: ∀d,rp (pl m d) t0=t0)(g1: ∀d,rp (pl m d) t1=t1):
 ∃ys σ' n',DcV (zhW qj) (fkD F) (fvD F) ys n n'/\wrM ⟨[a0,a1,some (.int (qj:Nat)),some (.dct m (.non::fkD F) (fvD F)),a4,a5,a6,a7,a8,a9],[some t0,some t1,some (.int (qj:Nat))],n⟩= .ok (.dct n' (.non::fkD F) ys) ⟨σ',[some t0,some t1,some (.int (qj:Nat))],n'+1⟩:=by
 have lf:(fvD F).length=(fkD F).length:=by simp[fkD,fvD]
 have kk:fkD F=(F.map λf=>(Sum.inl f.1:Key)).map X3:=by simp[fkD,X3]
 have nd:(F.map λf=>(Sum.inl f.1:Key)).Nodup:=by
  have h:=hF.nod
  refine T2.mpr ?_
  have h':=T2.mp h
  exact h'.imp λh e=>h (by injection e)
 obtain⟨ys,n',h1,h2⟩:=zb9 (S:=zhW qj) (ks:=fkD F) (vs:=fvD F) (kk:=F.map λf=>(Sum.inl f.1:Key)) (g:= .tp [(.nm 0),(.nm 1)]) (mk:=y0 0) (mv:=mSl (mCB [(y0 1)] z7g) none (some (y0 2))) (fr:=λa b=>[some a,some b]) (cap:=[some (.int (qj:Nat))]) (k:=2) (σ0:=[a0,a1,some (.int (qj:Nat)),some (.fdc (.non::fkD F) (fvD F)),a4,a5,a6,a7,a8,a9]) (tm0:=[some t0,some t1,some (.int (qj:Nat))]) (ol:=10) lf kk nd (by rw[zl];erw[fkD,i5];lia) rfl
  (λa b _ _ pre hp=>by
   obtain⟨_,_,rfl⟩:=len2 hp;rfl) (λ_ _=>rfl) (λa b _ _ tm n=>rfl) (λa b ha hb tm n=>by
   obtain⟨f,hf,rfl⟩:=i0.mp hb
   obtain⟨R',r1,r2⟩:=zhV (σ:=[some a,some (.lst f.2.1 (rwD f.2.2))]++[some (.int (qj:Nat))]) (tm:=tm) (l:=f.2.1) (qj:=qj) (R:=f.2.2) (i:=1) (j:=2) rfl rfl n
   exact⟨n+2,_,by lia,⟨f.2.1,f.2.2,R',n+1,rfl,rfl,by lia,by lia,r1⟩,r2⟩) (fkD F).length 0 [] [none,none] n (by simp) rfl rfl
 refine⟨ys,[a0,a1,some (.int (qj:Nat)),some (.fdc (.non::fkD F) (fvD F)),a4,a5,a6,a7,a8,a9],n',h1, ?_⟩
 have e1:z2v (y0 3) ⟨[a0,a1,some (.int (qj:Nat)),some (.dct m (.non::fkD F) (fvD F)),a4,a5,a6,a7,a8,a9],[some t0,some t1,some (.int (qj:Nat))],n⟩= .ok kDitp ⟨[a0,a1,some (.int (qj:Nat)),some (.fdc (.non::fkD F) (fvD F)),a4,a5,a6,a7,a8,a9],[some (.fdc (.non::fkD F) (fvD F)),some t0,some t1,some (.int (qj:Nat))],n⟩:=by
  rw[zc5]
  left
  rw[zc6]
  erw[z3g,z5m,U3,z1c,i9,z1V,f0,f1,f4,f5,f6,f7,f8,f9,g0,g1,z5z]
 delta wrM
 rw[zee,e1,z0I]
 have e2:kDitp.len [some (.fdc (.non::fkD F) (fvD F)),some t0,some t1,some (.int (qj:Nat))]=(fkD F).length:=rfl
 rw[e2]
 exact h2
def zet(X:List (List Pz))(hX:On X)(b:Nat)(hb:b<X.length)(hx:X.length<=90)(lp Lo qj n:Nat)(hmany:qj<=100)(h1m:1<=qj)(hps:X[b].length<=200)(O:List (Nat×List (Nat×List Ro)))(hO:Onw X qj (b+1) O)(up:Up n (.lst lp (psD X[b])))(uO:Up n (.lst Lo (onD O))):
 ∃(G:List Fk) (k n':Nat),Wk X b qj G/\n<=k/\k<n'/\(∀g∈G,n<=g.2.1/\g.2.1<k)/\U1 [.lst lp (psD X[b]), .lst Lo (onD O), .int (qj:Nat)] n= .ok (.dct k (.non::fkD G) (fvD G)) [.lst lp (psD X[b]), .lst Lo (onD O), .int (qj:Nat)] n':=by
 have fp: ∀j d,n<=j->rp (pl j d) (.lst lp (psD X[b]))= .lst lp (psD X[b]):=λj d hj=>Z5 λh=>by have:=up j h;lia
 have fO: ∀j d,n<=j->rp (pl j d) (.lst Lo (onD O))= .lst Lo (onD O):=λj d hj=>Z5 λh=>by have:=uO j h;lia
 have lp':(psD X[b]).length=X[b].length:=by simp[psD]
 have fpd: ∀(p:Pz) j d,rp (pl j d) p.d=p.d:=λp j d=>Z5 (by erw[Pz.d,qq,qx,g9,e8];exact i3)
 obtain⟨s',e1,F,a4,a5,a6,a7,a8,a9,n1,hF,hFl,hn1,v4,v5,v6,v7,v8,v9,rfl⟩:=z3k (K:=z4d) (g:= .nm 4) (b:=pcM) (N:=X[b].length) (item:=λj=>(psD X[b]).getD j .non) (P:=λj s=> ∃F a4 a5 a6 a7 a8 a9 n1,FI X b (n+1) n1 (j*qj) (X[b].take j) F/\F.length<=j/\n+1<=n1/\(∀d,m9 (rp (pl n d)) a4=a4)/\(∀d,m9 (rp (pl n d)) a5=a5)/\(∀d,m9 (rp (pl n d)) a6=a6)/\(∀d,m9 (rp (pl n d)) a7=a7)/\(∀d,m9 (rp (pl n d)) a8=a8)/\(∀d,m9 (rp (pl n d)) a9=a9)/\s=⟨[some (.lst lp (psD X[b])),some (.lst Lo (onD O)),some (.int (qj:Nat)),some (.dct n (.non::fkD F) (fvD F)),a4,a5,a6,a7,a8,a9],some (.lst lp (psD X[b]))::[some (.lst lp (psD X[b])),some (.lst Lo (onD O)),some (.int (qj:Nat))],n1⟩)
  (by
   rintro j s ⟨F,a4,a5,a6,a7,a8,a9,n1,_,_,_,_,_,_,_,_,_,rfl⟩
   show some (psD X[b])[j]? =_
   by_cases hj:j<X[b].length
   .rw[qy hj,List.getD_eq_getElem?_getD,List.getElem?_eq_getElem (by rw[lp'];exact hj)];rfl
   .rw[qh hj,List.getElem?_eq_none (by rw[lp'];lia)])
  (by
   rintro j hj s ⟨F,a4,a5,a6,a7,a8,a9,n1,hF,hFl,hn1,v4,v5,v6,v7,v8,v9,rfl⟩
   have e:(psD X[b]).getD j .non=X[b][j].d:=by rw[List.getD_eq_getElem?_getD,zes hj];rfl
   rw[e]
   refine⟨_,rfl, ?_⟩
   have hc:j*qj<=200*100:=u07 (by lia) hmany
   obtain⟨F',o9',n',g1,g2,g3,g4,g5⟩:=zkh X hX b hb hx lp Lo n qj hmany X[b] O hO fp fO X[b][j] (l6 hj) n1 (j*qj) (X[b].take j) F hF (by lia) (by lia) (by lia) a5 a6 a7 a8 a9 v9
   refine⟨_,g5,F',_,_,_,_,_,o9',n', ?_,by lia,by lia,λd=>by rw[i9,fpd],λd=>rfl,λd=>by rw[i9,Z5 (by erw[qq,g9];exact i3)],λd=>rfl,λd=>rfl,g4,rfl⟩
   have e1:(j+1)*qj=j*qj+qj:=u0f j qj
   have e2:X[b].take (j+1)=X[b].take j++[X[b][j]]:=by rw[B4 hj]
   rw[e1,e2];exact g1) X[b].length 0 ⟨[some (.lst lp (psD X[b])),some (.lst Lo (onD O)),some (.int (qj:Nat)),some (.dct n (.non::fkD []) (fvD [])),none,none,none,none,none,none],some (.lst lp (psD X[b]))::[some (.lst lp (psD X[b])),some (.lst Lo (onD O)),some (.int (qj:Nat))],n+1⟩ (by lia) ⟨[],none,none,none,none,none,none,n+1,⟨u05,(by intro f hf;cases hf),(by intro f hf;cases hf),(by intro f hf;cases hf),(by intro f hf;cases hf),(by intro f hf;cases hf),(by intro q hq;simp at hq)⟩,B6 _,b9 _,λ_=>rfl,λ_=>rfl,λ_=>rfl,λ_=>rfl,λ_=>rfl,λ_=>rfl,rfl⟩
 rw[E6] at hF
 obtain⟨ys,σ',n2,h1,h2⟩:=zki (qj:=qj) hF (by lia) (a0:=some (.lst lp (psD X[b]))) (a1:=some (.lst Lo (onD O))) (t0:= .lst lp (psD X[b])) (t1:= .lst Lo (onD O)) (λd=>by rw[i9,fp _ _ (b9 _)]) (λd=>by rw[i9,fO _ _ (b9 _)]) v4 v5 v6 v7 v8 v9 (λd=>fp _ _ (b9 _)) (λd=>fO _ _ (b9 _))
 obtain⟨q0,G,rfl,q1,q2,q3⟩:=zkQ h1
 refine⟨G,n2,n2+1,⟨λg hg=> ?_,λg hg=>(q2 g hg).2.2.1,λg hg r hr=> ?_,λhgo=> ?_, ?_⟩,by lia,by lia,λg hg=>by have:=q2 g hg;lia, ?_⟩
 .obtain⟨_,_,_,f,hf,e,_⟩:=q2 g hg
  have:=hF.key f hf
  rw[e];lia
 .obtain⟨_,_,_,f,hf,_,e⟩:=q2 g hg
  exact hF.way f hf r (e r hr)
 .obtain⟨ps,hps⟩:=hgo
  cases ps with
  |nil=>erw[Way] at hps;lia
  |cons p ps=>
   obtain⟨⟨_,hp⟩,hps⟩:=hps
   obtain⟨f,hf,hne⟩:=hF.has p hp ⟨ps,hps⟩
   exact q3 h1m f hf hne
 .have:=congrArg O6 q1
  erw[fkD,i5] at this
  lia
 have e0:z0C=(W9 (J8 (.nm 3) zaP) (W9 (z1A (Q5 (y0 0)) (.nm 4) pcM) (G2 wrM))):=rfl
 have ed: ∀σ tm,zaP ⟨σ,tm,n⟩= .ok (.dct n [.non] []) ⟨σ,tm,n+1⟩:=λ_ _=>rfl
 delta U1
 rw[e0]
 left
 rw[ed]
 left
 rw[z1X (m:=y0 0) (l:=lp) (ds:=psD X[b]) (σ:=[some (.lst lp (psD X[b])),some (.lst Lo (onD O)),some (.int (qj:Nat)),some (.dct n [.non] []),none,none,none,none,none,none]) (tm:=[some (.lst lp (psD X[b])),some (.lst Lo (onD O)),some (.int (qj:Nat))]) (n:=n+1) rfl,z2i]
 rw[show z4d.len (some (.lst lp (psD X[b]))::[some (.lst lp (psD X[b])),some (.lst Lo (onD O)),some (.int (qj:Nat))])=(psD X[b]).length from rfl,lp']
 rw[show(.dct n [.non] []:D)= .dct n (.non::fkD []) (fvD []) from rfl,e1]
 show(RS.sq _ (.nx ⟨[some (.lst lp (psD X[b])),some (.lst Lo (onD O)),some (.int (qj:Nat)),some (.dct n (.non::fkD F) (fvD F)),a4,a5,a6,a7,a8,a9],[some (.lst lp (psD X[b])),some (.lst Lo (onD O)),some (.int (qj:Nat))],n1⟩)).fin=_
 left
 rw[h2,q1]
 left
theorem z22: ∀{σ:List (Option D)} {l:Nat},l∈Z4 σ->∃d,some d∈σ/\l∈qq d
 |[],_,h=>nomatch h
 |none::r,l,h=>by
  obtain⟨d,h1,h2⟩:=z22 (σ:=r) h
  exact⟨d,b7 _ h1,h2⟩
 |some d::r,l,h=>by
  rcases e9.mp (show l∈qq d++Z4 r from h) with h|h
  .exact⟨d,c9,h⟩
  .obtain⟨d,h1,h2⟩:=z22 (σ:=r) h
   exact⟨d,b7 _ h1,h2⟩
def z5C{n' n j:Nat}(a1: ∀o∈σ,UpO j o)(a2: ∀o∈tm,UpO j o)(h1: ∀l∈qx ts,j<=l)(h2: ∀l∈qx ts',j<=l):z1I (.ok t ts' n') ts ⟨σ,tm,n⟩= .ok t ⟨σ,tm,n'⟩:=by
 have b1: ∀l∈Z4 σ,l<j:=λl hl=>by
  obtain⟨d,hd,h⟩:=z22 hl
  exact a1 _ hd d rfl l h
 have b2: ∀l∈Z4 tm,l<j:=λl hl=>by
  obtain⟨d,hd,h⟩:=z22 hl
  exact a2 _ hd d rfl l h
 have no: ∀l,l<j->findL l ts'=none:=λl hl=>findL_none _ λh=>by have:=h2 l h;lia
 delta z1I
 dsimp only
 by_cases h:ts'=ts
 .rw[qy h]
 .rw[qh h,qy,z4V _ λk hk=>no k (b1 k hk),z4V _ λk hk=>no k (b2 k hk)]
  intro l hs hl
  have:=h1 l hl
  rcases e9.mp (show l∈Z4 σ++Z4 tm from hs) with h|h
  .have:=b1 l h;lia
  .have:=b2 l h;lia
def rcM:M D:=(Y7 (Q5 (y0 7)) (.tp [(.nm 0),(.nm 1)]) (rt true) (mCB [(y8 (y8 (y0 2) (y0 3) ixD) (y0 0) K9),(y0 1)] x6) 2 [4,6])
def rkM:MS:=z26 (z1p (y0 5) [rcM] z7x)
def rwM:MS:=(W9 (J8 (.nm 5) (mCB [] lstM)) (W9 (z1A (z2v (y0 0)) (.tp [(.nm 6),(.nm 7)]) rkM) (z26 (z1p (y0 3) [(mSl (mCB [(y0 5)] z7g) none (some (y0 2)))] z8L))))
def rcG(v:Int):D->D->D
 | .int i,d=> .tup [.int (v+i),d]
 |_,_=> .non
def zhX{A:List (Nat×List Ro)}:(kdD A).length=A.length:=by simp[kdD]
def zeu{l:Nat}:kdD (A++[(l,R)])=kdD A++[.lst l (rwD R)]:=by simp[kdD]
def z3m{j:Nat}(h:j∈qx (kdD A)): ∃a∈A,a.1=j:=by
 obtain⟨e,he,hk⟩:=qv h
 obtain⟨q,hq,rfl⟩:=i0.mp he
 erw[qq,z1z,c8,i3,or_false] at hk
 exact⟨q,hq,hk.symm⟩
def fdG(G:List Fk):D:= .fdc (.non::fkD G) (fvD G)
def dcG(k:Nat)(G:List Fk):D:= .dct k (.non::fkD G) (fvD G)
def zev G:qx (fkD G)=[]:=by
 induction G with
 |nil=>rfl
 |cons g G ih=>erw[fkD,b8,qx,qq,l5] at ih⊢;exact ih
def z4u{j:Nat}(h:j∈qq (fdG G)): ∃g∈G,g.2.1=j:=z9N (by simpa only[fdG,qq] using h)
def z9P{k j:Nat}(h:j∈qq (dcG k G)):j=k\/∃g∈G,g.2.1=j:=by
 erw[dcG,qq,qx,zev,l5,c8] at h
 rcases h with h|h
 .exact .inl h
 .exact .inr (z9N h)
def zkj{σ tm:List (Option D)}{l:Nat}{R:List Ro}{kd v:Int}(s7:σ[7]? =some (some (.lst l (rwD R))))(s4:σ[4]? =some (some (.tup (iL r))))(s6:σ[6]? =some (some (.int kd)))(hv:atI (iL r) kd=some (.int v))(hR:R.length<=100) n:
 ∃n',n<=n'/\rcM ⟨σ,tm,n⟩= .ok (.lst n' (rwD (R.map λr=>(v+r.1,r.2)))) ⟨σ,tm,n'+1⟩:=by
 obtain⟨n',h1,h2⟩:=z6S (mi:=Q5 (y0 7)) (K:=z4d) (mt:=rt true) (me:=(mCB [(y8 (y8 (y0 2) (y0 3) ixD) (y0 0) K9),(y0 1)] x6)) (p:=λ_ _=>true) (g:=rcG v) (items:=R.map λr=>(D.int r.1,D.tup (psD r.2))) (its:=[some (.lst l (rwD R))]) (ix:=[4,6]) (s:=⟨σ,tm,n⟩) (σ:=σ) (tm:=tm) (n:=n)
  (z1X (by
   rw[z5n,s7]
   left
   rfl)) rfl (by rw[zl,i5];lia) (λi rest=>by
   show some (rwD R)[i]? =_
   erw[rwD,List.getElem?_map,u06]
   rfl) (by rw[i5];show(rwD R).length=_;rw[rwD,i5]) (λq _ tm n=>⟨n,b9 _,rfl⟩) (λq hq _ tm n=>by
   obtain⟨r',hr,rfl⟩:=i0.mp hq
   refine⟨n,b9 _, ?_⟩
   erw[b8,l0,s4,s6,l7]
   left
   rw[hv]
   left
   rfl)
 refine⟨n',h1, ?_⟩
 delta rcM
 rw[h2]
 congr 2
 rw[F4.mpr λ_ _=>rfl]
 erw[rwD,A4]
 rfl
structure Op(X:List (List Pz))(b c:Nat)(G:List Fk)(Q:List Ro):Prop where
 few:Q.length<=c
 way: ∀q∈Q,Way X b q.2
 has: ∀g∈G,g.2.2≠[]->Q≠[]
def zkk X b qj(hmany:qj<=100) G(hG:Wk X b qj G) Rt(hR:R10 Rt) j(hj:j<10) n0(hlab: ∀g∈G,g.2.1<n0)(A:List (Nat×List Ro)) lo n(hlo:n0<lo)(hA: ∀a∈A,n0<a.1/\a.1<lo)(hn:lo<n) c(hc:c<=100000) Q G0(hQ:Op X b c G0 Q)(f:Fk)(hf:f∈G):
 ∃Q' n',Op X b (c+qj) (G0++[f]) Q'/\n<=n'/\rkM ⟨[some (fdG G),some (.tup (rD Rt)),some (.int (qj:Nat)),some (.lst n0 (kdD A)),some (.tup (iL (Rt.getD j []))),some (.lst lo (rwD Q)),some (.int f.1),some (.lst f.2.1 (rwD f.2.2))],[some (fdG G),some (.tup (rD Rt)),some (fdG G),some (.tup (rD Rt)),some (.int (qj:Nat))],n⟩= .nx ⟨[some (fdG G),some (.tup (rD Rt)),some (.int (qj:Nat)),some (.lst n0 (kdD A)),some (.tup (iL (Rt.getD j []))),some (.lst lo (rwD Q')),some (.int f.1),some (.lst f.2.1 (rwD f.2.2))],[some (fdG G),some (.tup (rD Rt)),some (fdG G),some (.tup (rD Rt)),some (.int (qj:Nat))],n'⟩:=by
 have fk:=hG.key f hf
 have hv:atI (iL (Rt.getD j [])) f.1=some (.int (rte Rt j f.1)):=by
  have:=zhE hR (a:=(j:Int)) (b:=f.1) (by lia) (by lia) fk.1 fk.2
  rwa [t9] at this
 obtain⟨n1,h1,h2⟩:=zkj (σ:=[some (fdG G),some (.tup (rD Rt)),some (.int (qj:Nat)),some (.lst n0 (kdD A)),some (.tup (iL (Rt.getD j []))),some (.lst lo (rwD Q)),some (.int f.1),some (.lst f.2.1 (rwD f.2.2))]) (tm:=some (.lst lo (rwD Q))::[some (fdG G),some (.tup (rD Rt)),some (fdG G),some (.tup (rD Rt)),some (.int (qj:Nat))]) rfl rfl rfl hv (by have:=hG.few f hf;lia) n
 refine⟨Q++f.2.2.map λr=>(rte Rt j f.1+r.1,r.2),n1+1,⟨by rw[n8,i5];have:=hQ.few;have:=hG.few f hf;lia,λq hq=> ?_,λg hg hne h=> ?_⟩,by lia, ?_⟩
 .rcases e9.mp hq with hq|hq
  .exact hQ.way q hq
  .obtain⟨r,hr,rfl⟩:=i0.mp hq
   exact hG.way f hf r hr
 .obtain⟨q1,q2⟩:=C8.mp h
  rcases e9.mp hg with hg|hg
  .exact hQ.has g hg hne q1
  .rw[i4.mp hg] at hne
   exact hne (List.map_eq_nil_iff.mp q2)
 .have ex:z7x (.lst lo (rwD Q)) [.lst n1 (rwD (f.2.2.map λr=>(rte Rt j f.1+r.1,r.2)))]=λs=> .ok .non (s.put lo (.lst lo (rwD (Q++f.2.2.map λr=>(rte Rt j f.1+r.1,r.2))))):=by
   funext s
   erw[z7x,z48,z1z]
   rw[qy ⟨by rw[zl];erw[rwD,i5];have:=hQ.few;have:=hG.few f hf;lia,i3⟩]
   simp[rwD]
  have f1: ∀d,rp (pl lo d) (fdG G)=fdG G:=λd=>Z5 λh=>by
   obtain⟨g,hg,e⟩:=z4u h
   have:=hlab g hg;lia
  have f2: ∀d,rp (pl lo d) (.tup (rD Rt))= .tup (rD Rt):=z9H Rt lo
  have f3: ∀d,rp (pl lo d) (.lst n0 (kdD A))= .lst n0 (kdD A):=λd=>Z5 λh=>by
   erw[qq,c8] at h
   rcases h with h|h
   .lia
   .obtain⟨a,ha,e⟩:=z3m h
    have:=hA a ha;lia
  have f4: ∀d,rp (pl lo d) (.tup (iL (Rt.getD j [])))= .tup (iL (Rt.getD j [])):=λd=>Z5 (by erw[qq,g9];exact i3)
  have f5: ∀d,rp (pl lo d) (.lst f.2.1 (rwD f.2.2))= .lst f.2.1 (rwD f.2.2):=λd=>by rw[z1y (by have:=hlab f hf;lia),z5B]
  delta rkM
  rw[z6h,z9m]
  rw[z5n]
  erw[List.getElem?_cons_succ,List.getElem?_cons_zero,z4o,z0I,ze8,z5s,z5m]
  rw[h2]
  erw[z0I,ze0]
  rw[ex]
  erw[z2i,z3g,U3,z1c,i9,z1V,z2s,f1,f2,f3,f4,f5]
structure Ka(X:List (List Pz))(b qj lo n:Nat)(A:List (Nat×List Ro)):Prop where
 lab: ∀a∈A,lo<a.1/\a.1<n
 few: ∀a∈A,a.2.length<=qj
 way: ∀a∈A,∀r∈a.2,Way X b r.2
 has: ∀a∈A,Go X b->a.2≠[]
def Ka.snoc{b qj lo n n' l:Nat}{R:List Ro}(h:Ka X b qj lo n A)(hn:n<=n')(h1:lo<l/\l<n')(h2:R.length<=qj)(h3: ∀r∈R,Way X b r.2)(h4:Go X b->R≠[]):Ka X b qj lo n' (A++[(l,R)]):=by
 have mem: ∀a∈A++[(l,R)],a∈A\/a=(l,R):=λa ha=>by simpa using ha
 refine⟨λa ha=> ?_,λa ha=> ?_,λa ha=> ?_,λa ha=> ?_⟩
 .rcases mem a ha with ha|rfl
  .have:=h.lab a ha;lia
  .exact h1
 .rcases mem a ha with ha|rfl
  .exact h.few a ha
  .exact h2
 .rcases mem a ha with ha|rfl
  .exact h.way a ha
  .exact h3
 .rcases mem a ha with ha|rfl
  .exact h.has a ha
  .exact h4
def zhY{G:List Fk}{i:Nat}(h1:(fkD G)[i]? =some k)(h2:(fvD G)[i]? =some v): ∃h:i<G.length,k= .int G[i].1/\v= .lst G[i].2.1 (rwD G[i].2.2):=by
 have hi:i<G.length:=by
  rcases S6 i G.length with h|h
  .exact h
  .rw[fkD,List.getElem?_map,List.getElem?_eq_none h] at h1;cases h1
 rw[fkD,List.getElem?_map,List.getElem?_eq_getElem hi] at h1
 rw[fvD,List.getElem?_map,List.getElem?_eq_getElem hi] at h2
 injection h1 with h1
 injection h2 with h2
 exact⟨hi,h1.symm,h2.symm⟩
def zkl X b qj(hmany:qj<=100)(h1m:1<=qj) G(hG:Wk X b qj G) Rt(hR:R10 Rt) j(hj:j<10) k n0(hk:k<n0)(hlab: ∀g∈G,g.2.1<n0/\g.2.1≠k)(A:List (Nat×List Ro)) n(hA:Ka X b qj n0 n A)(hAl:A.length<=100)(hn:n0<n) dd(hdd:dd=dcG k G\/dd=fdG G) o5 o6 o7(u6: ∀j d,j=k\/j=n0->m9 (rp (pl j d)) o6=o6)(u7: ∀j d,j=k\/j=n0->m9 (rp (pl j d)) o7=o7):
 ∃l R o5' o6' o7' n',Ka X b qj n0 n' (A++[(l,R)])/\n<=n'/\(∀j d,j=k\/j=n0->m9 (rp (pl j d)) o6'=o6')/\(∀j d,j=k\/j=n0->m9 (rp (pl j d)) o7'=o7')/\rwM ⟨[some dd,some (.tup (rD Rt)),some (.int (qj:Nat)),some (.lst n0 (kdD A)),some (.tup (iL (Rt.getD j []))),o5,o6,o7],[some (.tup (rD Rt)),some dd,some (.tup (rD Rt)),some (.int (qj:Nat))],n⟩= .nx ⟨[some (fdG G),some (.tup (rD Rt)),some (.int (qj:Nat)),some (.lst n0 (kdD (A++[(l,R)]))),some (.tup (iL (Rt.getD j []))),o5',o6',o7'],[some (.tup (rD Rt)),some (fdG G),some (.tup (rD Rt)),some (.int (qj:Nat))],n'⟩:=by
 have f2: ∀j d,rp (pl j d) (.tup (rD Rt))= .tup (rD Rt):=z9H Rt
 have f3: ∀d,rp (pl k d) (.lst n0 (kdD A))= .lst n0 (kdD A):=λd=>Z5 λh=>by
  erw[qq,c8] at h
  rcases h with h|h
  .lia
  .obtain⟨a,ha,e⟩:=z3m h
   have:=(hA.lab a ha).1;lia
 have f4: ∀l d,rp (pl l d) (.tup (iL (Rt.getD j [])))= .tup (iL (Rt.getD j [])):=λl d=>Z5 (by erw[qq,g9];exact i3)
 have ff: ∀d,rp (pl n0 d) (fdG G)=fdG G:=λd=>Z5 λh=>by
  obtain⟨g,hg,e⟩:=z4u h
  have:=hlab g hg;lia
 have e1:z2v (y0 0) ⟨[some dd,some (.tup (rD Rt)),some (.int (qj:Nat)),some (.lst n0 (kdD A)),some (.tup (iL (Rt.getD j []))),some (.lst n []),o6,o7],[some (.tup (rD Rt)),some dd,some (.tup (rD Rt)),some (.int (qj:Nat))],n+1⟩= .ok kDitp ⟨[some (fdG G),some (.tup (rD Rt)),some (.int (qj:Nat)),some (.lst n0 (kdD A)),some (.tup (iL (Rt.getD j []))),some (.lst n (rwD [])),o6,o7],[some (fdG G),some (.tup (rD Rt)),some (fdG G),some (.tup (rD Rt)),some (.int (qj:Nat))],n+1⟩:=by
  rw[zc5]
  left
  rcases hdd with rfl|rfl
  .rw[dcG,zc6]
   have fn: ∀d,rp (pl k d) (.lst n [])= .lst n []:=λd=>by rw[z1y (by lia)];rfl
   erw[z3g,z5m,U3,z1c,i9,z1V,f2,f3,f4,u6 _ _ (.inl rfl),u7 _ _ (.inl rfl),z5z,fn]
   rfl
  .rw[fdG,zhd]
   rfl
 obtain⟨s',e2,Q,p6,p7,n2,q1,q2,q3,q4,rfl⟩:=zb8 (ks:=fkD G) (vs:=fvD G) (g:= .tp [(.nm 6),(.nm 7)]) (b:=rkM) (tm:=[some (.tup (rD Rt)),some (fdG G),some (.tup (rD Rt)),some (.int (qj:Nat))]) (P:=λi s=> ∃Q p6 p7 n2,Op X b (i*qj) (G.take i) Q/\n+1<=n2/\(∀j d,j=k\/j=n0->m9 (rp (pl j d)) p6=p6)/\(∀j d,j=k\/j=n0->m9 (rp (pl j d)) p7=p7)/\s=⟨[some (fdG G),some (.tup (rD Rt)),some (.int (qj:Nat)),some (.lst n0 (kdD A)),some (.tup (iL (Rt.getD j []))),some (.lst n (rwD Q)),p6,p7],[some (fdG G),some (.tup (rD Rt)),some (fdG G),some (.tup (rD Rt)),some (.int (qj:Nat))],n2⟩) (by simp[fkD,fvD]) (by
  rintro i s ⟨Q,p6,p7,n2,_,_,_,_,rfl⟩;rfl) (by
  rintro i kk vv h1 h2 s ⟨Q,p6,p7,n2,q1,q2,q3,q4,rfl⟩
  obtain⟨hi,rfl,rfl⟩:=zhY h1 h2
  have hc:i*qj<=200*100:=u07 (by have:=hG.len;lia) hmany
  obtain⟨Q',n',g1,g2,g3⟩:=zkk X b qj hmany G hG Rt hR j hj n0 (λg hg=>(hlab g hg).1) A n n2 hn hA.lab (by lia) (i*qj) (by lia) Q (G.take i) q1 G[i] (l6 hi)
  refine⟨_,rfl,_,g3,Q',_,_,n', ?_,by lia,λ_ _ _=>rfl,λj d hj=>by rw[i9,z1y (by have:=hlab _ (l6 hi);lia),z5B],rfl⟩
  rw[u0f,B4 hi]
  exact g1) (fkD G).length 0 ⟨[some (fdG G),some (.tup (rD Rt)),some (.int (qj:Nat)),some (.lst n0 (kdD A)),some (.tup (iL (Rt.getD j []))),some (.lst n (rwD [])),o6,o7],[some (fdG G),some (.tup (rD Rt)),some (fdG G),some (.tup (rD Rt)),some (.int (qj:Nat))],n+1⟩ (by lia) ⟨[],o6,o7,n+1,⟨B6 _,(by intro q hq;cases hq),(by intro g hg;simp at hg)⟩,b9 _,u6,u7,rfl⟩
 obtain⟨R',r1,r2⟩:=zhV (σ:=[some (fdG G),some (.tup (rD Rt)),some (.int (qj:Nat)),some (.lst n0 (kdD A)),some (.tup (iL (Rt.getD j []))),some (.lst n (rwD Q)),p6,p7]) (tm:=some (.lst n0 (kdD A))::[some (.tup (rD Rt)),some (fdG G),some (.tup (rD Rt)),some (.int (qj:Nat))]) (l:=n) (qj:=qj) (R:=Q) (i:=5) (j:=2) rfl rfl n2
 have fk:(fkD G).length=G.length:=by simp[fkD]
 have hfull:G.take (fkD G).length=G:=by rw[fk,E6]
 rw[hfull] at q1
 refine⟨n2+1,R',some (.lst n (rwD Q)),p6,p7,n2+2,hA.snoc (by lia) (by lia) r1.1 (λr hr=>q1.way r (r1.2.1 r hr)) (λhgo=>r1.2.2 h1m ?_),by lia,q3,q4, ?_⟩
 .obtain⟨g,hg,hne⟩:=hG.has hgo
  exact q1.has g hg hne
 .delta rwM
  left
  rw[e1,z2i]
  rw[show kDitp.len [some (fdG G),some (.tup (rD Rt)),some (fdG G),some (.tup (rD Rt)),some (.int (qj:Nat))]=(fkD G).length from rfl,e2]
  rw[zdY]
  rw[z6h,z9m,z5n]
  erw[Stt.popn,F0,D9,List.getElem?_cons_succ,List.getElem?_cons_zero,z4o,z0I,ze8,z5s,z5m]
  rw[r2]
  erw[z0I,ze0]
  rw[ze9 ⟨by rw[zhX,zl];lia,by erw[qq,z1z,c8,i3,or_false];lia⟩]
  erw[z2i,z3g,U3,z1c,i9,z1V,z2s,ff,f2,f4,zeu,q3 _ _ (.inr rfl),q4 _ _ (.inr rfl)]
  rw[z1y (show n≠n0 by lia),z5B]
def zhZ X b qj(hmany:qj<=100)(h1m:1<=qj) G(hG:Wk X b qj G) Rt(hR:R10 Rt) k n0(hk:k<n0)(hlab: ∀g∈G,g.2.1<n0/\g.2.1≠k):
 ∃(A:List (Nat×List Ro)) (n':Nat),A.length=10/\Ka X b qj n0 n' A/\n0<n'/\W7 [dcG k G, .tup (rD Rt), .int (qj:Nat)] n0= .ok (.lst n0 (kdD A)) [fdG G, .tup (rD Rt), .int (qj:Nat)] n':=by
 have lR:(rD Rt).length=10:=by rw[rD,i5];exact hR.1
 obtain⟨s',e1,A,dd,p4,p5,p6,p7,n1,a1,a2,a3,a4,a5,a6,a7,rfl⟩:=z3k (K:=zds) (g:= .nm 4) (b:=rwM) (N:=10) (item:=λj=>(rD Rt).getD j .non) (P:=λj s=> ∃A dd p4 p5 p6 p7 n1,A.length=j/\Ka X b qj n0 n1 A/\n0<n1/\(dd=dcG k G\/dd=fdG G)/\(j=10->dd=fdG G)/\(∀j d,j=k\/j=n0->m9 (rp (pl j d)) p6=p6)/\(∀j d,j=k\/j=n0->m9 (rp (pl j d)) p7=p7)/\s=⟨[some dd,some (.tup (rD Rt)),some (.int (qj:Nat)),some (.lst n0 (kdD A)),p4,p5,p6,p7],[some (.tup (rD Rt)),some dd,some (.tup (rD Rt)),some (.int (qj:Nat))],n1⟩)
  (by
   rintro j s ⟨A,dd,p4,p5,p6,p7,n1,_,_,_,_,_,_,_,rfl⟩
   show some (rD Rt)[j]? =_
   by_cases hj:j<10
   .rw[qy hj,List.getD_eq_getElem?_getD,List.getElem?_eq_getElem (by rw[lR];exact hj)];rfl
   .rw[qh hj,List.getElem?_eq_none (by rw[lR];lia)])
  (by
   rintro j hj s ⟨A,dd,p4,p5,p6,p7,n1,a1,a2,a3,a4,a5,a6,a7,rfl⟩
   have e:(rD Rt).getD j .non= .tup (iL (Rt.getD j [])):=by
    have:=hR.1
    simp[rD,show j<Rt.length by lia]
   rw[e]
   refine⟨_,rfl, ?_⟩
   obtain⟨l,R,o5',o6',o7',n',g1,g2,g3,g4,g5⟩:=zkl X b qj hmany h1m G hG Rt hR j hj k n0 hk hlab A n1 a2 (by lia) a3 dd a4 p5 p6 p7 a6 a7
   exact⟨_,g5,A++[(l,R)],_,_,o5',o6',o7',n',by simp[a1],g1,by lia, .inr rfl,λ_=>rfl,g3,g4,rfl⟩) 10 0 ⟨[some (dcG k G),some (.tup (rD Rt)),some (.int (qj:Nat)),some (.lst n0 (kdD [])),none,none,none,none],[some (.tup (rD Rt)),some (dcG k G),some (.tup (rD Rt)),some (.int (qj:Nat))],n0+1⟩ (by lia) ⟨[],_,none,none,none,none,n0+1,rfl,⟨(by intro a ha;cases ha),(by intro a ha;cases ha),(by intro a ha;cases ha),(by intro a ha;cases ha)⟩,m8 _, .inl rfl,(by intro h;lia),λ_ _ _=>rfl,λ_ _ _=>rfl,rfl⟩
 obtain rfl:=a5 rfl
 refine⟨A,n1,a1,a2,a3, ?_⟩
 have e0:V7=(W9 (J8 (.nm 3) (mCB [] lstM)) (W9 (z1A (Q5 (y0 1)) (.nm 4) rwM) (G2 (y0 3)))):=rfl
 have em:Q5 (y0 1) ⟨[some (dcG k G),some (.tup (rD Rt)),some (.int (qj:Nat)),some (.lst n0 []),none,none,none,none],[some (dcG k G),some (.tup (rD Rt)),some (.int (qj:Nat))],n0+1⟩= .ok zds ⟨[some (dcG k G),some (.tup (rD Rt)),some (.int (qj:Nat)),some (.lst n0 []),none,none,none,none],[some (.tup (rD Rt)),some (dcG k G),some (.tup (rD Rt)),some (.int (qj:Nat))],n0+1⟩:=rfl
 delta W7
 rw[e0]
 left
 rw[em,z2i]
 rw[show zds.len [some (.tup (rD Rt)),some (dcG k G),some (.tup (rD Rt)),some (.int (qj:Nat))]=(rD Rt).length from rfl,lR,show(.lst n0 []:D)= .lst n0 (kdD []) from rfl,e1]
 show(RS.sq _ (.nx ⟨[some (fdG G),some (.tup (rD Rt)),some (.int (qj:Nat)),some (.lst n0 (kdD A)),p4,p5,p6,p7],[some (fdG G),some (.tup (rD Rt)),some (.int (qj:Nat))],n1⟩)).fin=_
 left
def fcB:MS:=z7y (Z0 W7 [(Z0 U1 [(y8 (y0 0) (y0 4) ixD),(y0 3),(y0 2)]),(y0 1),(y0 2)]) (y0 3) (y0 4) z8M
def fcM:M D:=(Y7 (Q5 (y8 (y8 (y0 3) (mC (.int 0)) ixD) (mC (.int 9)) ixD)) (.tp [(.nm 0),(.nm 1)]) (rt true) (mCB [(y0 0),(mCB [(y0 1)] z4Z)] x6) 2 [])
def z9Q{O:List (Nat×List (Nat×List Ro))}:(onD O).length=O.length:=by simp[onD]
def zi0{O:List (Nat×List (Nat×List Ro))}{b l:Nat}:(onD O).set b (.lst l (kdD A))=onD (O.set b (l,A)):=by simp[onD,u0e]
def zew{j:Nat}(h:j∈qx (onD O)): ∃q∈O,q.1=j\/∃a∈q.2,a.1=j:=by
 obtain⟨e,he,hk⟩:=qv h
 obtain⟨q,hq,rfl⟩:=i0.mp he
 erw[qq,c8] at hk
 rcases hk with hk|hk
 .exact⟨q,hq, .inl hk.symm⟩
 .obtain⟨a,ha,e⟩:=z3m hk
  exact⟨q,hq, .inr ⟨a,ha,e⟩⟩
def Ol(n:Nat)(O:List (Nat×List (Nat×List Ro))):Prop:= ∀q∈O,q.1<n/\∀a∈q.2,a.1<n
def Ol.up{n L:Nat}(h:Ol n O)(hL:L<n):Up n (.lst L (onD O)):=λj hj=>by
 erw[qq,c8] at hj
 rcases hj with rfl|hj
 .exact hL
 .obtain⟨q,hq,e⟩:=zew hj
  have:=h q hq
  rcases e with rfl|⟨a,ha,rfl⟩
  .exact this.1
  .exact this.2 a ha
def Ol.set{n n' b l:Nat}{O:List (Nat×List (Nat×List Ro))}(h:Ol n O)(hn:n<=n')(hl:l<n')(hA: ∀a∈A,a.1<n'):Ol n' (O.set b (l,A)):=λq hq=>by
 rcases O5 hq with hq|rfl
 .have:=h q hq
  exact⟨by lia,λa ha=>by have:=this.2 a ha;lia⟩
 .exact⟨hl,hA⟩
def Onw.set{qj b l lo n:Nat}{O:List (Nat×List (Nat×List Ro))}{A:List (Nat×List Ro)}(h:Onw X qj (b+1) O)(hA:Ka X b qj lo n A)(ha:A.length=10):Onw X qj b (O.set b (l,A)):=by
 have hl:(O.set b (l,A)).length=O.length:=by simp
 have get: ∀i (hi:i<(O.set b (l,A)).length),b<=i->(i=b/\(O.set b (l,A))[i].2=A)\/(b+1<=i/\∃h':i<O.length,(O.set b (l,A))[i].2=O[i].2):=λi hi hb=>by
  by_cases e:i=b
  .subst e;exact .inl ⟨rfl,by simp⟩
  .exact .inr ⟨by lia,by lia,by rw[List.getElem_set_ne (by lia)]⟩
 refine⟨by rw[hl];exact h.len,λi hi hb=> ?_,λi hi hb=> ?_,λi hi hb=> ?_,λi hi hb=> ?_⟩
 .rcases get i hi hb with⟨rfl,e⟩|⟨h1,h2,e⟩
  .rw[e];exact ha
  .rw[e];exact h.ten i h2 h1
 .rcases get i hi hb with⟨rfl,e⟩|⟨h1,h2,e⟩
  .rw[e];exact hA.few
  .rw[e];exact h.few i h2 h1
 .rcases get i hi hb with⟨rfl,e⟩|⟨h1,h2,e⟩
  .rw[e];exact hA.way
  .rw[e];exact h.way i h2 h1
 .rcases get i hi hb with⟨rfl,e⟩|⟨h1,h2,e⟩
  .rw[e];exact hA.has
  .rw[e];exact h.has i h2 h1
def zkm(Nt:List (Nat×List Pz))(hX:On (Nt.map (·.2)))(hx:Nt.length<=90)(hP: ∀q∈Nt,q.2.length<=200) Rt(hR:R10 Rt) qj(hmany:qj<=100)(h1m:1<=qj) L0 L b n(hb:b<Nt.length)(O:List (Nat×List (Nat×List Ro)))(hO:Onw (Nt.map (·.2)) qj (b+1) O)(ol:Ol n O)(hL0:L0<L)(hl: ∀q∈Nt,q.1<L)(hL:L<n):
 ∃O' n',Onw (Nt.map (·.2)) qj b O'/\Ol n' O'/\n<=n'/\fcB ⟨[some (.lst L0 (nD Nt)),some (.tup (rD Rt)),some (.int (qj:Nat)),some (.lst L (onD O)),some (.int (b:Nat))],[some (.lst L0 (nD Nt)),some (.tup (rD Rt)),some (.int (qj:Nat))],n⟩= .nx ⟨[some (.lst L0 (nD Nt)),some (.tup (rD Rt)),some (.int (qj:Nat)),some (.lst L (onD O')),some (.int (b:Nat))],[some (.lst L0 (nD Nt)),some (.tup (rD Rt)),some (.int (qj:Nat))],n'⟩:=by
 have eX:(Nt.map (·.2)).length=Nt.length:=by simp
 have upP:Up n (.lst Nt[b].1 (psD Nt[b].2)):=z5t (by have:=hl _ (l6 hb);lia) λe he j hj=>by
  have:=z4q he hj;rw[z0E] at this;cases this
 obtain⟨G,k,n1,hG,k1,k2,k3,e1⟩:=zet (Nt.map (·.2)) hX b (by lia) (by lia) Nt[b].1 L qj n hmany h1m (by rw[B7];exact hP _ (l6 hb)) O hO (by rw[B7];exact upP) (ol.up hL)
 rw[B7] at e1
 obtain⟨A,n2,a1,a2,a3,e2⟩:=zhZ (Nt.map (·.2)) b qj hmany h1m G hG Rt hR k n1 k2 (λg hg=>by have:=k3 g hg;lia)
 have lO:=hO.len
 have uR:UpO n (some (.tup (rD Rt))):=UpO.of λj hj=>by
  erw[qq] at hj
  obtain⟨e,he,hk⟩:=qv hj
  obtain⟨r,_,rfl⟩:=i0.mp he
  erw[qq,g9] at hk;cases hk
 have uN:UpO n (some (.lst L0 (nD Nt))):=UpO.of (z4s (by lia) λq hq=>by have:=hl q hq;lia)
 have hmem: ∀o∈([some (.lst L0 (nD Nt)),some (.tup (rD Rt)),some (.int (qj:Nat)),some (.lst L (onD O)),some (.int (b:Nat))]:List (Option D)),UpO n o:=λo ho=>by
  erw[c8,i3,or_false] at ho
  rcases ho with rfl|rfl|rfl|rfl|rfl
  .exact uN
  .exact uR
  .exact UpO.int
  .exact UpO.of (ol.up hL)
  .exact UpO.int
 have hmem2: ∀o∈([some (.lst L0 (nD Nt)),some (.tup (rD Rt)),some (.int (qj:Nat))]:List (Option D)),UpO n o:=λo ho=>by
  erw[c8,i3,or_false] at ho
  rcases ho with rfl|rfl|rfl
  .exact uN
  .exact uR
  .exact UpO.int
 have hrt:qx (rD Rt)=[]:=by
  refine L9.mpr λj hj=> ?_
  obtain⟨e,he,hk⟩:=qv hj
  obtain⟨r,_,rfl⟩:=i0.mp he
  erw[qq,g9] at hk;cases hk
 have fL: ∀d,rp (pl L d) (.lst L0 (nD Nt))= .lst L0 (nD Nt):=λd=>Z5 λh=>by
  have:=z4s (k:=L) hL0 hl L h;lia
 refine⟨O.set b (n1,A),n2,hO.set a2 a1,ol.set (by lia) a3 λa ha=>(a2.lab a ha).2,by lia, ?_⟩
 delta fcB
 left
 rw[zel hb (by lia)]
 left
 rw[e1]
 left
 rw[show D.dct k (.non::fkD G) (fvD G)=dcG k G from rfl,e2,z5C hmem hmem2 (λj hj=> ?_) (λj hj=> ?_)]
 .left
  rw[ze7 (j:=b) (by rw[z9Q,zce (by lia) (by lia),t9]) (λh=>by
   erw[qq,c8] at h
   rcases h with h|h
   .lia
   .obtain⟨a,ha,e⟩:=z3m h
    have:=(a2.lab a ha).1;lia),zi0]
  erw[z3g,U3,z1c,i9,z1V,z2s,fL,z9H]
 .erw[qx,hrt,qq,l5,e8] at hj
  rcases z9P hj with rfl|⟨g,hg,rfl⟩
  .exact k1
  .exact(k3 g hg).1
 .erw[qx,hrt,qq,l5,e8] at hj
  obtain⟨g,hg,rfl⟩:=z4u hj
  exact(k3 g hg).1
def zi1{n N:Nat}(h:N<=1000):zeO [.int (N:Nat)] ⟨σ,tm,n⟩= .ok (z4g ((N:Int) - 1) (-1) N) ⟨σ,tm,n⟩:=by
 rw[zhc (by lia),t9]
def zcn(Nt:List (Nat×List Pz))(hX:On (Nt.map (·.2)))(hx:Nt.length<=90)(hP: ∀q∈Nt,q.2.length<=200) Rt(hR:R10 Rt) qj(hmany:qj<=100)(h1m:1<=qj) L0 n(hL0:L0<n)(hl: ∀q∈Nt,q.1<n):
 ∃(R:List Ro) (k L n':Nat) (O:List (Nat×List (Nat×List Ro))) (o4:Option D),R.length<=qj/\(∀r∈R,Way (Nt.map (·.2)) 0 r.2)/\(Go (Nt.map (·.2)) 0->R≠[])/\n<=n'/\(y8 (y8 (y0 3) (mC (.int 0)) ixD) (mC (.int 9)) ixD) ⟨[some (.lst L0 (nD Nt)),some (.tup (rD Rt)),some (.int (qj:Nat)),some (.lst L (onD O)),o4],[some (.lst L0 (nD Nt)),some (.tup (rD Rt)),some (.int (qj:Nat))],n'⟩= .ok (.lst k (rwD R)) ⟨[some (.lst L0 (nD Nt)),some (.tup (rD Rt)),some (.int (qj:Nat)),some (.lst L (onD O)),o4],[some (.lst L0 (nD Nt)),some (.tup (rD Rt)),some (.int (qj:Nat))],n'⟩/\
  Z9 [.lst L0 (nD Nt), .tup (rD Rt), .int (qj:Nat)] n=(G2 fcM ⟨[some (.lst L0 (nD Nt)),some (.tup (rD Rt)),some (.int (qj:Nat)),some (.lst L (onD O)),o4],[some (.lst L0 (nD Nt)),some (.tup (rD Rt)),some (.int (qj:Nat))],n'⟩).fin:=by
 have eX:(Nt.map (·.2)).length=Nt.length:=by simp
 have hrt:qx (rD Rt)=[]:=by
  refine L9.mpr λj hj=> ?_
  obtain⟨e,he,hk⟩:=qv hj
  obtain⟨r,_,rfl⟩:=i0.mp he
  erw[qq,g9] at hk;cases hk
 have uR: ∀m,UpO m (some (.tup (rD Rt))):=λm=>UpO.of λj hj=>by erw[qq,hrt] at hj;cases hj
 have uN: ∀m,n<=m->UpO m (some (.lst L0 (nD Nt))):=λm hm=>UpO.of (z4s (by lia) λq hq=>by have:=hl q hq;lia)
 obtain⟨ys,L,g0,⟨g1,O0,rfl,g2,g2'⟩,e1⟩:=z9A (mi:=Q5 (y0 0)) (K:=z4d) (me:=mCB [] lstM) (PL:=λm acc=>n<=m/\∃O0:List (Nat×List (Nat×List Ro)),acc=onD O0/\(∀q∈O0,q.1<m/\q.2=[])/\True) (items:=nD Nt) (its:=[some (.lst L0 (nD Nt))]) (ix:=[]) (s:=⟨[some (.lst L0 (nD Nt)),some (.tup (rD Rt)),some (.int (qj:Nat)),none,none],[some (.lst L0 (nD Nt)),some (.tup (rD Rt)),some (.int (qj:Nat))],n⟩) (σ:=[some (.lst L0 (nD Nt)),some (.tup (rD Rt)),some (.int (qj:Nat)),none,none]) (tm:=[some (.lst L0 (nD Nt)),some (.tup (rD Rt)),some (.int (qj:Nat))]) (n:=n) rfl rfl (by rw[z1e,zl];lia) (λ_ _=>rfl) rfl
  ⟨b9 _,[],rfl,(by intro q hq;cases hq),trivial⟩ (by
   rintro acc hi tm m ⟨q1,O0,rfl,q2,_⟩
   refine⟨.lst m [],m+1,⟨by lia,O0++[(m,[])],by simp[onD,kdD],λq hq=> ?_,trivial⟩,rfl⟩
   rcases e9.mp hq with hq|hq
   .have:=q2 q hq;exact⟨by lia,this.2⟩
   .rw[i4.mp hq];exact⟨m8 _,rfl⟩)
 have lO0:O0.length=Nt.length:=by rw[z9Q,z1e] at g0;exact g0
 let G0:List Fk:=[(9,L+1+1,[((0:Int),([]:List Pz))])]
 have hG0:Wk (Nt.map (·.2)) Nt.length qj G0:=by
  refine⟨λg hg=> ?_,λg hg=> ?_,λg hg r hr=> ?_,λ_=>⟨_,i4.mpr rfl,by simp⟩,by simp[G0]⟩
  .rw[i4.mp hg];exact⟨by show(0:Int)<=9;lia,by show(9:Int)<=9;lia⟩
  .rw[i4.mp hg];show 1<=qj;exact h1m
  .rw[i4.mp hg] at hr
   rw[i4.mp hr]
   show Nt.length=(Nt.map (·.2)).length
   exact eX.symm
 obtain⟨A0,n1,a1,a2,a3,e2⟩:=zhZ (Nt.map (·.2)) Nt.length qj hmany h1m G0 hG0 Rt hR (L+1) (L+1+1+1) (by lia) (λg hg=>by rw[i4.mp hg];exact⟨by show L+1+1<_;lia,by show L+1+1≠_;lia⟩)
 have oO0:Ol (L+1) O0:=λq hq=>by
  have:=g2 q hq
  rw[this.2]
  exact⟨by lia,(by intro a ha;cases ha)⟩
 have hO1:Onw (Nt.map (·.2)) qj Nt.length (O0++[(L+1+1+1,A0)]):=by
  have last: ∀i (hi:i<(O0++[(L+1+1+1,A0)]).length),Nt.length<=i->i=Nt.length/\(O0++[(L+1+1+1,A0)])[i].2=A0:=λi hi hb=>by
   have:i=Nt.length:=by simp[lO0] at hi;lia
   refine⟨this, ?_⟩
   rw[E8 (by lia)]
   simp
  refine⟨by simp[lO0],λi hi hb=> ?_,λi hi hb=> ?_,λi hi hb=> ?_,λi hi hb=> ?_⟩
  .obtain⟨rfl,e⟩:=last i hi hb;rw[e];exact a1
  .obtain⟨rfl,e⟩:=last i hi hb;rw[e];exact a2.few
  .obtain⟨rfl,e⟩:=last i hi hb;rw[e];exact a2.way
  .obtain⟨rfl,e⟩:=last i hi hb;rw[e];exact a2.has
 have oO1:Ol n1 (O0++[(L+1+1+1,A0)]):=λq hq=>by
  rcases e9.mp hq with hq|hq
  .have:=oO0 q hq
   exact⟨by lia,λa ha=>by have:=this.2 a ha;lia⟩
  .rw[i4.mp hq]
   exact⟨a3,λa ha=>(a2.lab a ha).2⟩
 obtain⟨s',e3,O,o4,n3,b1,b2,b3,rfl⟩:=zb7 (P:=λi s=> ∃O o4 n3,Onw (Nt.map (·.2)) qj (Nt.length -i) O/\Ol n3 O/\n1<=n3/\s=⟨[some (.lst L0 (nD Nt)),some (.tup (rD Rt)),some (.int (qj:Nat)),some (.lst L (onD O)),o4],[some (.lst L0 (nD Nt)),some (.tup (rD Rt)),some (.int (qj:Nat))],n3⟩) (lo:=(Nt.length:Int) - 1) (c:= -1) (N:=Nt.length) (g:= .nm 4) (b:=fcB) (by
  rintro i hi s ⟨O,o4,n3,b1,b2,b3,rfl⟩
  refine⟨_,rfl, ?_⟩
  have eb:(Nt.length:Int) - 1+(i:Int)*(-1)=((Nt.length -(i+1):Nat):Int):=by lia
  rw[eb]
  obtain⟨O',n4,h1,h2,h3,h4⟩:=zkm Nt hX hx hP Rt hR qj hmany h1m L0 L (Nt.length -(i+1)) n3 (by lia) O (by rw[show Nt.length -(i+1)+1=Nt.length -i by lia];exact b1) b2 (by lia) (λq hq=>by have:=hl q hq;lia) (by lia)
  exact⟨_,h4,O',_,n4,h1,h2,by lia,rfl⟩) Nt.length 0 ⟨[some (.lst L0 (nD Nt)),some (.tup (rD Rt)),some (.int (qj:Nat)),some (.lst L (onD (O0++[(L+1+1+1,A0)]))),none],[some (.lst L0 (nD Nt)),some (.tup (rD Rt)),some (.int (qj:Nat))],n1⟩ (by lia) ⟨_,none,n1,hO1,oO1,b9 _,rfl⟩
 rw[S7] at b1
 have l3:=b1.len
 have t3:=b1.ten 0 (by lia) (b9 _)
 have h0:0<O.length:=by lia
 have h9:9<O[0].2.length:=by lia
 have k3:=l6 h9
 refine⟨O[0].2[9].2,O[0].2[9].1,L,n3,O,o4,b1.few 0 (by lia) (b9 _) _ k3,b1.way 0 (by lia) (b9 _) _ k3,b1.has 0 (by lia) (b9 _) _ k3,by lia, ?_, ?_⟩
 .left
  rw[show(0:Int)=((0:Nat):Int) from rfl,zhS h0]
  left
  rw[show(9:Int)=((9:Nat):Int) from rfl,kd_at h9]
  left
 have e0:U2=(W9 (J8 (.nm 3) (Y7 (Q5 (y0 0)) (.nm 0) (rt true) (mCB [] lstM) 1 []))
  (W9 (z26 (z1p (y0 3) [(Z0 W7 [(z3K (mC (.int 9)) (mCB [(mCB [(mC (.int 0)),(mCB [] x6)] x6)] lstM)),(y0 1),(y0 2)])] z8L))
  (W9 (z1A (z90 [(mCB [(y0 0)] z4Y)]) (.nm 4) fcB) (G2 fcM)))):=rfl
 have ed: ∀σ tm,z3K (mC (.int 9)) (mCB [(mCB [(mC (.int 0)),(mCB [] x6)] x6)] lstM) ⟨σ,tm,L+1⟩= .ok (dcG (L+1) G0) (Stt.put ⟨σ,tm,L+1+1+1⟩ (L+1) (dcG (L+1) G0)):=λ σ tm=>by
  have:(L+1)∉qq (D.lst (L+1+1) [.tup [.int 0, .tup []]]):=by erw[qq,qx,e8,c8,i3,or_false];lia
  show dpP (.dct (L+1) [.non] []) (.int 9) (.lst (L+1+1) [.tup [.int 0, .tup []]]) ⟨σ,tm,L+1+1+1⟩=_
  erw[dpP,U5,qy this]
  rfl
 have uL: ∀m,L<m->L+1<=m->UpO m (some (.lst L (onD O0))):=λm h1 h2=>UpO.of λj hj=>by have:=oO0.up (m8 L) j hj;lia
 delta Z9
 rw[e0]
 left
 rw[e1]
 left
 rw[ed]
 left
 have fN: ∀d,rp (pl (L+1) d) (.lst L0 (nD Nt))= .lst L0 (nD Nt):=λd=>Z5 λh=>by
  have:=z4s (k:=n) hL0 hl _ h;lia
 have fO: ∀d,rp (pl (L+1) d) (.lst L (onD O0))= .lst L (onD O0):=λd=>Z5 λh=>by
  have:=oO0.up (m8 L) _ h;lia
 have fN': ∀d,rp (pl L d) (.lst L0 (nD Nt))= .lst L0 (nD Nt):=λd=>Z5 λh=>by
  have:=z4s (k:=n) hL0 hl _ h;lia
 erw[fN,fO,z5y]
 have a1': ∀o∈([some (.lst L0 (nD Nt)),some (.tup (rD Rt)),some (.int (qj:Nat)),some (.lst L (onD O0)),none]:List (Option D)),UpO (L+1) o:=λo ho=>by
  erw[c8,i3,or_false] at ho
  rcases ho with rfl|rfl|rfl|rfl|rfl
  .exact uN _ (by lia)
  .exact uR _
  .exact UpO.int
  .exact uL _ (by lia) (by lia)
  .exact UpO.none
 have a2': ∀o∈([some (.lst L (onD O0)),some (.lst L0 (nD Nt)),some (.tup (rD Rt)),some (.int (qj:Nat))]:List (Option D)),UpO (L+1) o:=λo ho=>by
  erw[c8,i3,or_false] at ho
  rcases ho with rfl|rfl|rfl|rfl
  .exact uL _ (by lia) (by lia)
  .exact uN _ (by lia)
  .exact uR _
  .exact UpO.int
 rw[e2,z5C a1' a2' (λj hj=> ?_) (λj hj=> ?_)]
 .left
  rw[ze9 ⟨by rw[z9Q,zl];lia,λh=>by
   erw[qq,c8] at h
   rcases h with h|h
   .lia
   .obtain⟨a,ha,e⟩:=z3m h
    have:=(a2.lab a ha).1;lia⟩]
  left
  rw[fN']
  erw[z5y]
  rw[zhb]
  left
  rw[z1e,zi1 (by lia)]
  rw[show onD O0++[.lst (L+1+1+1) (kdD A0)]=onD (O0++[(L+1+1+1,A0)]) by simp[onD]]
  rw[z2i,show ∀lo c N tm,(z4g lo c N).len tm=N from λ_ _ _ _=>rfl,e3]
  left
 .erw[qx,hrt,qq,l5,e8] at hj
  rcases z9P hj with rfl|⟨g,hg,rfl⟩
  .exact b9 _
  .rw[i4.mp hg];show L+1<=L+1+1;lia
 .erw[qx,hrt,qq,l5,e8] at hj
  obtain⟨g,hg,rfl⟩:=z4u hj
  rw[i4.mp hg];show L+1<=L+1+1;lia
def zi2{t:List D}{k n:Nat}(h:(y8 (y8 (y0 3) (mC (.int 0)) ixD) (mC (.int 9)) ixD) ⟨[a,b,c,o,d4],t.map some,n⟩= .ok (.lst k (rwD [])) ⟨[a,b,c,o,d4],t.map some,n⟩):(G2 fcM ⟨[a,b,c,o,d4],t.map some,n⟩).fin= .ok (.lst n []) t (n+1):=by
 have e:=z1X h
 have e1:fcM ⟨[a,b,c,o,d4],t.map some,n⟩= .ok (.lst n []) ⟨[a,b,c,o,d4],t.map some,n+1⟩:=by
  delta fcM Y7
  erw[bd,e]
  show z00 z4d (.tp [.nm 0, .nm 1]) (rt true) (mCB [y0 0,mCB [y0 1] z4Z] x6) 5 0 0 0 ⟨[none,none],[a,b,c,o,d4]++(some (.lst k [])::t.map some),n⟩=_
  delta z00
  rfl
 rw[z9k,e1,z2i,zdZ,z0a]
 rfl
def zi3{t:List D}{k n:Nat}{r:Ro}(h:(y8 (y8 (y0 3) (mC (.int 0)) ixD) (mC (.int 9)) ixD) ⟨[a,b,c,o,d4],t.map some,n⟩= .ok (.lst k (rwD [r])) ⟨[a,b,c,o,d4],t.map some,n⟩):(G2 fcM ⟨[a,b,c,o,d4],t.map some,n⟩).fin= .ok (.lst (n+1) [.tup [.int r.1, .lst n (psD r.2)]]) t (n+1+1):=by
 have e:=z1X h
 have e1:fcM ⟨[a,b,c,o,d4],t.map some,n⟩= .ok (.lst (n+1) [.tup [.int r.1, .lst n (psD r.2)]]) ⟨[a,b,c,o,d4],t.map some,n+1+1⟩:=by
  unfold fcM Y7
  erw[bd,e]
  have e2:z00 z4d (.tp [.nm 0, .nm 1]) (rt true) (mCB [y0 0,mCB [y0 1] z4Z] x6) 5 1 0 0 ⟨[none,none],[a,b,c,o,d4]++(some (.lst k [rwd r])::t.map some),n⟩=z00 z4d (.tp [.nm 0, .nm 1]) (rt true) (mCB [y0 0,mCB [y0 1] z4Z] x6) 5 0 1 1 ⟨[some (.int r.1),some (.tup (psD r.2))],some (.tup [.int r.1, .lst n (psD r.2)])::([a,b,c,o,d4]++(some (.lst k [rwd r])::t.map some)),n+1⟩:=by
   conv=>lhs;unfold z00
   rfl
  refine Eq.trans e2 ?_
  unfold z00
  rfl
 rw[z9k,e1,z2i,zdZ,z0a]
 rfl
def zi4(Nt:List (Nat×List Pz))(hX:On (Nt.map (·.2)))(hx:Nt.length<=90)(hP: ∀q∈Nt,q.2.length<=200) Rt(hR:R10 Rt) qj(hmany:qj<=100)(h1m:1<=qj) L0 n(hL0:L0<n)(hl: ∀q∈Nt,q.1<n)(hno: ¬Go (Nt.map (·.2)) 0):
 ∃n',n<=n'/\Z9 [.lst L0 (nD Nt), .tup (rD Rt), .int (qj:Nat)] n= .ok (.lst n' []) [.lst L0 (nD Nt), .tup (rD Rt), .int (qj:Nat)] (n'+1):=by
 obtain⟨R,k,L,n',O,o4,h1,h2,h3,h4,h5,h6⟩:=zcn Nt hX hx hP Rt hR qj hmany h1m L0 n hL0 hl
 have hR:R=[]:=by
  cases R with
  |nil=>rfl
  |cons r R=>exact absurd ⟨r.2,h2 r c9⟩ hno
 subst hR
 exact⟨n',h4,h6.trans (zi2 (t:=[.lst L0 (nD Nt), .tup (rD Rt), .int (qj:Nat)]) h5)⟩
def zi5(Nt:List (Nat×List Pz))(hX:On (Nt.map (·.2)))(hx:Nt.length<=90)(hP: ∀q∈Nt,q.2.length<=200) Rt(hR:R10 Rt) L0 n(hL0:L0<n)(hl: ∀q∈Nt,q.1<n)(hgo:Go (Nt.map (·.2)) 0):
 ∃(r:Ro) (n':Nat),Way (Nt.map (·.2)) 0 r.2/\n<=n'/\Z9 [.lst L0 (nD Nt), .tup (rD Rt), .int 1] n= .ok (.lst (n'+1) [.tup [.int r.1, .lst n' (psD r.2)]]) [.lst L0 (nD Nt), .tup (rD Rt), .int 1] (n'+1+1):=by
 obtain⟨R,k,L,n',O,o4,h1,h2,h3,h4,h5,h6⟩:=zcn Nt hX hx hP Rt hR 1 (by lia) (b9 _) L0 n hL0 hl
 have hne:=h3 hgo
 match R,h1,h2,h5,hne with
 |[r],_,h2,h5,_=>exact⟨r,n',h2 r c9,h4,h6.trans (zi3 (t:=[.lst L0 (nD Nt), .tup (rD Rt), .int 1]) h5)⟩
noncomputable def st:Int->List Pz->List (Int×Pz)
 |_,[]=>[]
 |b,p::ps=>(b,p)::st p.e ps
def bds(b:Int)(ps:List Pz):List Int:=b::ps.map (·.e)
def kept(ps:List Pz):Wi->Prop
 | .bor g=>g∈bds 0 ps
 | .joi g=>g∉bds 0 ps
 | .spn i j=> ∃p,(i,p)∈st 0 ps/\p.e=j
 | .hld i j bs=> ∃p,(i,p)∈st 0 ps/\p.e=j/\p.ss=bs
def z6T(h:eqP (.tup (iL a)) (.tup (iL b))=true):a=b:=by
 erw[eqP,er,PyData.eqv] at h
 induction a generalizing b with
 |nil=>
  cases b with
  |nil=>rfl
  |cons y b=>simp[iL,erL,PyData.eqvAll] at h
 |cons x a ih=>
  cases b with
  |nil=>simp[iL,erL,PyData.eqvAll] at h
  |cons y b=>
   have h':(PyData.eqv (.int x) (.int y)&&PyData.eqvAll (erL (iL a)) (erL (iL b)))=true:=h
   rw[l9] at h'
   have h1:(x==y)=true:=h'.1
   rw[eq_of_beq h1,ih h'.2]
def z2m a:eqP (.tup (iL a)) (.tup (iL a))=true:=by
 erw[eqP,er,PyData.eqv]
 induction a with
 |nil=>rfl
 |cons x a ih=>
  show(PyData.eqv (.int x) (.int x)&&PyData.eqvAll (erL (iL a)) (erL (iL a)))=true
  rw[ih,u08]
  show(x==x)=true
  simp
def Tk(T:List (List Pz))(W:List Wi):Prop:= ∀(i:Nat) (h:i<T.length),∀p∈T[i],∀w∈W,kpB (i:Nat) p w=true
section
variable{T:List (List Pz)}{W:List Wi}(hT:On T)(hk:Tk T W)
include hT hk
theorem zi6{g:Int}(hw:Wi.bor g∈W): ∀{ps:List Pz} {b:Nat},Way T b ps->(b:Int)<=g->g<=T.length->g∈bds b ps
 |[],b,h,h1,h2=>by
  erw[Way] at h
  have:g=(b:Int):=by lia
  rw[this];exact c9
 |p::ps,b,h,h1,h2=>by
  obtain⟨⟨hb,hp⟩,h⟩:=h
  have q:=hk b hb p hp _ hw
  obtain⟨e0,e1,_⟩:=hT b hb p hp
  erw[kpB,O8,R4,decide_eq_false_iff_not] at q
  by_cases e:g=(b:Int)
  .rw[e];exact c9
  .have:=zi6 hw h (by lia) h2
   rw[B8 (by lia)] at this
   exact b7 _ this
theorem zi7{g:Int}(hw:Wi.joi g∈W): ∀{ps:List Pz} {b:Nat},Way T b ps->(b:Int)≠g->g∉bds b ps
 |[],b,_,h1=>by
  erw[bds,l0,i4]
  exact λq=>h1 q.symm
 |p::ps,b,h,h1=>by
  obtain⟨⟨hb,hp⟩,h⟩:=h
  have q:=hk b hb p hp _ hw
  obtain⟨e0,e1,_⟩:=hT b hb p hp
  erw[kpB,l9,O8,beq_eq_false_iff_ne,ne_eq] at q
  have:=zi7 hw h (by rw[B8 (by lia)];exact q.2)
  rw[B8 (by lia)] at this
  intro hm
  rcases c8.mp hm with rfl|hm
  .exact h1 rfl
  .exact this hm
theorem zi8{i j:Int}(hw:Wi.spn i j∈W)(hij:i<j)(hj:j<=T.length): ∀{ps:List Pz} {b:Nat},Way T b ps->(b:Int)<=i->∃p,(i,p)∈st b ps/\p.e=j
 |[],b,h,h1=>by erw[Way] at h;lia
 |p::ps,b,h,h1=>by
  obtain⟨⟨hb,hp⟩,h⟩:=h
  have q:=hk b hb p hp _ hw
  obtain⟨e0,e1,_⟩:=hT b hb p hp
  erw[kpB,N4,l9,decide_eq_true_eq,beq_iff_eq] at q
  rcases q with(q|q)|⟨q1,q2⟩
  .obtain⟨p',h3,h4⟩:=zi8 hw hij hj h (by lia)
   rw[B8 (by lia)] at h3
   exact⟨p',b7 _ h3,h4⟩
  .lia
  .exact⟨p,by rw[<-q1];exact c9,q2⟩
theorem zi9{i j:Int}(hw:Wi.hld i j bs∈W)(hij:i<j)(hj:j<=T.length): ∀{ps:List Pz} {b:Nat},Way T b ps->(b:Int)<=i->∃p,(i,p)∈st b ps/\p.e=j/\p.ss=bs
 |[],b,h,h1=>by erw[Way] at h;lia
 |p::ps,b,h,h1=>by
  obtain⟨⟨hb,hp⟩,h⟩:=h
  have q:=hk b hb p hp _ hw
  obtain⟨e0,e1,_⟩:=hT b hb p hp
  erw[kpB,N4,l9,decide_eq_true_eq,beq_iff_eq] at q
  rcases q with(q|q)|⟨⟨q1,q2⟩,q3⟩
  .obtain⟨p',h3,h4⟩:=zi9 hw hij hj h (by lia)
   rw[B8 (by lia)] at h3
   exact⟨p',b7 _ h3,h4⟩
  .lia
  .exact⟨p,by rw[<-q1];exact c9,q2,z6T q3⟩
def z4v{N:List (Nat×List Pz)}(hN:N.length=T.length){w:Wi}(hw:w∈W)(hf:w.fit N)(h:Way T 0 ps):kept ps w:=by
 cases w with
 |bor g=>exact zi6 hT hk hw h (by have:=hf.1;show(0:Int)<=g;lia) (by have:=hf.2;lia)
 |joi g=>exact zi7 hT hk hw h (by have:=hf.1;show(0:Int)≠g;lia)
 |spn i j=>
  obtain⟨h1,h2,h3⟩:=hf
  exact zi8 hT hk hw h2 (by lia) h h1
 |hld i j bs=>
  obtain⟨h1,h2,h3,_⟩:=hf
  exact zi9 hT hk hw h2 (by lia) h h1
omit hk
theorem z7v: ∀{ps:List Pz} {b:Nat} {i:Int} {p:Pz},Way T b ps->(i,p)∈st b ps->(b:Int)<=i/\i<p.e/\i∈bds b ps/\p.e∈bds b ps
 |[],_,_,_,_,h=>by simp[st] at h
 |p::ps,b,i,p',h,hm=>by
  obtain⟨⟨hb,hp⟩,h⟩:=h
  obtain⟨e0,e1,_⟩:=hT b hb p hp
  rcases c8.mp hm with e|hm
  .injection e with a b;subst a b
   exact⟨u00 _,e0,c9,b7 _ c9⟩
  .rw[show p.e=((p.e.toNat:Nat):Int) by lia] at hm
   obtain⟨h1,h2,h3,h4⟩:=z7v h hm
   rw[B8 (by lia)] at h3 h4
   exact⟨by lia,h2,b7 _ h3,b7 _ h4⟩
theorem zia: ∀{ps:List Pz} {b:Nat} {g:Int},Way T b ps->g∈bds b ps->(b:Int)<=g
 |[],b,g,_,hm=>by erw[bds,l0,i4] at hm;lia
 |p::ps,b,g,h,hm=>by
  obtain⟨⟨hb,hp⟩,h⟩:=h
  obtain⟨e0,e1,_⟩:=hT b hb p hp
  rcases c8.mp hm with e|hm
  .lia
  .have hm':g∈bds ((p.e.toNat:Nat):Int) ps:=by rw[B8 (by lia)];exact hm
   have:=zia h hm'
   lia
theorem z9R: ∀{ps:List Pz} {b:Nat} {i g:Int} {p:Pz},Way T b ps->(i,p)∈st b ps->i<g->g<p.e->g∉bds b ps
 |[],_,_,_,_,_,h=>by simp[st] at h
 |p::ps,b,i,g,p',h,hm=>by
  obtain⟨⟨hb,hp⟩,h⟩:=h
  obtain⟨e0,e1,_⟩:=hT b hb p hp
  have ee:p.e=((p.e.toNat:Nat):Int):=by lia
  intro h1 h2 hg
  rcases c8.mp hm with e|hm
  .injection e with a b;subst a b
   rcases c8.mp hg with e|hg
   .lia
   .have hm':g∈bds ((p'.e.toNat:Nat):Int) ps:=by rw[<-ee];exact hg
    have:=zia hT h hm'
    lia
  .rw[ee] at hm
   have lo:=(z7v hT h hm).1
   rcases c8.mp hg with e|hg
   .lia
   .have hm':g∈bds ((p.e.toNat:Nat):Int) ps:=by rw[<-ee];exact hg
    exact z9R h hm h1 h2 hm'
theorem zco: ∀{ps:List Pz} {b:Nat} {i:Int} {p q:Pz},Way T b ps->(i,p)∈st b ps->(i,q)∈st b ps->p=q
 |[],_,_,_,_,_,h,_=>by simp[st] at h
 |p0::ps,b,i,p,q,h,hm,hm'=>by
  obtain⟨⟨hb,hp⟩,h⟩:=h
  obtain⟨e0,e1,_⟩:=hT b hb p0 hp
  have ee:p0.e=((p0.e.toNat:Nat):Int):=by lia
  rcases c8.mp hm with e|hm<;>rcases c8.mp hm' with e'|hm'
  .injection e with a b;injection e' with a' b';rw[b,b']
  .injection e with a b;rw[ee] at hm';have:=(z7v hT h hm').1;lia
  .injection e' with a b;rw[ee] at hm;have:=(z7v hT h hm).1;lia
  .rw[ee] at hm hm'
   exact zco h hm hm'
def z3Q(h:Way T 0 ps){w:Wi}(hw:kept ps w):(∀g∈w.wants,g∈bds 0 ps)/\∀g∈w.bars,g∉bds 0 ps:=by
 cases w with
 |bor g=>exact⟨λz hz=>by rw[i4.mp hz];exact hw,(by intro z hz;cases hz)⟩
 |joi g=>exact⟨(by intro z hz;cases hz),λz hz=>by rw[i4.mp hz];exact hw⟩
 |spn i j=>
  obtain⟨p,hp,rfl⟩:=hw
  obtain⟨a1,a2,a3,a4⟩:=z7v hT h hp
  refine⟨λz hz=> ?_,λz hz=> ?_⟩
  .erw[Wi.wants,c8,i3,or_false] at hz
   rcases hz with rfl|rfl
   .exact a3
   .exact a4
  .have:(z0m (i+1) (p.e -(i+1)).toNat).contains z=true:=by erw[t7,decide_eq_true_eq];exact hz
   rw[mem_range,decide_eq_true_eq] at this
   exact z9R hT h hp (by lia) (by lia)
 |hld i j bs=>
  obtain⟨p,hp,rfl,rfl⟩:=hw
  obtain⟨a1,a2,a3,a4⟩:=z7v hT h hp
  refine⟨λz hz=> ?_,λz hz=> ?_⟩
  .erw[Wi.wants,c8,i3,or_false] at hz
   rcases hz with rfl|rfl
   .exact a3
   .exact a4
  .have:(z0m (i+1) (p.e -(i+1)).toNat).contains z=true:=by erw[t7,decide_eq_true_eq];exact hz
   rw[mem_range,decide_eq_true_eq] at this
   exact z9R hT h hp (by lia) (by lia)
def z9S(h:Way T 0 ps)(hw:kept ps w)(ho:kept ps o):wb w o=false:=by
 cases e:wb w o with
 |false=>rfl
 |true=>
  obtain⟨g,hg,hb⟩:=E7.mp e
  exact absurd ((z3Q hT h hw).1 g hg) ((z3Q hT h ho).2 g (by simpa using hb))
def z7w(h:Way T 0 ps)(hw:kept ps w)(ho:kept ps o):fightB w o=false:=by
 have e1:=z9S hT h hw ho
 have e2:=z9S hT h ho hw
 delta fightB
 rw[e1,e2]
 cases w with
 |bor g=>rfl
 |joi g=>rfl
 |spn i j=>rfl
 |hld i j bs=>
  cases o with
  |bor g=>rfl
  |joi g=>rfl
  |spn i j=>rfl
  |hld i' j' bs'=>
   obtain⟨p,hp,rfl,rfl⟩:=hw
   obtain⟨p',hp',rfl,rfl⟩:=ho
   erw[z3l,D8]
   cases e:eqP (.tup [.int i, .int p.e]) (.tup [.int i', .int p'.e]) with
   |false=>rfl
   |true=>
    have e':=z6T (a:=[i,p.e]) (b:=[i',p'.e]) e
    injection e' with e3 _
    subst e3
    rw[zco hT h hp hp',z2m]
    rfl
end
theorem zcp(b m:Int)(hb:b<m): ∀L:List Int,∃e,b<e/\e<=m/\(e=m\/e∈L)/\∀g∈L,b<g->e<=g\/m<g
 |[]=>⟨m,hb,u00 _, .inl rfl,(by intro g hg;cases hg)⟩
 |x::L=>by
  obtain⟨e,h1,h2,h3,h4⟩:=zcp b m hb L
  by_cases hx:b<x/\x<e
  .refine⟨x,hx.1,by lia, .inr c9,λg hg hbg=> ?_⟩
   rcases c8.mp hg with rfl|hg
   .exact .inl (u00 _)
   .rcases h4 g hg hbg with h|h
    .exact .inl (by lia)
    .exact .inr h
  .refine⟨e,h1,h2,h3.imp id (b7 _),λg hg hbg=> ?_⟩
   rcases c8.mp hg with rfl|hg
   .exact .inl (by lia)
   .exact h4 g hg hbg
def zib(W:List Wi)(b:Int):Prop:= ∀w∈W,b∉w.bars
def zic{m:Nat}{N:List (Nat×List Pz)}(hN:Net m N)(hf: ∀w∈W,w.fit N)(hb: ∀w∈W,∀o∈W,wb w o=false)(hh: ∀i j bs bs',Wi.hld i j bs∈W->Wi.hld i j bs'∈W->bs=bs'): ∀f b,b+f=m->zib W b->Go (thA W (N.map (·.2))) b:=by
 have lT:(thA W (N.map (·.2))).length=m:=by simp[thA,hN.len]
 have lN:=hN.len
 intro f
 induction f using Nat.strongRecOn with
 |_ f ih=>
  intro b hbf nb
  cases f with
  |zero=>exact⟨[],by show b=_;lia⟩
  |succ f=>
   have hbm:b<m:=by lia
   obtain⟨e,h1,h2,h3,h4⟩:=zcp b m (by lia) (W.flatMap Wi.wants)
   have nbe:zib W e:=by
    intro o ho hbar
    rcases h3 with rfl|h3
    .have fo:=hf o ho
     cases o with
     |bor g=>cases hbar
     |joi g=>
      have:=hf _ ho
      have e1:(m:Int)=g:=i4.mp hbar
      erw[Wi.fit] at this
      lia
     |spn i j=>
      have:(z0m (i+1) (j -(i+1)).toNat).contains (m:Int)=true:=by erw[t7,decide_eq_true_eq];exact hbar
      rw[mem_range,decide_eq_true_eq] at this
      erw[Wi.fit] at fo
      lia
     |hld i j bs=>
      have:(z0m (i+1) (j -(i+1)).toNat).contains (m:Int)=true:=by erw[t7,decide_eq_true_eq];exact hbar
      rw[mem_range,decide_eq_true_eq] at this
      erw[Wi.fit] at fo
      lia
    .obtain⟨w,hw,hg⟩:=T7.mp h3
     have:=hb w hw o ho
     have t:wb w o=true:=E7.mpr ⟨e,hg,by erw[t7,decide_eq_true_eq];exact hbar⟩
     rw[t] at this;cases this
   have bars: ∀{i j g:Int},i<g->g<j->(z0m (i+1) (j -(i+1)).toNat).contains g=true:=λ{i j g} h1 h2=>by
    rw[mem_range,decide_eq_true_eq];lia
   have want: ∀w∈W,∀g∈w.wants,(b:Int)<g->e<=g\/(m:Int)<g:=λw hw g hg=>h4 g (T7.mpr ⟨w,hw,hg⟩)
   have fits: ∀i j:Int,0<=i->i<j->j<=(m:Int)->((b:Int)<i->e<=i)->((b:Int)<j->e<=j)->(∀g:Int,i<g->g<j->g≠(b:Int)/\g≠e)->e<=i\/j<=(b:Int)\/((b:Int)=i/\e=j):=by
    intro i j q0 q1 q2 q3 q4 q5
    have:=q5 b
    have:=q5 e
    lia
   have hbN:b<N.length:=by lia
   obtain⟨p,hp,pe,ph⟩: ∃p∈N[b].2,p.e=e/\∀bs,Wi.hld b e bs∈W->p.ss=bs:=by
    by_cases hx: ∃bs,Wi.hld b e bs∈W
    .obtain⟨bs,hx⟩:=hx
     obtain⟨_,_,_,k,hk,ek,p,hp,pe,ps⟩:=hf _ hx
     have:k=b:=by lia
     subst this
     exact⟨p,hp,pe,λbs' h'=>by rw[ps];exact hh _ _ _ _ hx h'⟩
    .obtain⟨p,hp,pe⟩:=hN.full b hbN e h1 h2
     exact⟨p,hp,pe,λbs h'=>absurd ⟨bs,h'⟩ hx⟩
   have keepP: ∀w∈W,kpB (b:Nat) p w=true:=by
    intro w hw
    have wt:=want w hw
    have nb1:=nb w hw
    have nb2:=nbe w hw
    have ff:=hf w hw
    cases w with
    |bor g=>
     have:=wt g (i4.mpr rfl)
     erw[Wi.fit] at ff
     erw[kpB,pe,O8,R4,decide_eq_false_iff_not]
     lia
    |joi g=>
     have n1:(b:Int)≠g:=λq=>nb1 (i4.mpr q)
     have n2:e≠g:=λq=>nb2 (i4.mpr q)
     simp[kpB,pe,n1,n2]
    |spn i j=>
     erw[Wi.fit] at ff
     have w1:=wt i (by simp[Wi.wants])
     have w2:=wt j (by simp[Wi.wants])
     have q:=fits i j ff.1 ff.2.1 (by lia) (by lia) (by lia) (λg g1 g2=>by
      have:=bars g1 g2
      erw[t7,decide_eq_true_eq] at this
      exact⟨λq=>nb1 (by rw[<-q];exact this),λq=>nb2 (by rw[<-q];exact this)⟩)
     erw[kpB,pe,N4,l9,decide_eq_true_eq,beq_iff_eq]
     lia
    |hld i j bs=>
     erw[Wi.fit] at ff
     have w1:=wt i (by simp[Wi.wants])
     have w2:=wt j (by simp[Wi.wants])
     have q:=fits i j ff.1 ff.2.1 (by lia) (by lia) (by lia) (λg g1 g2=>by
      have:=bars g1 g2
      erw[t7,decide_eq_true_eq] at this
      exact⟨λq=>nb1 (by rw[<-q];exact this),λq=>nb2 (by rw[<-q];exact this)⟩)
     erw[kpB,pe,N4,l9,decide_eq_true_eq,beq_iff_eq]
     rcases q with q|q|⟨q1,q2⟩
     .exact .inl (.inl q)
     .exact .inl (.inr q)
     .refine .inr ⟨⟨q1,q2⟩, ?_⟩
      subst q1 q2
      rw[ph bs hw]
      exact z2m bs
   obtain⟨ps,hps⟩:=ih (m -e.toNat) (by lia) e.toNat (by lia) (by rw[B8 (by lia)];exact nbe)
   refine⟨p::ps,⟨by lia, ?_⟩,by rw[pe];exact hps⟩
   erw[thA,F5,B7,keep,E1,B2]
   exact⟨hp,keepP⟩
def z6l{m:Nat}{N:List (Nat×List Pz)}(hN:Net m N) W:On (thA W (N.map (·.2))):=by
 have lT:(thA W (N.map (·.2))).length=m:=by simp[thA,hN.len]
 have lN:=hN.len
 intro i hi p hp
 erw[thA,F5,B7,keep,E1] at hp
 obtain⟨h1,h2,_,h3,h4⟩:=hN.ok i (by lia) p hp.1
 exact⟨h1,by lia,h3,h4⟩
def zex(N:List (Nat×List Pz)) W:Tk (thA W (N.map (·.2))) W:=by
 intro i hi p hp w hw
 erw[thA,F5,B7,keep,E1,B2] at hp
 exact hp.2 w hw
def go_of{m:Nat}{N:List (Nat×List Pz)}(hN:Net m N)(hf: ∀w∈W,w.fit N)(hno: ∀w∈W,∀o∈W,fightB w o=false\/fightB o w=false\/w=o):Go (thA W (N.map (·.2))) 0:=by
 have lN:=hN.len
 have self: ∀w∈W,wb w w=false:=by
  intro w hw
  have ff:=hf w hw
  cases w with
  |bor g=>rfl
  |joi g=>rfl
  |spn i j=>
   erw[wb,Wi.wants,Wi.bars,F7,u0g,mem_range,D8,E3,decide_eq_false_iff_not]
   lia
  |hld i j bs=>
   erw[wb,Wi.wants,Wi.bars,F7,u0g,mem_range,D8,E3,decide_eq_false_iff_not]
   lia
 have both: ∀w∈W,∀o∈W,wb w o=false/\(z3l w o=false\/z3l o w=false\/w=o):=by
  intro w hw o ho
  rcases hno w hw o ho with h|h|h
  .erw[fightB,E3] at h
   exact⟨h.2.1, .inl h.1⟩
  .erw[fightB,E3] at h
   exact⟨h.2.2, .inr (.inl h.1)⟩
  .subst h;exact⟨self w hw, .inr (.inr rfl)⟩
 refine zic hN hf (λw hw o ho=>(both w hw o ho).1) (λi j bs bs' h h'=> ?_) m 0 (by lia) (λw hw hb=> ?_)
 .rcases(both _ h _ h').2 with q|q|q
  .have e:eqP (.tup [.int i, .int j]) (.tup [.int i, .int j])=true:=z2m [i,j]
   erw[z3l,e,C0,S3] at q
   exact z6T q
  .have e:eqP (.tup [.int i, .int j]) (.tup [.int i, .int j])=true:=z2m [i,j]
   erw[z3l,e,C0,S3] at q
   exact(z6T q).symm
  .injection q
 .have ff:=hf w hw
  cases w with
  |bor g=>cases hb
  |joi g=>
   have e1:((0:Nat):Int)=g:=i4.mp hb
   erw[Wi.fit] at ff
   lia
  |spn i j=>
   have:(z0m (i+1) (j -(i+1)).toNat).contains ((0:Nat):Int)=true:=by erw[t7,decide_eq_true_eq];exact hb
   rw[mem_range,decide_eq_true_eq] at this
   erw[Wi.fit] at ff
   lia
  |hld i j bs=>
   have:(z0m (i+1) (j -(i+1)).toNat).contains ((0:Nat):Int)=true:=by erw[t7,decide_eq_true_eq];exact hb
   rw[mem_range,decide_eq_true_eq] at this
   erw[Wi.fit] at ff
   lia
def zey{m:Nat}{N:List (Nat×List Pz)}(hN:Net m N)(hf: ∀w∈W,w.fit N)(hw:w∈W)(ho:o∈W)(h:fightB w o=true): ¬Go (thA W (N.map (·.2))) 0:=by
 rintro ⟨ps,hps⟩
 have lT:N.length=(thA W (N.map (·.2))).length:=by simp[thA]
 have k1:=z4v (z6l hN W) (zex N W) lT hw (hf w hw) hps
 have k2:=z4v (z6l hN W) (zex N W) lT ho (hf o ho) hps
 rw[z7w (z6l hN W) hps k1 k2] at h
 cases h
def z3n{K:ItK}{g:Tg}{me:M D}{gf:D->D}{fr:D->List (Option D)}{k:Nat}{items:List D}{its:List (Option D)}{ix:List Nat}{n:Nat}(hc:mi s= .ok K ⟨σ,its++tm,n⟩)(hk:its.length=K.k)(hz:items.length<qg)(hat: ∀i rest,K.at' i (its++rest)=some items[i]?)(hlen:K.len (its++tm)=items.length)
 (has: ∀d∈items,∀pre:List (Option D),pre.length=k->asg g d (pre++ix.map λi=>(σ[i]?).getD none)=some (fr d++ix.map λi=>(σ[i]?).getD none)) (hfr: ∀d∈items,(fr d).length=k)
 (hme: ∀d∈items,∀tm n,∃n',n<=n'/\me ⟨fr d++ix.map λi=>(σ[i]?).getD none,tm,n⟩= .ok (gf d) ⟨fr d++ix.map λi=>(σ[i]?).getD none,tm,n'⟩):
 ∃n',n<=n'/\Y7 mi g (rt true) me k ix s= .ok (.lst n' (items.map gf)) ⟨σ,tm,n'+1⟩:=by
 have h:=z6i (mt:=rt true) (p:=λ_=>true) fr hc hk hz hat hlen has hfr (λd _ tm n=>⟨n,b9 _,rfl⟩) λd hd _=>hme d hd
 rwa [F4.mpr λ_ _=>rfl] at h
def szE(q:Int×Pz):D:= .tup [.int q.1, .int q.2.e, .tup (iL q.2.ss)]
def szD(ps:List Pz):List D:=(st 0 ps).map szE
def zpE(q:Int×Pz):D:= .tup [.int q.1,q.2.d]
theorem zcq: ∀(ps:List Pz) (b:Int) (i:Nat),z69 i (iL (bds b ps)) (psD ps)=((st b ps).map zpE)[i]?
 |[],b,i=>by simp[z69,psD,st]
 |p::ps,b,0=>rfl
 |p::ps,b,i+1=>by
  have:=zcq ps p.e i
  erw[st,b8,List.getElem?_cons_succ]
  rw[<-this]
  rfl
theorem z6U: ∀(ps:List Pz) (b:Int),(st b ps).length=ps.length
 |[],_=>rfl
 |p::ps,b=>by erw[st,l8,z6U ps]
def fr2:D->List (Option D)
 | .tup [a,b]=>[some a,some b]
 |_=>[]
def fr3:D->List (Option D)
 | .tup [a,b,c]=>[some a,some b,some c]
 |_=>[]
def gf2:D->D
 | .tup [a, .tup [e,ss,_,_]]=> .tup [a,e,ss]
 |_=> .non
def gB3(i j:Int):D->Bool
 | .tup [.int a, .int b,_]=>eqP (.tup [.int a, .int b]) (.tup [.int i, .int j])
 |_=>false
def zkn ps:plainL (szD ps)=true/\PyData.canLayAll0 (erL (szD ps))=true/\PyData.depthAll (erL (szD ps))<=2:=by
 delta szD
 induction st 0 ps with
 |nil=>exact⟨rfl,rfl,by simp[erL,PyData.depthAll]⟩
 |cons q L ih=>
  obtain⟨a1,a2,a3⟩:=ih
  obtain⟨b1,b2,b3⟩:=z02 q.2.ss
  refine⟨?_, ?_, ?_⟩
  .erw[b8,plainL,szE,Mi.U4,b1,a1,B0]
  .erw[b8,erL,er,szE,PyData.canLayAll0,PyData.canLay0,b2,a2,B0]
  .erw[b8,erL,er,szE,PyData.depthAll,PyData.depth,b3]
   lia
def zid(h:d∈ds)(hf:f (er d)=true):(erL ds).any f=true:=by
 rw[zdI,L4]
 exact E7.mpr ⟨d,h,hf⟩
def zbh{p:Int}{l:Nat}{bs:List Int}:zdj (.int p) (.lst l (iL bs)) s= .ok (.bool (!bs.contains p)) s:=by
 obtain⟨h1,h2,h3⟩:=z02 bs
 rw[zjK (ds:=iL bs) rfl (by erw[inC,h1,h2,h3,Mi.U4,er,PyData.canLay0,B0,C0];rfl),z4r]
def zko lc ps(hl:ps.length<=100)(w:Wi)(hw:w.ok)(hk:kept ps w) n: ∃n',n<=n'/\z1b [.lst lc (psD ps),w.d] n= .ok (.bool true) [.lst lc (psD ps),w.d] n':=by
 have lp:(psD ps).length=ps.length:=by simp[psD]
 obtain⟨n1,a1,e1⟩:=z3n (mi:=Q5 (y0 0)) (K:=z4d) (g:= .nm 0) (me:=y8 (y0 0) (mC (.int 0)) ixD) (gf:=λd=> .int (unP d).e) (fr:=λd=>[some d]) (k:=1) (items:=psD ps) (its:=[some (.lst lc (psD ps))]) (ix:=[]) (s:=⟨[some (.lst lc (psD ps)),some w.d,none,none],[some (.lst n [.int 0]),some (.lst lc (psD ps)),some w.d],n+1⟩) (σ:=[some (.lst lc (psD ps)),some w.d,none,none]) (tm:=[some (.lst n [.int 0]),some (.lst lc (psD ps)),some w.d]) (n:=n+1) (z1X (by left;rfl)) rfl (by rw[zl,lp];lia) (λ_ _=>rfl) rfl (λd hd pre hp=>by
  exact zeP pre hp) (λ_ _=>rfl) (λd hd tm m=>by
  obtain⟨p,_,rfl⟩:=i0.mp hd
  refine⟨m,b9 _, ?_⟩
  erw[l0,e8,z9y]
  erw[Pz.d]
  left)
 have m1:(psD ps).map (λd=>D.int (unP d).e)=iL (ps.map (·.e)):=by
  erw[psD,iL,A4]
  refine A7 λp _=> ?_
  erw[Function.comp,z9y]
 rw[m1] at e1
 have bd:(D.int 0::iL (ps.map (·.e)):List D)=iL (bds 0 ps):=rfl
 obtain⟨n2,a2,e2⟩:=z3n (mi:=zgF [(y0 2),(y0 0)]) (K:=ziw) (g:= .tp [(.nm 0),(.nm 1)]) (me:=(mCB [(y0 0),(y8 (y0 1) (mC (.int 0)) ixD),(y8 (y0 1) (mC (.int 1)) ixD)] x6)) (gf:=gf2) (fr:=fr2) (k:=2) (items:=(st 0 ps).map zpE) (its:=[some (.lst lc (psD ps)),some (.lst (n1+1) (iL (bds 0 ps)))]) (ix:=[]) (s:=⟨[some (.lst lc (psD ps)),some w.d,some (.lst (n1+1) (iL (bds 0 ps))),none],[some (.lst lc (psD ps)),some w.d],n1+1+1⟩) (σ:=[some (.lst lc (psD ps)),some w.d,some (.lst (n1+1) (iL (bds 0 ps))),none]) (tm:=[some (.lst lc (psD ps)),some w.d]) (n:=n1+1+1) (by
  delta zgF
  left
  rfl) rfl (by rw[zl,i5,z6U];lia) (λi rest=>by
  show some (z69 i (iL (bds 0 ps)) (psD ps))=_
  rw[zcq]) (by
  show min (iL (bds 0 ps)).length (psD ps).length=_
  rw[i5,z6U,lp]
  simp[iL,bds]) (λd hd pre hp=>by
  obtain⟨q,_,rfl⟩:=i0.mp hd
  obtain⟨_,_,rfl⟩:=len2 hp;rfl) (λd hd=>by
  obtain⟨q,_,rfl⟩:=i0.mp hd
  rfl) (λd hd tm m=>by
  obtain⟨q,_,rfl⟩:=i0.mp hd
  refine⟨m,b9 _, ?_⟩
  erw[zpE,fr2,gf2,Pz.d,l0,e8]
  left)
 have m2:((st 0 ps).map zpE).map gf2=szD ps:=by
  erw[szD,A4]
  rfl
 rw[m2] at e2
 delta z1b z3c
 left
 rw[e1]
 left
 rw[zc3 (by rw[zl];simp[iL];lia)]
 left
 rw[bd]
 cases w with
 |bor g=>
  refine⟨n1+1+1,by lia, ?_⟩
  have:(bds 0 ps).contains g=true:=by erw[t7,decide_eq_true_eq];exact hk
  erw[Wi.d] at e2⊢
  left
  rw[qs okB okB]
  left
  rw[z9w,this]
  left
 |joi g=>
  refine⟨n1+1+1,by lia, ?_⟩
  have:(bds 0 ps).contains g=false:=by erw[t7,decide_eq_false_iff_not];exact hk
  erw[Wi.d] at e2⊢
  left
  rw[qs okB z2t,bj]
  left
  rw[qs z2t z2t]
  left
  rw[zbh,this]
  left
 |spn i j=>
  obtain⟨p,hp,hq1⟩:=hk
  obtain⟨n3,a3,e3⟩:=z3n (mi:=Q5 (y0 3)) (K:=z4d) (g:= .tp [(.nm 0),(.nm 1),(.nm 2)]) (me:=(y8 (mCB [(y0 0),(y0 1)] x6) (mCB [(y8 (y0 3) (mC (.int 1)) ixD),(y8 (y0 3) (mC (.int 2)) ixD)] x6) eqD)) (gf:=λd=> .bool (gB3 i j d)) (fr:=fr3) (k:=3) (items:=szD ps) (its:=[some (.lst n2 (szD ps))]) (ix:=[1]) (s:=⟨[some (.lst lc (psD ps)),some (Wi.spn i j).d,some (.lst (n1+1) (iL (bds 0 ps))),some (.lst n2 (szD ps))],[some (.lst lc (psD ps)),some (Wi.spn i j).d],n2+1⟩) (σ:=[some (.lst lc (psD ps)),some (Wi.spn i j).d,some (.lst (n1+1) (iL (bds 0 ps))),some (.lst n2 (szD ps))]) (tm:=[some (.lst lc (psD ps)),some (Wi.spn i j).d]) (n:=n2+1) (z1X (by left;rfl)) rfl (by rw[zl,szD,i5,z6U];lia) (λ_ _=>rfl) rfl (λd hd pre hp=>by
   obtain⟨q,_,rfl⟩:=i0.mp hd
   obtain⟨_,_,rfl⟩:=A5 hp;obtain⟨_,_,rfl⟩:=len2 (Nat.succ.inj hp);rfl) (λd hd=>by
   obtain⟨q,_,rfl⟩:=i0.mp hd
   rfl) (λd hd tm m=>by
   obtain⟨q,_,rfl⟩:=i0.mp hd
   refine⟨m,b9 _, ?_⟩
   erw[szE,fr3,gB3,Wi.d,b8,l0,p9,l5,List.getElem?_cons_succ,List.getElem?_cons_zero,l7]
   left
   rw[zc8])
  refine⟨n3+1,by lia, ?_⟩
  have hany:((szD ps).map (gB3 i j)).any id=true:=by
   rw[L4]
   refine E7.mpr ⟨szE (i,p),i0.mpr ⟨_,hp,rfl⟩, ?_⟩
   show eqP (.tup [.int i, .int p.e]) (.tup [.int i, .int j])=true
   rw[hq1];exact z2m [i,j]
  erw[Wi.d] at e2 e3⊢
  left
  rw[qs okB z5u,sb]
  left
  rw[qs z2t z5u,sj]
  left
  rw[e2]
  left
  rw[qs z5u z5u]
  left
  rw[e3]
  left
  rw[zh5 (z1U _ (gB3 i j)),hany]
  left
 |hld i j bs=>
  obtain⟨p,hp,hq1,hq2⟩:=hk
  refine⟨n2+1,by lia, ?_⟩
  obtain⟨g1,g2,g3⟩:=zkn ps
  obtain⟨b1,b2,b3⟩:=z02 bs
  have hin: ∀s:Stt,inD (.tup [.int i, .int j, .tup (iL bs)]) (.lst n2 (szD ps)) s= .ok (.bool true) s:=λs=>by
   rw[zkJ (ds:=szD ps) rfl (by
    erw[inC,g1,g2,b1,b2,b3,Mi.U4,plainL,er,erL,PyData.canLay0,PyData.canLayAll0,PyData.depth,PyData.depthAll,B0,C0,decide_eq_true_eq]
    lia)]
   rw[zid (ds:=szD ps) (d:=szE (i,p)) (i0.mpr ⟨_,hp,rfl⟩) ?_]
   erw[szE,hq1,hq2,er,erL]
   have:=z2m bs
   erw[eqP,er] at this
   show(i==i&&(j==j&&(PyData.eqv (.tuple (erL (iL bs))) (.tuple (erL (iL bs)))&&true)))=true
   rw[this];simp
  erw[Wi.d] at e2⊢
  left
  rw[qs okB z5v,hb]
  left
  rw[qs z2t z5v,hj]
  left
  rw[e2]
  left
  rw[qs z5u z5v,hs]
  left
  rw[hin]
  left
theorem z9T: ∀L:List Int,(∀x∈L,0<=x)->0<=L.sum/\(0<L.sum↔∃x∈L,0<x)
 |[],_=>⟨by simp,by simp⟩
 |x::L,h=>by
  obtain⟨h1,h2⟩:=z9T L λy hy=>h y (b7 _ hy)
  have hx:=h x c9
  rw[u09]
  refine⟨by lia,λhs=> ?_,λ⟨y,hy,hp⟩=> ?_⟩
  .by_cases e:0<x
   .exact⟨x,c9,e⟩
   .obtain⟨y,hy,hp⟩:=h2.mp (by lia)
    exact⟨y,b7 _ hy,hp⟩
  .rcases c8.mp hy with rfl|hy
   .lia
   .have:=h2.mpr ⟨y,hy,hp⟩;lia
def zkp(N:List (Nat×List Pz))(hO:On (N.map (·.2))): ∃B,Bk N B/\0<=B 0/\(0<B 0↔Go (N.map (·.2)) 0):=by
 have lX:(N.map (·.2)).length=N.length:=by simp
 have go: ∀d,d<=N.length->∃B:Nat->Int,B N.length=1/\(∀i (h:i<N.length),N.length -d<=i->B i=((z5H N[i].2).map B).sum)/\∀i,N.length -d<=i->i<=N.length->0<=B i/\(0<B i↔Go (N.map (·.2)) i):=by
  intro d
  induction d with
  |zero=>
   intro _
   refine⟨λ_=>1,rfl,λi h h'=>by lia,λi h h'=>⟨by show(0:Int)<=1;decide,λ_=>⟨[],by show i=_;lia⟩,λ_=>by show(0:Int)<1;decide⟩⟩
  |succ d ih=>
   intro hd
   obtain⟨B,b1,b2,b3⟩:=ih (by lia)
   have hi0:N.length -(d+1)<N.length:=by lia
   have ee: ∀i (h:i<N.length),∀e∈z5H N[i].2,i<e/\e<=N.length:=λi h e he=>by
    obtain⟨p,hp,rfl⟩:=i0.mp he
    have:=hO i (by lia) p (by rw[B7];exact hp)
    lia
   let B':Nat->Int:=λi=>if i=N.length -(d+1) then((z5H N[N.length -(d+1)].2).map B).sum else B i
   have same: ∀i (h:i<N.length),N.length -(d+1)<=i->(z5H N[i].2).map B'=(z5H N[i].2).map B:=λi h hi=>A7 λe he=>by
    have:=ee i h e he
    show(if e=N.length -(d+1) then _ else _)=_
    rw[qh (by lia)]
   refine⟨B', ?_,λi h hi=> ?_,λi hi hi'=> ?_⟩
   .show(if N.length=N.length -(d+1) then _ else _)=_
    rw[qh (by lia)];exact b1
   .rw[same i h hi]
    show(if i=N.length -(d+1) then _ else _)=_
    by_cases e:i=N.length -(d+1)
    .subst e;rw[qy rfl]
    .rw[qh e];exact b2 i h (by lia)
   .show 0<=(if i=N.length -(d+1) then _ else _)/\(0<(if i=N.length -(d+1) then _ else _)↔_)
    by_cases e:i=N.length -(d+1)
    .subst e
     rw[qy rfl]
     have all: ∀x∈(z5H N[N.length -(d+1)].2).map B,0<=x:=λx hx=>by
      obtain⟨e,he,rfl⟩:=i0.mp hx
      have:=ee _ hi0 e he
      exact(b3 e (by lia) this.2).1
     obtain⟨s1,s2⟩:=z9T _ all
     refine⟨s1,s2.trans ⟨λ⟨x,hx,hp⟩=> ?_,λ⟨ps,hps⟩=> ?_⟩⟩
     .obtain⟨e,he,rfl⟩:=i0.mp hx
      have q:=ee _ hi0 e he
      obtain⟨ps,hps⟩:=(b3 e (by lia) q.2).2.mp hp
      obtain⟨p,hpm,rfl⟩:=i0.mp he
      exact⟨p::ps,⟨by lia,by rw[B7];exact hpm⟩,hps⟩
     .cases ps with
      |nil=>erw[Way] at hps;lia
      |cons p ps=>
       obtain⟨⟨h,hpm⟩,hps⟩:=hps
       rw[B7] at hpm
       have hee:p.e.toNat∈z5H N[N.length -(d+1)].2:=i0.mpr ⟨p,hpm,rfl⟩
       have q:=ee _ hi0 _ hee
       exact⟨_,i0.mpr ⟨_,hee,rfl⟩,(b3 _ (by lia) q.2).2.mpr ⟨ps,hps⟩⟩
    .rw[qh e];exact b3 i (by lia) hi'
 obtain⟨B,b1,b2,b3⟩:=go N.length (b9 _)
 exact⟨B,⟨b1,λi h=>b2 i h (by lia)⟩,b3 0 (by lia) (by lia)⟩
theorem z2n: ∀{f i:Nat} {v:D},Q9 hit f i=some v->∃k,i<=k/\k<i+f/\hit k=some v/\∀j,i<=j->j<k->hit j=none
 |0,i,v,h=>by simp[Q9] at h
 |f+1,i,v,h=>by
  unfold Q9 at h
  cases e:hit i with
  |some w=>
   rw[e] at h
   exact⟨i,b9 _,by lia,by rw[e];exact h,λj h1 h2=>by lia⟩
  |none=>
   rw[e] at h
   obtain⟨k,h1,h2,h3,h4⟩:=z2n h
   refine⟨k,by lia,by lia,h3,λj g1 g2=> ?_⟩
   by_cases q:j=i
   .rw[q];exact e
   .exact h4 j (by lia) g2
theorem z2o: ∀{f i:Nat},(∀j,i<=j->j<i+f->hit j=none)->Q9 hit f i=none
 |0,i,_=>by unfold Q9;rfl
 |f+1,i,h=>by
  unfold Q9
  rw[h i (b9 _) (by lia)]
  exact z2o λj h1 h2=>h j (by lia) (by lia)
theorem z23: ∀{f i:Nat},Q9 hit f i=none->∀j,i<=j->j<i+f->hit j=none
 |0,i,_,j,h1,h2=>by lia
 |f+1,i,h,j,h1,h2=>by
  unfold Q9 at h
  cases e:hit i with
  |some w=>rw[e] at h;cases h
  |none=>
   rw[e] at h
   by_cases q:j=i
   .rw[q];exact e
   .exact z23 h j (by lia) (by lia)
def z3R(W:List Wi):Prop:= ∀e l,e<l->l<W.length->fightB (wAt W e) (wAt W l)=false
def z4w{e l:Nat}:z7u W l e=none↔fightB (wAt W e) (wAt W l)=false:=by
 delta z7u
 cases fightB (wAt W e) (wAt W l)<;>simp
def z6m W:(z1Z W= .non/\z3R W)\/∃e l:Nat,e<l/\l<W.length/\z1Z W= .tup [.int (e:Nat), .int (l:Nat)]/\fightB (wAt W e) (wAt W l)=true/\z3R (W.take l)/\z1Z (W.take l)= .non:=by
 cases h:Q9 (λl=>Q9 (z7u W l) l 0) W.length 0 with
 |none=>
  refine .inl ⟨by erw[z1Z,h],λe l h1 h2=> ?_⟩
  have:=z23 h l (B6 _) (by lia)
  exact z4w.mp (z23 this e (B6 _) (by lia))
 |some v=>
  obtain⟨l,_,h2,h3,h4⟩:=z2n h
  obtain⟨e,_,g2,g3,g4⟩:=z2n h3
  have hv:fightB (wAt W e) (wAt W l)=true/\v= .tup [.int (e:Nat), .int (l:Nat)]:=by
   delta z7u at g3
   cases q:fightB (wAt W e) (wAt W l) with
   |false=>rw[q] at g3;simp at g3
   |true=>rw[q] at g3;simp at g3;exact⟨rfl,g3.symm⟩
  have at': ∀i,i<l->wAt (W.take l) i=wAt W i:=λi hi=>by
   erw[wAt,List.getD_eq_getElem?_getD,List.getElem?_take_of_lt hi]
  have ll:(W.take l).length=l:=by rw[A3];lia
  have fn:z3R (W.take l):=λe' l' h1 h2'=>by
   rw[at' e' (by lia),at' l' (by lia)]
   have:=h4 l' (B6 _) (by lia)
   exact z4w.mp (z23 this e' (B6 _) (by lia))
  refine .inr ⟨e,l,by lia,by lia,by erw[z1Z,h];exact hv.2,hv.1,fn, ?_⟩
  have e1:Q9 (λl'=>Q9 (z7u (W.take l) l') l' 0) (W.take l).length 0=none:=z2o λj _ h2'=>z2o λj' _ h3'=>z4w.mpr (fn j' j (by lia) (by lia))
  erw[z1Z,e1]
def z5D(h:z3R W): ∀w∈W,∀o∈W,fightB w o=false\/fightB o w=false\/w=o:=by
 intro w hw o ho
 obtain⟨i,hi,rfl⟩:=C9 hw
 obtain⟨j,hj,rfl⟩:=C9 ho
 have at': ∀k (hk:k<W.length),wAt W k=W[k]:=λk hk=>by simp[wAt,hk]
 rcases Nat.lt_trichotomy i j with q|q|q
 .have:=h i j q hj
  rw[at' i hi,at' j hj] at this
  exact .inl this
 .subst q;exact .inr (.inr rfl)
 .have:=h j i q hi
  rw[at' i hi,at' j hj] at this
  exact .inr (.inl this)
def z9U{m:Nat}{N N':List (Nat×List Pz)}(hN:Net m N)(h:N'.map (·.2)=thA W (N.map (·.2))):N'.length=m/\(∀q∈N',q.2.length<=60)/\∀i (h:i<N'.length),∀p∈N'[i].2,p.ok m (i:Nat):=by
 have l:N'.length=m:=by have:=congrArg O6 h;simpa[thA,hN.len] using this
 have lN:=hN.len
 have get: ∀i (hi:i<N'.length),∃hi':i<N.length,N'[i].2=keep W (i:Nat) N[i].2:=λi hi=>by
  refine⟨by lia, ?_⟩
  have e1:(N'.map (·.2))[i]? =some N'[i].2:=by rw[List.getElem?_map,List.getElem?_eq_getElem hi];rfl
  rw[h] at e1
  erw[thA,List.getElem?_mapIdx,List.getElem?_map,List.getElem?_eq_getElem (show i<N.length by lia),i9,Option.some.injEq] at e1
  exact e1.symm
 refine⟨l,λq hq=> ?_,λi hi p hp=> ?_⟩
 .obtain⟨i,hi,rfl⟩:=C9 hq
  obtain⟨hi',e⟩:=get i hi
  rw[e]
  exact C1 (List.length_filter_le _ _) (hN.few _ (l6 hi'))
 .obtain⟨hi',e⟩:=get i hi
  rw[e] at hp
  exact hN.ok i hi' p (E1.mp hp).1
def z6V{m:Nat}{N:List (Nat×List Pz)}(hN:Net m N)(hm:m<=24) W(hW:W.length<=100) LN LW n: ∃N' n',n<=n'/\N'.map (·.2)=thA W (N.map (·.2))/\(∀q∈N',q.1<n')/\(∀q∈N',n<=q.1)/\Q8 [.lst LN (nD N), .lst LW (wsD W)] n= .ok (.lst n' (nD N')) [.lst LN (nD N), .lst LW (wsD W)] (n'+1)/\
 ∃c:Int,(c=0↔¬Go (thA W (N.map (·.2))) 0)/\∀k,n'<k->∃k',k<=k'/\j8 [.lst n' (nD N')] k= .ok (.int c) [.lst n' (nD N')] k':=by
 have lN:=hN.len
 obtain⟨N',n',h1,h2,h3,h4⟩:=zei W LW LN hW N (by lia) (λq hq=>by have:=hN.few q hq;lia) n
 obtain⟨l',f',o'⟩:=z9U hN h2
 obtain⟨B,b1,b2,b3⟩:=zkp N' (by rw[h2];exact z6l hN W)
 rw[h2] at b3
 refine⟨N',n',h1,h2,λq hq=>(h3 q hq).2,λq hq=>(h3 q hq).1,h4,B 0,⟨λe hgo=>by have:=b3.mpr hgo;lia,λhno=> ?_⟩,λk hk=> ?_⟩
 .by_cases e:0<B 0
  .exact absurd (b3.mp e) hno
  .lia
 .subst l'
  obtain⟨k',g1,g2⟩:=zhC n' N' (by lia) (λq hq=>by have:=f' q hq;lia) o' B b1 k hk (λq hq=>by have:=(h3 q hq).2;lia)
  exact⟨k',g1,g2⟩
def z5E{m:Nat}(hN:Net m N)(hm:m<=24) Rt(hR:R10 Rt) W(hf: ∀w∈W,w.fit N)(hW:W.length<=100)(hno:z3R W) LN LW n:
 ∃n',n<=n'/\V9 [.lst LN (nD N), .tup (rD Rt), .lst LW (wsD W)] n= .ok (.bool true) [.lst LN (nD N), .tup (rD Rt), .lst LW (wsD W)] n':=by
 have lN:=hN.len
 have hgo:=go_of hN hf (z5D hno)
 obtain⟨N',n1,h1,h2,h3,h3',h4,c,c1,c2⟩:=z6V hN hm W hW LN LW n
 obtain⟨l',f',o'⟩:=z9U hN h2
 have hgo':Go (N'.map (·.2)) 0:=by rw[h2];exact hgo
 have hOn:On (N'.map (·.2)):=by rw[h2];exact z6l hN W
 obtain⟨r,n2,r1,r2,r3⟩:=zi5 N' hOn (by lia) (λq hq=>by have:=f' q hq;lia) Rt hR n1 (n1+1) (m8 _) (λq hq=>by have:=h3 q hq;lia) hgo'
 obtain⟨n3,e1,e2⟩:=c2 (n2+1+1) (by lia)
 have hc:(c==0)=false:=by
  rw[beq_eq_false_iff_ne]
  exact λq=>c1.mp q hgo
 have hl:=r1.len hOn
 have hl2:(N'.map (·.2)).length=N'.length:=by simp
 rw[h2] at r1
 obtain⟨n4,a1,a2⟩:=z0l (mc:=y0 2) (mt:=rt true) (me:=(Z0 z1b [(y8 (y8 (y0 1) (mC (.int 0)) ixD) (mC (.int 1)) ixD),(y0 0)])) (p:=λ_=>true) (g:=λ_=> .bool true) (l:=LW) (ds:=wsD W) (ix:=[4]) (s:=⟨[some (.lst LN (nD N)),some (.tup (rD Rt)),some (.lst LW (wsD W)),some (.lst n1 (nD N')),some (.lst (n2+1) [.tup [.int r.1, .lst n2 (psD r.2)]])],[some (.lst LN (nD N)),some (.tup (rD Rt)),some (.lst LW (wsD W))],n3⟩) (σ:=[some (.lst LN (nD N)),some (.tup (rD Rt)),some (.lst LW (wsD W)),some (.lst n1 (nD N')),some (.lst (n2+1) [.tup [.int r.1, .lst n2 (psD r.2)]])]) (tm:=[some (.lst LN (nD N)),some (.tup (rD Rt)),some (.lst LW (wsD W))]) (n:=n3)
  (by left) (by rw[zl];erw[wsD,i5];lia) (λd _ tm n=>⟨n,b9 _,rfl⟩) (λd hd _ tm n=>by
   obtain⟨w,hw,rfl⟩:=i0.mp hd
   have lT:N.length=(thA W (N.map (·.2))).length:=by simp[thA]
   obtain⟨n',q1,q2⟩:=zko n2 r.2 (by lia) w (Wi.fit_ok hN hm (hf w hw)) (z4v (z6l hN W) (zex N W) lT hw (hf w hw) r1) n
   refine⟨n',q1, ?_⟩
   erw[b8,l0,List.getElem?_cons_succ,List.getElem?_cons_zero,l7]
   left
   rw[q2]
   left)
 rw[z0n] at a2
 refine⟨n4+1,by lia, ?_⟩
 delta V9 z2h
 left
 rw[h4]
 left
 rw[r3]
 left
 rw[e2]
 left
 rw[hc]
 left
 rw[show(!(((1:Nat):Int)==1))=false from rfl]
 left
 rw[a2]
 left
 rw[zh4 (z1U _ λ_=>true),show(T0 (λ_=>true) (wsD W)).all id=true by rw[u0c];exact B2.mpr λ_ _=>rfl]
 left
def zbi{ms:List (M D)}{me:M D}{B:List D->Prop}{Q:D->Prop}{N:Nat}{ix:List Nat}{σ tm:List D->List (Option D)}{s:Stt}{b:List D}{n:Nat}(hc:Y0 ms s= .ok [.int (N:Int)] ⟨σ b,tm b,n⟩)(hN:N<100000)(hol: ∀b,(σ b).length=(σ []).length)(hB:B b)
 (hme: ∀(i:Nat),i<N->∀(acc b:List D) (m:Nat),n<=m->B b->qx acc=[]->∃y b' m',qq y=[]/\Q y/\B b'/\m<=m'/\me ⟨some (.int (0+(i:Int)))::(ix.map λi=>((σ b)[i]?).getD none),(acc.reverse.map some)++(σ b++tm b),m⟩= .ok y ⟨some (.int (0+(i:Int)))::(ix.map λi=>((σ b')[i]?).getD none),(acc.reverse.map some)++(σ b'++tm b'),m'⟩):
 ∃ys b' n',ys.length=N/\qx ys=[]/\(∀y∈ys,Q y)/\B b'/\n<=n'/\Y7 (X4 ms) (.nm 0) (rt true) me 1 ix s= .ok (.lst n' ys) ⟨σ b',tm b',n'+1⟩:=by
 have hl:(U8 0 N).length=N:=by simp[U8]
 obtain⟨ys,b',n',⟨g0,g1,g2,g3,g4⟩,h3⟩:=z2l (mi:=X4 ms) (K:=z4x 0 N) (g:= .nm 0) (mt:=rt true) (me:=me) (items:=U8 0 N) (its:=[]) (ix:=ix) (k:=1) (β:=List D) (cap:=λb=>ix.map λi=>((σ b)[i]?).getD none) (σ:=σ) (tm:=tm) (λd=>[some d])
  (λi m acc b=>acc.length=i/\qx acc=[]/\(∀y∈acc,Q y)/\B b/\n<=m) (s:=s) (b:=b) (n:=n) (λb=>rfl) (by rw[z9q,hc,z0I,z3N (by lia)];rfl) rfl (λb'=>(hol b').trans (hol b).symm) (by rw[hl,show qg=16777216 from rfl];lia) (λ_ _=>z9o) (by rw[hl];rfl)
  (λd _ b=>zeP) (λ_ _=>rfl) ⟨rfl,rfl,(by intro y hy;cases hy),hB,b9 _⟩ (by
   rintro i hi acc b m ha ⟨rfl,q2,q3,q4,q5⟩
   rw[hl] at hi
   obtain⟨y,b',m',h1,h2,h3,h4,h5⟩:=hme acc.length hi acc b m q5 q4 q2
   refine⟨true,m,rfl, .inr ⟨rfl,y,b',m',⟨by simp, ?_,λz hz=> ?_,h3,by lia⟩, ?_⟩⟩
   .rw[z1W,q2]
    erw[qx,h1,e8]
   .rcases e9.mp hz with hz|hz
    .exact q3 z hz
    .rw[i4.mp hz];exact h2
   .rw[show(U8 0 N)[acc.length]= .int (0+(acc.length:Nat)) by simp[U8]]
    exact h5)
 exact⟨ys,b',n',g0.trans hl,g1,g2,g3,g4,h3⟩
theorem z9V{k:Nat}: ∀{N:List (Nat×List Pz)},k∈qx (nD N)->(findL k (nD N)).isSome=true
 |[],h=>by simp[nD,qx] at h
 |q::N,h=>by
  show(findL k (.lst q.1 (psD q.2)::nD N)).isSome=true
  by_cases e:q.1=k
  .erw[findL,Q0,qy e,O2]
  .have h':k∈qx (nD N):=by
    have:k∈qq (.lst q.1 (psD q.2))++qx (nD N):=h
    rcases e9.mp this with q'|q'
    .erw[qq,z0E,c8,i3,or_false] at q'
     exact absurd q'.symm e
    .exact q'
   have e2:Q0 k (.lst q.1 (psD q.2))=none:=z2k _ (by erw[qq,z0E,c8,i3,or_false];exact λq=>e q.symm)
   erw[findL,e2]
   exact z9V h'
def Okn(l LN:Nat)(b:List D)(N:List (Nat×List Pz))(o:Option D):Prop:=UpO l o\/o=some (.lst l b)\/o=some (.lst LN (nD N))
def zkq{t:D}{l LN n' n:Nat}(hb:qx b=[])(hb':qx b'=[])(hL:l<LN)(hN: ∀q∈N,l<q.1)(f1: ∀o∈σ,Okn l LN b N o)(f2: ∀o∈tm,Okn l LN b N o):
 z1I (.ok t [.lst l b', .lst LN (nD N)] n') [.lst l b, .lst LN (nD N)] ⟨σ,tm,n⟩= .ok t ⟨rpO (pl l (.lst l b')) σ,rpO (pl l (.lst l b')) tm,n'⟩:=by
 have eb: ∀k,k≠l->Q0 k (.lst l b')=none:=λk hk=>z2k _ (by erw[qq,hb',c8,i3,or_false];exact hk)
 have e1:findL l [.lst l b', .lst LN (nD N)]=some (.lst l b'):=by erw[findL,Q0,if_true]
 have e2:findL LN [.lst l b', .lst LN (nD N)]=some (.lst LN (nD N)):=by
  erw[findL,eb LN (by lia)]
  erw[Q0,if_true]
 have e3: ∀k,k<l->findL k [.lst l b', .lst LN (nD N)]=none:=λk hk=>by
  refine findL_none _ λh=> ?_
  erw[qx,qq,hb',e8,p9,l5,c8] at h
  rcases h with h|h|h
  .lia
  .lia
  .obtain⟨q,hq,e⟩:=z4t h
   have:=hN q hq
   lia
 have go: ∀o,Okn l LN b N o->m9 (rp λk=>findL k [.lst l b', .lst LN (nD N)]) o=m9 (rp (pl l (.lst l b'))) o:=by
  rintro o (h|rfl|rfl)
  .cases o with
   |none=>rfl
   |some d=>
    have h1:rp (λk=>findL k [.lst l b', .lst LN (nD N)]) d=d:=zay d λk hk=>e3 k (h d rfl k hk)
    have h2:rp (pl l (.lst l b')) d=d:=Z5 λhk=>A8 _ (h d rfl l hk)
    rw[i9,i9,h1,h2]
  .rw[i9,i9,z2s]
   erw[rp,e1]
  .have h2:rp (pl l (.lst l b')) (.lst LN (nD N))= .lst LN (nD N):=Z5 λhk=>by
    erw[qq,c8] at hk
    rcases hk with hk|hk
    .lia
    .obtain⟨q,hq,e⟩:=z4t hk
     have:=hN q hq
     lia
   rw[i9,i9,h2]
   erw[rp,e2]
 have gos: ∀L:List (Option D),(∀o∈L,Okn l LN b N o)->rpO (λk=>findL k [.lst l b', .lst LN (nD N)]) L=rpO (pl l (.lst l b')) L:=by
  intro L
  induction L with
  |nil=>intro _;rfl
  |cons o L ih=>intro h;rw[U3,U3,go o (h o c9),ih λo' h'=>h o' (b7 _ h')]
 have same: ∀o,Okn l LN b N o->m9 (rp (pl l (.lst l b))) o=o:=by
  rintro o (h|rfl|rfl)
  .exact h.fix _
  .rw[i9,z2s]
  .rw[i9,Z5 λhk=> ?_]
   erw[qq,c8] at hk
   rcases hk with hk|hk
   .lia
   .obtain⟨q,hq,e⟩:=z4t hk
    have:=hN q hq
    lia
 have sames: ∀L:List (Option D),(∀o∈L,Okn l LN b N o)->rpO (pl l (.lst l b)) L=L:=by
  intro L
  induction L with
  |nil=>intro _;rfl
  |cons o L ih=>intro h;rw[U3,same o (h o c9),ih λo' h'=>h o' (b7 _ h')]
 rw[z9s,gos σ f1,gos tm f2]
 .intro k hk
  erw[qx,qq,hb,e8,p9,l5,c8] at hk
  by_cases h1:k=l
  .subst h1;rw[e1];rfl
  .erw[findL,eb k h1]
   by_cases h2:LN=k
   .erw[Q0,qy h2];rfl
   .erw[Q0,qh h2]
    rcases hk with hk|hk|hk
    .exact absurd hk h1
    .exact absurd hk.symm h2
    .have:=z9V hk
     cases e:findL k (nD N) with
     |none=>rw[e] at this;cases this
     |some x=>rfl
 .intro h
  have:b'=b:=by injection h with h _;injection h
  subst this
  rw[gos σ f1,gos tm f2]
  exact⟨sames σ f1,sames tm f2⟩
theorem zcr{P:Wi->Prop}: ∀{ys:List D},(∀y∈ys,∃w:Wi,y=w.d/\P w)->∃W:List Wi,ys=wsD W/\(∀w∈W,P w)/\W.length=ys.length
 |[],_=>⟨[],rfl,(by intro w hw;cases hw),rfl⟩
 |y::ys,h=>by
  obtain⟨w,rfl,hw⟩:=h y c9
  obtain⟨W,rfl,h1,h2⟩:=zcr (ys:=ys) λz hz=>h z (b7 _ hz)
  refine⟨w::W,rfl,λv hv=> ?_,by simp[h2]⟩
  rcases c8.mp hv with rfl|hv
  .exact hw
  .exact h1 v hv
def zez{l:Nat}{acc:List D}(h:qx acc=[]):rpO (pl l d) (acc.reverse.map some)=acc.reverse.map some:=z3i (by rw[h];exact i3)
def zkr:MS:=J8 (.nm 3) (y8 (mCB [(Z0 y9 [(y0 2),(mC (.int 5))]),(mC (.int 12))] lstM) (mCB [(y8 (Z0 y9 [(y0 2),(mC (.int 8))]) (mC (.int 5)) eqD)] zbO) ixD)
def ntM:MS:=J8 (.nm 5) (Z0 X2 [(y0 2),(y8 (mCB [(y8 (mC (.int 1)) (Z0 y9 [(y0 2),(mC (.int 8))]) K9),(mC (.int 24))] lstM) (mCB [(y8 (Z0 y9 [(y0 2),(mC (.int 8))]) (mC (.int 5)) eqD)] zbO) ixD)])
def zks:MS:=J8 (.nm 6) (Y7 (X4 [(y0 3)]) (.nm 0) (rt true) (Z0 V8 [(y0 1),(y0 2)]) 1 [2,5])
def zeA(sc:D)(hsc:qq sc=[])(kk:Int)(l:Nat)(c x:Int)(n:Nat)(h:Bg c x)(hn:l<n)(o3 o4 o5 o6 o7:Option D)(u3:UpO l o3)(u4:UpO l o4)(u5:UpO l o5)(u6:UpO l o6)(u7:UpO l o7):
 ∃(T:Nat) (c' x':Int),T<=12/\Bg c' x'/\zkr ⟨[some sc,some (.int kk),some (.lst l [.int c, .int x]),o3,o4,o5,o6,o7],[some sc],n⟩= .nx ⟨[some sc,some (.int kk),some (.lst l [.int c', .int x']),some (.int (T:Nat)),o4,o5,o6,o7],[some sc],n+1⟩:=by
 have fS: ∀d,rp (pl l d) sc=sc:=λd=>Z5 (by rw[hsc];exact i3)
 obtain⟨r,c1,x1,r0,r1,b1,e1⟩:=J5 l c x 5 n h (by decide) (by decide)
 obtain⟨r',c2,x2,s0,s1,b2,e2⟩:=J5 l c1 x1 8 (n+1) b1 (by decide) (by decide)
 have fl: ∀d (u w:Int),rp (pl l d) (.lst n [.int u, .int w])= .lst n [.int u, .int w]:=λd u w=>by rw[z1y (by lia)];rfl
 have hv: ∃v:Nat,v<=12/\atI [D.int r,D.int 12] (if(r'==5)=true then 1 else 0)=some (.int (v:Nat)):=by
  split
  .exact⟨12,by decide,at1⟩
  .exact⟨r.toNat,by lia,by rw[show((r.toNat:Nat):Int)=r by lia];exact at0⟩
 obtain⟨T,t1,ev⟩:=hv
 refine⟨T,c2,x2,t1,b2, ?_⟩
 delta zkr
 left
 rw[e1,Y9 rfl rfl rfl (λq=>by left;erw[fS,u3.fix,u4.fix,u5.fix,u6.fix,u7.fix];rfl) (λq=>by left;erw[fS];rfl)]
 left
 rw[e2,Y9 rfl rfl rfl (λq=>by left;erw[fS,u3.fix,u4.fix,u5.fix,u6.fix,u7.fix];rfl) (λq=>by left;erw[fS,fl];rfl)]
 left
 rw[ev]
 left
def zkt(sc:D)(hsc:qq sc=[])(kk T:Int)(Rt:List (List Int))(l:Nat)(c x:Int)(n:Nat)(h:Bg c x)(hn:l<n)(o5 o6 o7:Option D)(u5:UpO l o5)(u6:UpO l o6)(u7:UpO l o7):
 ∃(m:Nat) (N:List (Nat×List Pz)) (LN:Nat) (c' x':Int) (n':Nat),1<=m/\m<=24/\Net m N/\n<=LN/\LN<n'/\(∀q∈N,n<=q.1/\q.1<n')/\Bg c' x'/\ntM ⟨[some sc,some (.int kk),some (.lst l [.int c, .int x]),some (.int T),some (.tup (rD Rt)),o5,o6,o7],[some sc],n⟩= .nx ⟨[some sc,some (.int kk),some (.lst l [.int c', .int x']),some (.int T),some (.tup (rD Rt)),some (.lst LN (nD N)),o6,o7],[some sc],n'⟩:=by
 have fS: ∀d,rp (pl l d) sc=sc:=λd=>Z5 (by rw[hsc];exact i3)
 obtain⟨r,c1,x1,r0,r1,b1,e1⟩:=J5 l c x 8 n h (by decide) (by decide)
 obtain⟨r',c2,x2,s0,s1,b2,e2⟩:=J5 l c1 x1 8 (n+1) b1 (by decide) (by decide)
 have fl: ∀d (u w:Int),rp (pl l d) (.lst n [.int u, .int w])= .lst n [.int u, .int w]:=λd u w=>by rw[z1y (by lia)];rfl
 have hv: ∃v:Nat,1<=v/\v<=24/\atI [D.int (1+r),D.int 24] (if(r'==5)=true then 1 else 0)=some (.int (v:Nat)):=by
  split
  .exact⟨24,by decide,by decide,at1⟩
  .exact⟨(1+r).toNat,by lia,by lia,by rw[show(((1+r).toNat:Nat):Int)=1+r by lia];exact at0⟩
 obtain⟨m,m1,m2,ev⟩:=hv
 obtain⟨N,LN,c3,x3,n3,g1,g2,g3,g4,b3,e3⟩:=zhN l c2 x2 m m2 (n+1) (by lia) b2
 refine⟨m,N,LN,c3,x3,n3,m1,m2,g1,by lia,g3,λq hq=>by have:=g4 q hq;lia,b3, ?_⟩
 delta ntM
 left
 rw[e1,Y9 rfl rfl rfl (λq=>by left;erw[fS,z5y,u5.fix,u6.fix,u7.fix];rfl) (λq=>by left;erw[fS];rfl)]
 left
 rw[e2,Y9 rfl rfl rfl (λq=>by left;erw[fS,z5y,u5.fix,u6.fix,u7.fix];rfl) (λq=>by left;erw[fS,fl];rfl)]
 left
 rw[ev]
 left
 rw[e3,Y9 rfl rfl rfl (λq=>by left;erw[fS,z5y,u5.fix,u6.fix,u7.fix];rfl) (λq=>by left;erw[fS];rfl)]
 left
def zie sc(hsc:qq sc=[]) kk l LN T m(hT:T<=100) Rt c x(N:List (Nat×List Pz)) n(h:Bg c x)(hL:l<LN)(hNl: ∀q∈N,l<q.1)(hN:Net m N)(h1:1<=m)(h2:m<=24)(hn:l<n) o6 o7(u6:UpO l o6)(u7:UpO l o7):
 ∃(W:List Wi) (c' x':Int) (n':Nat),(∀w∈W,w.fit N)/\W.length=T/\Bg c' x'/\n<=n'/\zks ⟨[some sc,some (.int kk),some (.lst l [.int c, .int x]),some (.int (T:Nat)),some (.tup (rD Rt)),some (.lst LN (nD N)),o6,o7],[some sc],n⟩= .nx ⟨[some sc,some (.int kk),some (.lst l [.int c', .int x']),some (.int (T:Nat)),some (.tup (rD Rt)),some (.lst LN (nD N)),some (.lst n' (wsD W)),o7],[some sc],n'+1⟩:=by
 have uS:UpO l (some sc):=UpO.of λj hj=>by rw[hsc] at hj;cases hj
 have uR:UpO l (some (.tup (rD Rt))):=UpO.of λj hj=>by
  erw[qq] at hj
  obtain⟨e,he,hk⟩:=qv hj
  obtain⟨r,_,rfl⟩:=i0.mp he
  erw[qq,g9] at hk;cases hk
 have fN:=z1Y hL hNl
 have fS: ∀d,rp (pl l d) sc=sc:=λd=>Z5 (by rw[hsc];exact i3)
 obtain⟨ys,b',n',g1,g2,g3,⟨c',x',rfl,hb'⟩,g4,e⟩:=zbi (ms:=[(y0 3)]) (me:=Z0 V8 [(y0 1),(y0 2)]) (B:=λb=> ∃c x,b=[.int c, .int x]/\Bg c x) (Q:=λy=> ∃w:Wi,y=w.d/\w.fit N) (N:=T) (ix:=[2,5]) (σ:=λb=>[some sc,some (.int kk),some (.lst l b),some (.int (T:Nat)),some (.tup (rD Rt)),some (.lst LN (nD N)),o6,o7]) (tm:=λ_=>[some sc]) (s:=⟨[some sc,some (.int kk),some (.lst l [.int c, .int x]),some (.int (T:Nat)),some (.tup (rD Rt)),some (.lst LN (nD N)),o6,o7],[some sc],n⟩) (b:=[.int c, .int x]) (n:=n) (by left) (by lia) (λ_=>rfl) ⟨c,x,rfl,h⟩ (by
  rintro i hi acc b k hk ⟨c,x,rfl,hb⟩ hacc
  obtain⟨w,c',x',n',w1,w2,w3,w4⟩:=zhO l LN m c x N k hb hL hNl hN h1 h2 (by lia)
  refine⟨w.d,[.int c', .int x'],n',z9z w,⟨w,rfl,w1⟩,⟨c',x',rfl,w2⟩,w3, ?_⟩
  erw[b8,l0,List.getElem?_cons_zero,List.getElem?_cons_succ,l7]
  left
  have inA: ∀o∈(acc.reverse.map some:List (Option D)),Okn l LN [.int c, .int x] N o:=λo ho=>by
   obtain⟨d,hd,rfl⟩:=i0.mp ho
   refine .inl (UpO.of λj hj=> ?_)
   have:=z4q (List.mem_reverse.mp hd) hj
   rw[hacc] at this;cases this
  rw[w4,zkq rfl rfl hL hNl (λo ho=> ?_) (λo ho=> ?_)]
  .left
   erw[z1x,zez hacc,U3,z1c,i9,z1V,z2s,fN,fS,z9H,u6.fix,u7.fix]
  .erw[c8,i3,or_false] at ho
   rcases ho with rfl|rfl|rfl
   .exact .inl UpO.int
   .exact .inr (.inl rfl)
   .exact .inr (.inr rfl)
  .rcases e9.mp ho with ho|ho
   .exact inA o ho
   .erw[p9,l5,c8,i3,or_false] at ho
    rcases ho with rfl|rfl|rfl|rfl|rfl|rfl|rfl|rfl|rfl
    .exact .inl uS
    .exact .inl UpO.int
    .exact .inr (.inl rfl)
    .exact .inl UpO.int
    .exact .inl uR
    .exact .inr (.inr rfl)
    .exact .inl u6
    .exact .inl u7
    .exact .inl uS)
 obtain⟨W,rfl,w1,w2⟩:=zcr g3
 refine⟨W,c',x',n',w1,by lia,hb',g4, ?_⟩
 delta zks
 rw[zec,e,z2i]
 rfl
def zeB:isN .non .non s= .ok (.bool true) s:=(rfl)
def zeC:isN (.tup ds) .non s= .ok (.bool false) s:=(rfl)
def zbj:zeI .non .non s= .ok (.bool false) s:=(rfl)
def zku{a b:Nat}:neD (.lst a []) (.lst b []) s= .ok (.bool false) s:=by
 rw[zjJ (by erw[eqC,Mi.U4,er,PyData.canLay0,PyData.depth,plainL,erL,PyData.canLayAll0,PyData.depthAll];rfl)]
 rfl
def zcs{W:List Wi}{l:Nat}:z5Z (wsD W) none (some (l:Int))=wsD (W.take l):=by rw[zcl,wsD,wsD,u0a]
def zls(W:List Wi):D->D
 | .int i=>(wAt W i.toNat).d
 |_=> .non
def z2p{W:List Wi}{e:Nat}(h:e<W.length):wAt W e∈W:=by
 erw[wAt,List.getD_eq_getElem?_getD,List.getElem?_eq_getElem h,l7]
 exact l6 h
def zkR:M D:=(Y7 (Q5 (y0 7)) (.nm 0) (rt true) (y8 (y0 1) (y0 0) ixD) 1 [6])
def zkv:MS:=sIf (mOr (J3 (y8 (Z0 j8 [(Z0 Q8 [(y0 5),(y0 6)])]) (mC (.int 0)) neD)) (J3 (y8 (Z0 j8 [(Z0 Q8 [(y0 5),zkR])]) (mC (.int 0)) neD))) (G2 (mC (.bool false))) sNx
def zkw:MS:=sIf (mOr (J3 (y8 (Z0 Z9 [(Z0 Q8 [(y0 5),(y0 6)]),(y0 4),(mC (.int 20))]) (mCB [] lstM) neD)) (zbM (J3 (z2W (mC (.int 0)) (y8 (y0 7) (mC (.int 0)) ixD) (y8 (y0 7) (mC (.int 1)) ixD) (y0 3) leD ltD ltD)))) (G2 (mC (.bool false))) sNx
def zkx:MS:=sIf (mOr (J3 (y8 (Z0 J7 [(mSl (y0 6) none (some (y8 (y0 7) (mC (.int 1)) ixD)))]) (mC .non) zeI)) (zbM (J3 (Z0 V9 [(y0 5),(y0 4),(mSl (y0 6) none (some (y8 (y0 7) (mC (.int 1)) ixD)))])))) (G2 (mC (.bool false))) sNx
def zeD:MS:=W9 (J8 (.nm 7) (Z0 J7 [(y0 6)]))
 (sIf (J3 (y8 (y0 7) (mC .non) isN)) (sIf (zbM (J3 (Z0 V9 [(y0 5),(y0 4),(y0 6)]))) (G2 (mC (.bool false))) sNx) (W9 zkv (W9 zkw zkx)))
def zif{W:List Wi}{e l LW:Nat}(he:e<W.length)(hl:l<W.length)(hW:W.length<=100){σ tm:List (Option D)}(s7:σ[7]? =some (some (.tup [.int (e:Nat), .int (l:Nat)])))(s6:σ[6]? =some (some (.lst LW (wsD W))))(n:Nat): ∃n',n<=n'/\zkR ⟨σ,tm,n⟩= .ok (.lst n' (wsD [wAt W e,wAt W l])) ⟨σ,tm,n'+1⟩:=by
 obtain⟨n',h1,h2⟩:=z7t (mc:=y0 7) (mt:=rt true) (me:=y8 (y0 1) (y0 0) ixD) (p:=λ_=>true) (g:=zls W) (ds:=[.int (e:Nat), .int (l:Nat)]) (ix:=[6]) (s:=⟨σ,tm,n⟩) (σ:=σ) (tm:=tm) (n:=n) (by rw[z5n,s7];rfl) (by rw[zl];show 2<_;decide) (λd _ tm n=>⟨n,b9 _,rfl⟩) (λd hd _ tm n=>by
  obtain⟨i,hi,rfl⟩: ∃i:Nat,i<W.length/\d= .int (i:Nat):=by
   erw[c8,i3,or_false] at hd
   rcases hd with rfl|rfl
   .exact⟨e,he,rfl⟩
   .exact⟨l,hl,rfl⟩
  refine⟨n,b9 _, ?_⟩
  erw[b8,l0,s6,l7]
  left
  rw[z0J (d:=(wAt W i).d) (by lia) (by rw[t9];exact zem hi)]
  left
  rfl)
 rw[z0n] at h2
 exact⟨n',h1,h2⟩
def zbk:z2W ma mb mc md g g' g'' s=(ma s).bnd λx s1=>(mb (s1.psh x)).bnd λy s2=>(pop s2).bnd λx' s3=>z2Q y (bd (J3 (g x' y)) λk=>z3D k (z8Z y mc g' λz=>bd md λw=>g'' z w) (rt (.bool false))) s3:=(rfl)
def zig:z8Z y mc g f s=(mc s).bnd λz s1=>z2Q z (bd (J3 (g y z)) λk=>z3D k (f z) (rt (.bool false))) s1:=(rfl)
section
variable{m:Nat}{N:List (Nat×List Pz)}(hN:Net m N)(hm:m<=24)(Rt:List (List Int))(hR:R10 Rt)(W:List Wi)(hf: ∀w∈W,w.fit N)(hW:W.length<=100)(LN LW:Nat)(a0 a1 a2:Option D)(tm:List (Option D))
include hN hm hf hW
def zih{e l:Nat}(hel:e<l)(hl:l<W.length)(hfi:fightB (wAt W e) (wAt W l)=true) a3 a4 n: ∃n',n<=n'/\zkv ⟨[a0,a1,a2,a3,a4,some (.lst LN (nD N)),some (.lst LW (wsD W)),some (.tup [.int (e:Nat), .int (l:Nat)])],tm,n⟩= .nx ⟨[a0,a1,a2,a3,a4,some (.lst LN (nD N)),some (.lst LW (wsD W)),some (.tup [.int (e:Nat), .int (l:Nat)])],tm,n'⟩:=by
 obtain⟨N1,n1,h1,h2,h3,h3',h4,c,c1,c2⟩:=z6V hN hm W hW LN LW n
 obtain⟨k1,g1,g2⟩:=c2 (n1+1) (m8 _)
 have z1:c=0:=c1.mpr (zey hN hf (z2p (by lia)) (z2p hl) hfi)
 obtain⟨n2,i1,i2⟩:=zif (W:=W) (e:=e) (l:=l) (LW:=LW) (by lia) hl hW (σ:=[a0,a1,a2,a3,a4,some (.lst LN (nD N)),some (.lst LW (wsD W)),some (.tup [.int (e:Nat), .int (l:Nat)])]) (tm:=some (.lst LN (nD N))::tm) rfl rfl k1
 obtain⟨N2,n3,j1,j2,j3,j3',j4,d,d1,d2⟩:=z6V hN hm [wAt W e,wAt W l] (by simp) LN n2 (n2+1)
 obtain⟨k2,q1,q2⟩:=d2 (n3+1) (m8 _)
 have hf2: ∀w∈[wAt W e,wAt W l],w.fit N:=λw hw=>by
  erw[c8,i3,or_false] at hw
  rcases hw with rfl|rfl
  .exact hf _ (z2p (by lia))
  .exact hf _ (z2p hl)
 have z2:d=0:=d1.mpr (zey hN hf2 c9 (b7 _ c9) hfi)
 subst z1 z2
 refine⟨k2,by lia, ?_⟩
 delta zkv
 left
 rw[h4]
 left
 rw[g2]
 left
 rw[i2]
 left
 rw[j4]
 left
 rw[q2]
 left
include hR in
def zii{e l:Nat}(hel:e<l)(hl:l<W.length)(hfi:fightB (wAt W e) (wAt W l)=true) n: ∃n',n<=n'/\zkw ⟨[a0,a1,a2,some (.int (W.length:Nat)),some (.tup (rD Rt)),some (.lst LN (nD N)),some (.lst LW (wsD W)),some (.tup [.int (e:Nat), .int (l:Nat)])],tm,n⟩= .nx ⟨[a0,a1,a2,some (.int (W.length:Nat)),some (.tup (rD Rt)),some (.lst LN (nD N)),some (.lst LW (wsD W)),some (.tup [.int (e:Nat), .int (l:Nat)])],tm,n'⟩:=by
 have lN:=hN.len
 obtain⟨N1,n1,h1,h2,h3,h3',h4,c,c1,c2⟩:=z6V hN hm W hW LN LW n
 obtain⟨l',f',o'⟩:=z9U hN h2
 have ng:=zey hN hf (z2p (by lia)) (z2p hl) hfi
 obtain⟨n2,g1,g2⟩:=zi4 N1 (by rw[h2];exact z6l hN W) (by lia) (λq hq=>by have:=f' q hq;lia) Rt hR 20 (by lia) (by lia) n1 (n1+1) (m8 _) (λq hq=>by have:=h3 q hq;lia) (by rw[h2];exact ng)
 have g2':Z9 [.lst n1 (nD N1), .tup (rD Rt), .int 20] (n1+1)= .ok (.lst n2 []) [.lst n1 (nD N1), .tup (rD Rt), .int 20] (n2+1):=g2
 refine⟨n2+1+1,by lia, ?_⟩
 delta zkw
 left
 rw[h4]
 left
 rw[g2']
 left
 rw[zku]
 left
 rw[zbk]
 left
 rw[show decide ((0:Int)<=((e:Nat):Int))=true from decide_eq_true (by lia)]
 left
 rw[zig]
 left
 rw[show decide (((e:Nat):Int)<((l:Nat):Int))=true from decide_eq_true (by lia)]
 left
 rw[show decide (((l:Nat):Int)<((W.length:Nat):Int))=true from decide_eq_true (by lia)]
 left
include hR in
def zij{e l:Nat}(hl:l<W.length)(hn1:z3R (W.take l))(hn2:z1Z (W.take l)= .non) a3 n: ∃n',n<=n'/\zkx ⟨[a0,a1,a2,a3,some (.tup (rD Rt)),some (.lst LN (nD N)),some (.lst LW (wsD W)),some (.tup [.int (e:Nat), .int (l:Nat)])],tm,n⟩= .nx ⟨[a0,a1,a2,a3,some (.tup (rD Rt)),some (.lst LN (nD N)),some (.lst LW (wsD W)),some (.tup [.int (e:Nat), .int (l:Nat)])],tm,n'⟩:=by
 have hf2: ∀w∈W.take l,w.fit N:=λw hw=>hf w (M7 hw)
 have ll:(W.take l).length<=100:=by rw[A3];lia
 obtain⟨n1,g1,g2⟩:=zht (W.take l) (λw hw=>Wi.fit_ok hN hm (hf2 w hw)) ll n (n+1)
 obtain⟨n2,h1,h2⟩:=z5E hN hm Rt hR (W.take l) hf2 ll hn1 LN n1 (n1+1)
 rw[hn2] at g2
 refine⟨n2,by lia, ?_⟩
 delta zkx
 left
 rw[zcs,g2]
 left
 rw[zbj]
 left
 rw[zcs,h2]
 left
include hR in
def zeE o7 n: ∃two n',qq two=[]/\n<=n'/\zeD ⟨[a0,a1,a2,some (.int (W.length:Nat)),some (.tup (rD Rt)),some (.lst LN (nD N)),some (.lst LW (wsD W)),o7],tm,n⟩= .nx ⟨[a0,a1,a2,some (.int (W.length:Nat)),some (.tup (rD Rt)),some (.lst LN (nD N)),some (.lst LW (wsD W)),some two],tm,n'⟩:=by
 obtain⟨n1,g1,g2⟩:=zht W (λw hw=>Wi.fit_ok hN hm (hf w hw)) hW LW n
 delta zeD
 rcases z6m W with⟨e1,e2⟩|⟨e,l,h1,h2,h3,h4,h5,h6⟩
 .obtain⟨n2,i1,i2⟩:=z5E hN hm Rt hR W hf hW e2 LN LW n1
  rw[e1] at g2
  refine⟨.non,n2,rfl,by lia, ?_⟩
  left
  rw[g2]
  left
  rw[zeB]
  left
  rw[i2]
  left
 .rw[h3] at g2
  obtain⟨n2,i1,i2⟩:=zih hN hm W hf hW LN LW a0 a1 a2 tm h1 h2 h4 (some (.int (W.length:Nat))) (some (.tup (rD Rt))) n1
  obtain⟨n3,j1,j2⟩:=zii hN hm Rt hR W hf hW LN LW a0 a1 a2 tm h1 h2 h4 n2
  obtain⟨n4,k1,k2⟩:=zij hN hm Rt hR W hf hW LN LW a0 a1 a2 tm (e:=e) h2 h5 h6 (some (.int (W.length:Nat))) n3
  refine⟨.tup [.int (e:Nat), .int (l:Nat)],n4,by erw[qq,qx,e8],by lia, ?_⟩
  left
  rw[g2]
  left
  rw[zeC]
  left
  rw[i2]
  left
  rw[j2]
  left
  rw[k2]
end
def ziE:MS:=(W9 (J8 (.nm 2) (Z0 z3a [(y0 0),(y0 1)])) (W9 zkr (W9 (J8 (.nm 4) (Z0 z19 [(y0 2)])) (W9 ntM (W9 zks zeD)))))
def zik(ns:List Int)(hl:ns.length<1000)(k:Nat)(hk:k<4)(n:Nat)(o2 o3 o4 o5 o6 o7:Option D)(u2:UpO n o2)(u3:UpO n o3)(u4:UpO n o4)(u5:UpO n o5)(u6:UpO n o6)(u7:UpO n o7):
 ∃p2 p3 p4 p5 p6 p7 n',UpO n' p2/\UpO n' p3/\UpO n' p4/\UpO n' p5/\UpO n' p6/\UpO n' p7/\ziE ⟨[some (.ro (ns.map .int)),some (.int (k:Nat)),o2,o3,o4,o5,o6,o7],[some (.ro (ns.map .int))],n⟩= .nx ⟨[some (.ro (ns.map .int)),some (.int (k:Nat)),p2,p3,p4,p5,p6,p7],[some (.ro (ns.map .int))],n'⟩:=by
 have hsc:qq (.ro (ns.map .int))=[]:=by
  erw[qq]
  induction ns with
  |nil=>rfl
  |cons i ns ih=>erw[b8,qx,qq,l5];exact ih (by simp at hl;lia)
 have sr: ∀j d,rp (pl j d) (.ro (ns.map .int))= .ro (ns.map .int):=λj d=>Z5 (by rw[hsc];exact i3)
 obtain⟨c,x,b0,e0⟩:=zhh ns k n (by lia) hl
 obtain⟨T,c1,x1,t1,b1,e1⟩:=zeA (.ro (ns.map .int)) hsc (k:Nat) n c x (n+1) b0 (m8 _) o3 o4 o5 o6 o7 u3 u4 u5 u6 u7
 obtain⟨rs,c2,x2,n2,r1,r2,b2,hn2,e2⟩:=zhD n c1 x1 (n+1+1) b1 (by lia)
 obtain⟨Rt,rfl,hRt⟩:=zcf r2
 have hR:R10 Rt:=⟨by simpa[rD] using r1,hRt⟩
 obtain⟨m,N,LN,c3,x3,n3,m1,m2,hN,g1,g2,g3,b3,e3⟩:=zkt (.ro (ns.map .int)) hsc (k:Nat) (T:Nat) Rt n c2 x2 n2 b2 (by lia) o5 o6 o7 u5 u6 u7
 obtain⟨W,c4,x4,n4,hf,hWl,b4,hn4,e4⟩:=zie (.ro (ns.map .int)) hsc (k:Nat) n LN T m (by lia) Rt c3 x3 N n3 b3 (by lia) (λq hq=>by have:=g3 q hq;lia) hN m1 m2 (by lia) o6 o7 u6 u7
 subst hWl
 obtain⟨two,n5,w1,hn5,e5⟩:=zeE hN m2 Rt hR W hf (by lia) LN n4 (some (.ro (ns.map .int))) (some (.int (k:Nat))) (some (.lst n [.int c4, .int x4])) [some (.ro (ns.map .int))] o7 (n4+1)
 have uB:UpO n5 (some (.lst n [.int c4, .int x4])):=UpO.of (z5t (by lia) λe he j hj=>by
  erw[c8,i3,or_false] at he
  rcases he with rfl|rfl<;>(erw[qq] at hj;cases hj))
 have uR:UpO n5 (some (.tup (rD Rt))):=UpO.of λj hj=>by
  erw[qq] at hj
  obtain⟨e,he,hk⟩:=qv hj
  obtain⟨r,_,rfl⟩:=i0.mp he
  erw[qq,g9] at hk;cases hk
 refine⟨_,_,_,_,_,some two,n5,uB,UpO.int (i:=(W.length:Nat)),uR,UpO.of (z4s (L:=LN) (N:=N) (by lia) λq hq=>by have:=g3 q hq;lia),UpO.of (zk2 (W:=W) (L:=n4) (by lia)),UpO.of (λj hj=>by rw[w1] at hj;cases hj), ?_⟩
 delta ziE
 left
 rw[e0]
 left
 rw[e1]
 left
 rw[e2,Y9 rfl rfl rfl (λq=>by left;erw[sr,u4.fix,u5.fix,u6.fix,u7.fix];rfl) (λq=>by left;erw[sr];rfl)]
 left
 rw[e3]
 left
 rw[e4]
 left
 rw[e5]
def zil(ns:List Int)(hl:ns.length<1000)(n:Nat): ∃n',f_law [.ro (ns.map .int)] n= .ok (.bool true) [.ro (ns.map .int)] n':=by
 delta f_law
 have e0:zdX=W9 (z1A (X4 [(mCB [(mC (.int 2)),(mCB [(mC (.int 3)),(mCB [(y0 0)] z4Y)] zaE)] zeM)]) (.nm 1) ziE) (G2 (mC (.bool true))):=rfl
 obtain⟨T,hT,eT⟩: ∃T:Nat,T<=4/\(if(if((ns.map D.int).length:Int)<3 then((ns.map D.int).length:Int) else 3)>2 then(if((ns.map D.int).length:Int)<3 then((ns.map D.int).length:Int) else 3) else 2)=(T:Int):=by
  have go: ∀z:Int,0<=z->∃T:Nat,T<=4/\(if(if z<3 then z else 3)>2 then(if z<3 then z else 3) else 2)=(T:Int):=by
   intro z hz
   by_cases h1:z<3
   .erw[qy h1]
    by_cases h2:z>2
    .exact⟨z.toNat,by lia,by rw[qy h2];lia⟩
    .exact⟨2,by lia,by rw[qh h2];rfl⟩
   .erw[qh h1]
    exact⟨3,by lia,by rw[qy (by decide)];rfl⟩
  exact go _ (by lia)
 obtain⟨s',e1,p1,p2,p3,p4,p5,p6,p7,n',_,_,_,_,_,_,rfl⟩:=z3h (P:=λ_ s=> ∃p1 p2 p3 p4 p5 p6 p7 n',UpO n' p2/\UpO n' p3/\UpO n' p4/\UpO n' p5/\UpO n' p6/\UpO n' p7/\s=⟨[some (.ro (ns.map .int)),p1,p2,p3,p4,p5,p6,p7],[some (.ro (ns.map .int))],n'⟩) (lo:=0) (N:=T) (g:= .nm 1) (b:=ziE) (by
  rintro i hi s ⟨p1,p2,p3,p4,p5,p6,p7,n',u2,u3,u4,u5,u6,u7,rfl⟩
  refine⟨_,rfl, ?_⟩
  obtain⟨q2,q3,q4,q5,q6,q7,m,v2,v3,v4,v5,v6,v7,e⟩:=zik ns hl i (by lia) n' p2 p3 p4 p5 p6 p7 u2 u3 u4 u5 u6 u7
  rw[N9]
  exact⟨_,e,_,q2,q3,q4,q5,q6,q7,m,v2,v3,v4,v5,v6,v7,rfl⟩) T 0 ⟨[some (.ro (ns.map .int)),none,none,none,none,none,none,none],[some (.ro (ns.map .int))],n⟩ (by lia) ⟨none,none,none,none,none,none,none,n,UpO.none,UpO.none,UpO.none,UpO.none,UpO.none,UpO.none,rfl⟩
 refine⟨n', ?_⟩
 rw[e0]
 left
 rw[eT,z3N (by lia)]
 left
 rw[t9,e1]
 left
end My
set_option maxHeartbeats 4000000
namespace Mi
open PySem L2 PySem.Spec PyProof.Rows
def z9W(K:W.Frag)(np:Nat)(f:FM):Sp:=λvs H Q E=>vs.length=np/\∀G:Gx,G.K=K->KD K H->spM G np f vs H Q E
def zim{P:bp}{w:br}{K:W.Frag}{mg:Str->Option bb}{base:Heap}{CX:CXT}{k:Nat}{fa:Addr}{fd:bI}{x:Str}{f:FM}{G:Gx}(hG:G.K=K)(F:z0L P w K mg base CX k fa fd [x] (spM G 1 f)):z0L P w K mg base CX k fa fd [x] (z9W K 1 f):=
 ⟨λ_ _ _ _ h=>h.1,λA outer s H args us vs Q E hr e0 hb hv h=>F.run A outer s H args us vs Q E hr e0 hb hv (h.2 G hG λa o e=>(e0.bs a o (e0.mod.kin a o e)).2)⟩
theorem RDs.ints: ∀ns:List Int,RDs G ρ H (ns.map D.int) (ns.map V.int)
 |[]=>by erw[l0,RDs]
 |n::ns=>by
  erw[b8,RDs]
  exact⟨_,_,rfl,by erw[RD],RDs.ints ns⟩
theorem z3S: ∀ns:List Int,qx (ns.map D.int)=[]
 |[]=>by erw[l0,qx]
 |n::ns=>by erw[b8,qx,qq,z3S ns,l5]
def zin{K:W.Frag}{H:Hp}{a:Addr}{ns:List Int}{f:FM}{E:XK}(e: ∀n,∃n',f [.ro (ns.map D.int)] n= .ok (.bool true) [.ro (ns.map D.int)] n')(hO:zir H)(hS:SqL K H a (ns.map V.int)):z9W K 1 f [.ref a] H (λv _=>v= .bl true) E:=by
 refine⟨rfl,λG hG kd=> ?_⟩
 subst hG
 refine⟨rfl,λ_=>a,0,[.ro (ns.map D.int)], ?_,λi j hi=>absurd hi (u04 _),λl hl=>absurd hl (u04 _),λl hl=> ?_,kd, ?_⟩
 .erw[RDs,RD]
  refine⟨_,_,rfl,⟨a,ns.map V.int,rfl, ?_,RDs.ints ns⟩,rfl⟩
  rcases hS with(h|h)|h
  .rcases hO a with z|⟨o,xs,z⟩<;>rw[h] at z<;>cases z
  .exact .inl h
  .exact .inr h
 .erw[qx,qq,z3S,e8] at hl
  cases hl
 .obtain⟨n',e⟩:=e 0
  rw[e]
  intro ρ' v H' _ rd _
  erw[RD] at rd
  exact rd
end Mi
namespace My
open PySem L2 Mi
structure DA(K:W.Frag)(x:Str)(st:Stmt)(f:Addr)(d:bI):Prop where
 a:W.nsIn K bq x=some (some (.ref f))
 F:Fun K x x st f d
def zky{st:Stmt}{oc:bb}{od an:Option Addr}{sl:Array (Option bb)}{kV dc pm cd ct:bb}(a:W.nsIn K bq x=some (some (.ref f)))
 (l:K.lookup f=some ⟨oc,od, .func (W.fnOf x x (z1m st) (z0b st) (Z2 st) .none kV dc pm an cd ct),sl⟩) (c:W.codeIn K cd x=true) (k:W.keepIn K (.ref f)=true):
 DA K x st f (W.fnOf x x (z1m st) (z0b st) (Z2 st) .none kV dc pm an cd ct):=⟨a,zfu l c k⟩
def dx{K:W.Frag}{h:Heap}{mg:Str->Option bb}{x:Str}{st:Stmt}{f:Addr}{d:bI}{ps:List Str}(X:K.In h)(G:h.Ns bq mg)(a:DA K x st f d)
 (b: ∀(kV dc pm:bb) (an:Option Addr) (cd ct:bb) (us:List bb),us.length=ps.length->bindArgs (W.fnOf x x (z1m st) (z0b st) (Z2 st) .none kV dc pm an cd ct) ⟨us,[]⟩=pure (ps.zip us)):Dx K mg x st ps:=
 ⟨f,d,a.F,a.F.binds b,W.mg_of X G a.a⟩
def la0{P:List bb->Prop}(h:P []) us(hl:us.length=0):P us:=by
 obtain rfl:=P5.mp hl
 exact h
def la1{P:List bb->Prop}(h: ∀a0,P [a0]) us(hl:us.length=1):P us:=by
 obtain⟨a,us,rfl⟩:=A5 hl
 exact la0 (P:=λus=>P (a::us)) (h a) us (Nat.succ.inj hl)
def la2{P:List bb->Prop}(h: ∀a0 a1,P [a0,a1]) us(hl:us.length=2):P us:=by
 obtain⟨a,us,rfl⟩:=A5 hl
 exact la1 (P:=λus=>P (a::us)) (h a) us (Nat.succ.inj hl)
def la3{P:List bb->Prop}(h: ∀a0 a1 a2,P [a0,a1,a2]) us(hl:us.length=3):P us:=by
 obtain⟨a,us,rfl⟩:=A5 hl
 exact la2 (P:=λus=>P (a::us)) (h a) us (Nat.succ.inj hl)
def zio{l:W.OpenLaw}{w:br}{K:W.Frag}{h:Heap}{fa f0 f1 f2 f3 f4 f5 f6 f7 f8 f9 f10 f11 f12 f13 f14 f15 f16 f17 f18:Addr}{d0 d1 d2 d3 d4 d5 d6 d7 d8 d9 d10 d11 d12 d13 d14 d15 d16 d17 d18:bI}(X:K.In h)(G:h.Ns bq mg)(hfa:mg "law" =some (.ref fa))
 (a0:DA K "fighting" z0V f0 d0)
 (a1:DA K "fight" z2Z f1 d1)
 (a2:DA K "wants_barred" X7 f2 d2)
 (a3:DA K "places_wanted" U9 f3 d3)
 (a4:DA K "places_barred" V0 f4 d4)
 (a5:DA K "thinned" z1q f5 d5)
 (a6:DA K "keeps" z30 f6 d6)
 (a7:DA K "how_many" z0W f7 d7)
 (a8:DA K "first_cuttings" G8 f8 d8)
 (a9:DA K "ways_from" z0y f9 d9)
 (a10:DA K "by_kind_ahead" V1 f10 d10)
 (a11:DA K "_law_bag" z6d f11 d11)
 (a12:DA K "_law_take" z4j f12 d12)
 (a13:DA K "_law_rates" z31 f13 d13)
 (a14:DA K "_law_full_net" z0X f14 d14)
 (a15:DA K "_law_wish_of" z1r f15 d15)
 (a16:DA K "_law_keeps" z32 f16 d16)
 (a17:DA K "_law_stands" z2c f17 d17)
 (a18:DA K "law" zdU f18 d18)
 (z0:W.nsIn K bq "abs" =some none)
 (z1:W.nsIn K bq "all" =some none)
 (z2:W.nsIn K bq "any" =some none)
 {tk3:Nat} (z3:W.nsIn K bq "END_KIND" =some (some (.int 9 tk3)))
 (z4:W.nsIn K bq "enumerate" =some none)
 (z5:W.nsIn K bq "int" =some none)
 (z6:W.nsIn K bq "len" =some none)
 (z7:W.nsIn K bq "list" =some none)
 (z8:W.nsIn K bq "max" =some none)
 (z9:W.nsIn K bq "min" =some none)
 (z10:W.nsIn K bq "range" =some none)
 (z11:W.nsIn K bq "reversed" =some none)
 (z12:W.nsIn K bq "sorted" =some none)
 (z13:W.nsIn K bq "tuple" =some none)
 (z14:W.nsIn K bq "zip" =some none)
 : ∃fd:bI,(∀(s:be) (v:bb),dS s fd ⟨[v],[]⟩ [("_law_script",v)])/\∀base:Heap,K.In base->base.Ns bq mg->z0L l.prog w K mg base CX0 5 fa fd ["_law_script"] (z9W K 1 f_law):=by
 have e:=hfa.symm.trans (W.mg_of X G a18.a)
 cases e
 obtain⟨oc,od,kV,doc,pm,an,cdv,ct,osl,rfl,lk,hcd⟩:=a18.F.ex
 exact⟨_,λs v=> .of_eq rfl,λbase _ _=>zim rfl (zgQ ⟨dx X G a0 λ_ _ _ _ _ _=>la1 λ_=>rfl,dx X G a1 λ_ _ _ _ _ _=>la2 λ_ _=>rfl,dx X G a2 λ_ _ _ _ _ _=>la2 λ_ _=>rfl,dx X G a3 λ_ _ _ _ _ _=>la1 λ_=>rfl,dx X G a4 λ_ _ _ _ _ _=>la1 λ_=>rfl,dx X G a5 λ_ _ _ _ _ _=>la2 λ_ _=>rfl,dx X G a6 λ_ _ _ _ _ _=>la3 λ_ _ _=>rfl,dx X G a7 λ_ _ _ _ _ _=>la1 λ_=>rfl,dx X G a8 λ_ _ _ _ _ _=>la3 λ_ _ _=>rfl,dx X G a9 λ_ _ _ _ _ _=>la3 λ_ _ _=>rfl,dx X G a10 λ_ _ _ _ _ _=>la3 λ_ _ _=>rfl,dx X G a11 λ_ _ _ _ _ _=>la2 λ_ _=>rfl,dx X G a12 λ_ _ _ _ _ _=>la2 λ_ _=>rfl,dx X G a13 λ_ _ _ _ _ _=>la1 λ_=>rfl,dx X G a14 λ_ _ _ _ _ _=>la2 λ_ _=>rfl,dx X G a15 λ_ _ _ _ _ _=>la2 λ_ _=>rfl,dx X G a16 λ_ _ _ _ _ _=>la2 λ_ _=>rfl,dx X G a17 λ_ _ _ _ _ _=>la3 λ_ _ _=>rfl,dx X G a18 λ_ _ _ _ _ _=>la1 λ_=>rfl,W.mg_none_of X G z0,W.mg_none_of X G z1,W.mg_none_of X G z2,⟨_,W.mg_of X G z3⟩,W.mg_none_of X G z4,W.mg_none_of X G z5,W.mg_none_of X G z6,W.mg_none_of X G z7,W.mg_none_of X G z8,W.mg_none_of X G z9,W.mg_none_of X G z10,W.mg_none_of X G z11,W.mg_none_of X G z12,W.mg_none_of X G z13,W.mg_none_of X G z14⟩)⟩
def zlt{l:W.OpenLaw}{q:bp}{loose:List Str}{XP:(Str->Option bb)->Heap->Prop}{YP:br->Heap->Prop}{d:DefRec}{K:Params->W.Frag}(hn:l.most=some 63)(hdf:d.params.defaults=[])
 (hY: ∀w (h:Heap),YP w h->(K w.params).In h)
 (F: ∀w (mg:Str->Option bb) fa (h:Heap),(K w.params).In h->h.Ns bq mg->mg d.name=some (.ref fa)->
  ∃fd:bI,(∀s u,dS s fd ⟨[u],[]⟩ [("_law_script",u)])/\∀base:Heap,(K w.params).In base->base.Ns bq mg->z0L l.prog w (K w.params) mg base CX0 5 fa fd ["_law_script"] (z9W (K w.params) 1 f_law)):
 W.WalkO q loose XP YP l.row.toRowW d [] (λf vs=>PySem.call f vs):=
 L2.zcV (n:=63) (k:=5) (x:= "_law_script") (CX:=λ_=>CX0) (sp:=λw=>z9W (K w.params) 1 f_law) hn (by decide) hdf ⟨rfl,by decide,by decide,rfl⟩ hY F (λ_ _ a ns hl hO hS=>zin (λn=>zil ns (by lia) n) hO hS) λ_ _ _ _ _ h=>h.elim
end My
inductive PySem.W.Fast:Prop|tw13321331176946905343|tw17243479059372955199|tw17405397955927501688|tw906456495965803055|tw974970617485067967|tw2651976641740832790|tw6657457191006847824|tw387177493429636755|tw1581084971304738471|tw15966852460227286502|tw16148916601864737424|tw6487043058914055526|tw8219791866491897033|tw11098890539693925243|tw2765070418851050332|tw6030481479559708175|tw948491318006400119|tw13271210752428160406|tw5548846290117256571|tw5737608585853888762|tw8100307423284893278|tw15199720934801268450|tw11797039170194920998|tw6887131918319980967|tw614198214783319634|tw6081855743526781478|tw2299852302425168672|tw9169813210221409657|tw10637258593001879509|tw17244030751419540460|tw7587412261582532767|tw10886023408434490806|tw3513924491725264726|tw6009987148729613924|tw1415649589432562205|tw12084604053590169259|tw379160346798203587|tw497411941856035013|tw8350842928927801887|tw4968403346737454083|tw3479047405377591351|tw12199808647709100|tw6931248607234019134|tw16479640647075428581|tw17167521071672789821|tw2688007517922104814|tw239755471606553054|tw1295093620069095198|tw15301630803978417360|tw10031037281837837738|tw9800730458004638816|tw5156129375254639067|tw14737775812126875633|tw18222946348903073739|tw6548859866860067020|tw13322349361634476446|tw6097291666675110382|tw15843924853126814756|tw10689318941938315551|tw2550475390464201985|tw5066011595822180028|tw17054752733407072331|tw9462280118387816224|tw12203223869784195334|tw4877674336282946566|tw16019193470369056214|tw4575249577519253325|tw18298394902254100460|tw6279380952434752778|tw8325292195546095601|tw3281388795442846631|tw11611055660065412483|tw2199965233178259728|tw6985668477894971150|tw17035526370016720421
open PySem PySem.W PyProof.Rows
set_option maxRecDepth 100000 in
set_option maxHeartbeats 0 in
theorem PySem.Challenge.cw_signbench_k28_whole_no_two_fight_holds : PySem.Challenge.rw_signbench_k28_whole_no_two_fight.Holds := by
 w_on;o_law;k_head;(case hw=>w_witness2)
 k_fill
 refine My.zlt (l:=PySem.Challenge.rw_signbench_k28_whole_no_two_fight) rfl rfl (λw h Y=>PySem.W.kIn_of Y) ?F
 case F=>
  intro w mg fa h KX G hmg
  apply My.zio KX G hmg<;>first|(apply My.zky<;>k_is)|k_is|kernel_rfl|rfl|decide
