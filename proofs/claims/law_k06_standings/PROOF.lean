import PyProof.Rows.All
import Wide.All
import OpenK.AllK
import Wide.FinOn
import Lean
import PyProof.EqAt
import PyProof.EqKinds
import PyProof.TupleCall
import PyProof.CallFns
import PyProof.CallStr
import PyProof.DictTruth
import PyProof.Draws
import PyProof.EnumMake
import PyProof.ListRange
import PyProof.MeetsStr
import PyProof.P3Eq
import PyProof.Rows.CallKw2
import PyProof.Rows.CountFlat
import PyProof.Rows.FStr
import PyProof.Rows.Range3
import PyProof.Rows.StrJoin2
import PyProof.Rows.StrNews
import PyProof.Rows.ZipGen
import PyProof.SetRoads
import PyProof.StrBlockI
import PyProof.StrCalls
import PyProof.StrCalls5
import PyProof.StrOps2
import PyProof.StrWalks
import PyProof.SumAny
import PyProof.ZipIter
import PySem.Challenge.RW_signbench_k06_standings
open PySem renaming wpAny_bind→bb,Value→be,Shared→bf,wpAny_pure→bg,starEach→bh,Expr→bi,wpAny→bj,Program→bm,model→bn,World→bo,mainGlobals→bp,Around→bq,wpAny_holding→br,wpAny_newObj_type→bt,assignEach→bu,foldedSetIterable→bw,wpAny_call_entry→bx,FuncData→bA,eval→bB,backTo→bC,sysModules→bD,wpAny_mono→bE,bootBuiltins→bF,Pos→bG,wpAny_typeNameOfWhole_itemiter→bH,behindInMarks→bI,wpAny_typeNameOfWhole_keyiter→bJ,Obj→bK,Paired→bL,Keyword→bM,attributeBase→bN,swapsWith→bO,wpAny_typeNameOf_itemiter→bP,wpAny_passesOwn→bQ,wpAny_truthy_bool→bR,keywordEach→bS,wpAny_dictEntries→bT,wpAny_typeNameOf_keyiter→bU,DictEntry→bV,binaryOp→bW,compareOp→bX,IsItemIter→bY,wpAny_isOneOf_itemiter→bZ,wpAny_setField_rec→ca,wpAny_dictEpoch→cb,wpAny_fieldsOf→cc,NameKind→ce,wpAny_specialOf→cf,wpAny_field→cg,sliceBounds→cj,backToKw→cm,wpAny_pyIter_list→cn,PassesOwn→cq,call_meets→cr,swapsWithSole→cu,swappedStores→cw,wpAny_attempt→cx,wpAny_execs_nil→cy,letOwnedTupleGo→cz,getItem→cC,assign→cE,pyNext→cF,wpAny_Call_Name_kw→cG,firstArgMember→cH,wpAny_binaryOp_repeat_ref→cI,wpAny_standAt→cJ,wpAny_newList→cL,wpAny_isInstance→cM,wpAny_forIn_list→cN,noFill_tuple_add→cO,wpAny_pyNext_list_item→cP,BindsTo→cQ,codeAny→cR,codeAny_mono→cS,IsPart→cT,typeIs_int→cW,size_of_entries→cY,wpAny_pyNext_list_end→cZ,wpAny_notOrdered_dict→de,wpAny_isOneOf_keyiter→df,wpAny_loadName_local→dg,rawInt→dh,sizeLine_eq→di,subscripted→dj,ReadsAll→dm,wpAny_newTuple→du,wpAny_setField→dv,valueAt→dw,callerA→dz,wpAny_loadName_cell→dA,Env→dC,seq_tuple_add→dE,IsItemIterOut→dG,IsTupleKey→dH,wpAny_rule→dI,eqIsQuiet_byValue→dL,holding→dM,CmpOp→dN,concat_meets→dO,wpAny_sequenceKey→dP,wpAny_typeOf→dQ,seqIndex_neg→dR,wpAny_pyIter_slot→dW,ItemsOf→dX,eqIsQuiet→dY,wpAny_execs_cons→dZ,wpAny_Dict_empty→fc,seqIndex_of→ff,atKey→fg,reduceHash→fk,builtinsNs→fm,isTrue→fo,wpAny_Name→ft,Operator→fw,wpAny_load→fx,bindL→fy,bindC→fz,setField→fE,storeName→fF,cellsFrom→fG,standAt→fK,pyIter→fM,typeOf→fN,Reads→fQ
open PyProof.Rows renaming seqObj→bz,bubble→cA,AllBare→cB,listUpdate_at→cK,subscriptTail_builtinR→cU,mirror→cX,SortKind→dk,failedOf→dl,seqEpoch_at→dq,entry_tuple_getitem→dB,subscriptTail→dF,args_tuple_getitem→dJ,arrOf→dS,IntsAre→fh,Subscript_→fA,keyKind'→fC,pendingOf→fJ,keyLt'→fO,IsTup→fP
open PySem.W renaming kas_rev→cD,kas_sort→dn,kat_item→dU,kasC_cons→fe,kas_cmp→fj,kasC_range→fB,kasC_pure→fH,kasC_bind→fI
set_option linter.defProp false
local macro_rules|`(tactic|erw[$[$e:term],*]$[$l:location]?)=>`(tactic|simp only[$[$e:term],*]$[$l:location]?)
open List renaming mem_append_right→i4,mem_cons_of_mem→i5,map_cons→i6,mem_append_left→i8,length_map→i9,append_nil→l0,mem_append→l4,mem_cons_self→l5,mem_cons→l7,size_toArray→m4,length_append→m5,mem_map→m8,replicate→m9,not_mem_nil→t7,map_append→t8,mem_singleton→t9,map_nil→A2,length_cons→A3,append_assoc→A5,nil_append→A6,take_of_length_le→B0,length_nil→B2,getElem_mem→B3,length_take→B6,cons_append→B7,lookup_cons→B8,reverse_cons→C2,take_add_one→C3,range→C4,length_drop→C7,replicate_succ→C9,set_cons_zero→D0,drop_eq_nil_of_le→D1,map_congr_left→D2,flatten_cons→D3,map_map→D4,length_filter_le→D5,set_cons_succ→D6,reverse_nil→D7,nodup_cons→D9,reverse_append→E3,zipWith_cons_cons→E4,Nodup→E6,foldl_cons→E8,forall_mem_cons→F2,eq_nil_of_length_eq_zero→F5,nil_suffix→F7,length_singleton→F9,take_append_drop→I0,foldl_append→L1,drop_zero→L3,drop_eq_getElem_cons→L4,take_succ_cons→L5,length_reverse→L6,getElem_of_mem→L7,length→L9,drop_drop→M7,all_eq_true→M8,take_length→N1,any_cons→N3,mem_of_mem_take→N4,getElem_zipWith→N5,drop_append_of_le_length→N6,mem_filter→N7,filterMap_cons→N9,drop_succ_cons→O0,zipWith→O3,mem_range→O4,foldl→O5,zip_cons_cons→O6,filter_append→O8,nodup_append→O9,any_eq_false→P1,map_take→P3,eraseIdx_cons_succ→P9,zipIdx_cons→R0,filter_cons→R1,any_eq_true→R3,any_map→R7,append_eq_nil_iff→R8,of_mem_zip→S2,length_replicate→S6,lookup→S8,filter_eq_self→S9,take_nil→T0,mem_filterMap→T1,suffix_append→T2,filter_congr→T7,pairwise_map→T8,isEmpty_nil→u03,mem_flatten→u04,forIn_cons→u05,map_drop→u09,flatten→u0b,range'→u0c
open Nat renaming le_refl→i7,lt_of_lt_of_le→A8,ne_of_lt→B1,lt_succ_self→B4,zero_le→C0,le_trans→C1,le_of_ble_eq_true→C8,lt_irrefl→D8,lt_succ_of_lt→E9,zero_add→F6,min_eq_right→N0,add_assoc→N2,min_eq_left→N8,le_of_lt→O1,ne_of_gt→O2,not_lt→O7,reduceAdd→P5,reduceSub→P6,le_of_not_lt→P8,le_of_eq→R5,lt_or_ge→R6,le_total→S0,min_le_left→S3,not_lt_zero→S4,lt_or_eq_of_le→T3,mul_comm→T4,le_succ_of_le→T6,min_le_right→T9,le_add_right→u00,succ_le_succ→u02,lt_trans→u0a
open Option renaming map_some→l6,getD_some→B5,toList_some→B9,map→C6,map_none→E1,getD_none→M9,isSome_iff_exists→P2,isSome_map→T5,elim→u0d
open Bool renaming false_eq_true→A4,and_eq_true→A7,false_ne_true→A9,not_true→E5,true_and→F3,not_false→F4,false_or→L8,and_true→P4,true_or→R4,eq_iff_iff→S1,or_eq_true→S5,false_and→S7,noConfusion→u01,and_false→u07,and_self→u08
open Int renaming emod_lt_of_pos→E7,emod_nonneg→F8,toNat_natCast→L0,reduceBEq→P7,zero_add→R9,natCast_add→u06
set_option Elab.async false
set_option linter.all false
set_option maxRecDepth 100000
set_option maxHeartbeats 4000000
namespace L2
open PySem PySem.Spec PyProof.Rows
noncomputable abbrev Key:=Sum Int Str
noncomputable def z5v:Key->be->Bool
 | .inl k,v=>Value.isInt k v
 | .inr x,v=>Value.isStrOf x v
noncomputable def zjs(w:bo):Key->Int
 | .inl k=>hashInt k
 | .inr x=>hashStr w x
def W8: ∀{k:Key} {v:be},z5v k v=true->(∃i t,k=Sum.inl i/\v=Value.int i t)\/(∃x t,k=Sum.inr x/\v=Value.str x t)
 | .inl i,v,h=>by
  obtain⟨t,e⟩:=Value.isInt_shape (k:=i) (v:=v) h
  exact .inl ⟨i,t,rfl,e⟩
 | .inr x,v,h=>by
  obtain⟨t,e⟩:=Value.isStrOf_shape (x:=x) (v:=v) h
  exact .inr ⟨x,t,rfl,e⟩
def z7N(i:Int)(t:Tok):z5v (.inl i) (.int i t)=true:=by simp[z5v,Value.isInt]
def z7O(x:Str)(t:Tok):z5v (.inr x) (.str x t)=true:=by simp[z5v,Value.isStrOf]
def zer(a b:Int):decide ((Sum.inl a:Key)=Sum.inl b)=(a==b):=by
 by_cases e:a=b
 .subst e;simp
 .have h: ¬(Sum.inl a:Key)=Sum.inl b:=λq=>e (Sum.inl.inj q)
  rw[decide_eq_false h]
  exact(beq_eq_false_iff_ne.mpr e).symm
def zes(a b:Str):decide ((Sum.inr a:Key)=Sum.inr b)=decide (a=b):=by
 by_cases e:a=b
 .subst e;simp
 .have h: ¬(Sum.inr a:Key)=Sum.inr b:=λq=>e (Sum.inr.inj q)
  rw[decide_eq_false h,decide_eq_false e]
def zet(a:Int)(b:Str):decide ((Sum.inl a:Key)=Sum.inr b)=false:=decide_eq_false (λq=>nomatch q)
def zeu(a:Str)(b:Int):decide ((Sum.inr a:Key)=Sum.inl b)=false:=decide_eq_false (λq=>nomatch q)
noncomputable def Y9(prog:bm)(w:bo):PySem.KeyKind prog w Key where
 is:=z5v
 hash:=zjs w
 inj:=λv a b ha hb=>by
  rcases W8 ha with⟨i,t,rfl,rfl⟩|⟨x,t,rfl,rfl⟩
  .rcases W8 hb with⟨j,u,rfl,e⟩|⟨y,u,rfl,e⟩
   .injection e with e1 _;rw[e1]
   .exact nomatch e
  .rcases W8 hb with⟨j,u,rfl,e⟩|⟨y,u,rfl,e⟩
   .exact nomatch e
   .injection e with e1 _;rw[e1]
 byValue:=λk v h=>by
  rcases W8 h with⟨i,t,rfl,rfl⟩|⟨x,t,rfl,rfl⟩<;>rfl
 pyHash:=λhv h=>by
  rcases W8 hv with⟨i,t,rfl,rfl⟩|⟨x,t,rfl,rfl⟩
  .exact wpAny_pyHash_int h
  .exact wpAny_pyHash_str h
 eqBool:=λhu hv h=>by
  rcases W8 hu with⟨i,t,rfl,rfl⟩|⟨x,t,rfl,rfl⟩
  .rcases W8 hv with⟨j,u,rfl,rfl⟩|⟨y,u,rfl,rfl⟩
   .rw[zer] at h;exact wpAny_eqBool_int h
   .rw[zet] at h;exact SeqAt.EqAt.int_str i t y u _ _ _ _ h
  .rcases W8 hv with⟨j,u,rfl,rfl⟩|⟨y,u,rfl,rfl⟩
   .rw[zeu] at h;exact SeqAt.EqAt.str_int x t j u _ _ _ _ h
   .rw[zes] at h;exact wpAny_eqBool_str h
 «strs» :=λk x t v h=>by
  rcases W8 h with⟨i,u,rfl,e⟩|⟨y,u,rfl,e⟩
  .exact nomatch e
  .injection e with e1 _
   subst e1
   cases v<;>rfl
def z71(prog:bm)(w:bo)(k:Key)(v:be):(Y9 prog w).is k v=z5v k v:=rfl
def z5w(prog:bm)(w:bo)(i:Int)(t:Tok):(Y9 prog w).is (.inl i) (.int i t)=true:=z7N i t
def z5x(prog:bm)(w:bo)(x:Str)(t:Tok):(Y9 prog w).is (.inr x) (.str x t)=true:=z7O x t
inductive V where
 |non|bl (b:Bool)|int (i:Int)|str (x:Str)|byt (b:Array UInt8)|flt (b:UInt64)|ref (a:Addr)|ty (n:String)
 deriving DecidableEq
noncomputable def RelV:V->be->Prop
 | .non,u=>u=Value.none
 | .bl b,u=>u=Value.bool b
 | .int i,u=> ∃t,u=Value.int i t
 | .str x,u=> ∃t,u=Value.str x t
 | .byt b,u=> ∃t,u=Value.bytes b t
 | .flt b,u=> ∃t,u=Value.float b t
 | .ref a,u=>u=Value.ref a
 | .ty n,u=>u=Value.type n
noncomputable abbrev J4:List V->List be->Prop:=bL RelV
def J4.length{xs:List V}{us:List be}(r:J4 xs us):xs.length=us.length:=Paired.length r
theorem J4.get: ∀{xs:List V} {us:List be} {i:Nat} {x:V},J4 xs us->xs[i]? =some x->∃u,us[i]? =some u/\RelV x u
 |_,_,_,_, .nil,e=>by simp at e
 |_,_,0,_, .cons r _,e=>by simp at e;subst e;exact⟨_,rfl,r⟩
 |_,_,i+1,x, .cons _ t,e=>by
  obtain⟨u,h1,h2⟩:=J4.get (i:=i) (x:=x) t (by simpa using e)
  exact⟨u,by simpa using h1,h2⟩
theorem J4.set(r:RelV x u): ∀{xs:List V} {us:List be} (i:Nat),J4 xs us->J4 (xs.set i x) (us.set i u)
 |_,_,_, .nil=> .nil
 |_,_,0, .cons _ t=> .cons r t
 |_,_,i+1, .cons q t=> .cons q (J4.set r i t)
theorem J4.append: ∀{xs ys:List V} {us ws:List be},J4 xs us->J4 ys ws->J4 (xs++ys) (us++ws)
 |_,_,_,_, .nil,s=>s
 |_,_,_,_, .cons r t,s=> .cons r (J4.append t s)
theorem J4.take: ∀{xs:List V} {us:List be} (n:Nat),J4 xs us->J4 (xs.take n) (us.take n)
 |_,_,0,_=> .nil
 |_,_,_+1, .nil=> .nil
 |_,_,n+1, .cons r t=> .cons r (J4.take n t)
theorem J4.drop: ∀{xs:List V} {us:List be} (n:Nat),J4 xs us->J4 (xs.drop n) (us.drop n)
 |_,_,0,r=>r
 |_,_,_+1, .nil=> .nil
 |_,_,n+1, .cons _ t=>J4.drop n t
noncomputable def RelO:Option V->Option be->Prop
 |some v,some u=>RelV v u
 |none,none=>True
 |_,_=>False
noncomputable def KV{κ:Type}:List (κ×V)->List (κ×be)->Prop:=bL λ(p:κ×V) (q:κ×be)=>p.1=q.1/\RelV p.2 q.2
noncomputable def kV:Key->V
 | .inl i=> .int i
 | .inr x=> .str x
theorem Paired.mapP{α β:Type}{F G:α->β->Prop}: ∀{l₁:List α} {l₂:List β},bL F l₁ l₂->(∀a b,F a b->G a b)->bL G l₁ l₂
 |_,_, .nil,_=> .nil
 |_,_, .cons r t,f=> .cons (f _ _ r) (Paired.mapP t f)
noncomputable abbrev NK:=List (Key⊕List Key)
section
variable(P:bm)(w:bo)
noncomputable def ItN(h:Heap):Key⊕List Key->be->Prop
 | .inl k,v=>(Y9 P w).is k v=true
 | .inr ks,v=> ∃c,v= .ref c/\dH (Y9 P w) h ks c
noncomputable def IsN(h:Heap)(k:NK)(a:Addr):Prop:= ∃o items n,h.get? a=some o/\o.cls= .type "tuple" /\o.data= .seq items n/\bL (ItN P w h) k items.toList
noncomputable def hsN:Key⊕List Key->Int
 | .inl k=>(Y9 P w).hash k
 | .inr ks=>tupleKeyHash (Y9 P w) ks
noncomputable def drN:Key⊕List Key->Nat
 | .inl _=>1
 | .inr ks=>ks.length+1
end
section
variable{P:bm}{w:bo}{h:Heap}
def zcu(hx:ItN P w h x v)(hy:ItN P w h y v):x=y:=by
 cases x with
 |inl k=>
  cases y with
  |inl k'=>rw[(Y9 P w).inj v k k' hx hy]
  |inr ks=>obtain⟨c,rfl,_⟩:=hy;have:=(Y9 P w).byValue _ _ hx;simp[carriedByValue] at this
 |inr ks=>
  obtain⟨c,rfl,hc⟩:=hx
  cases y with
  |inl k'=>have:=(Y9 P w).byValue _ _ hy;simp[carriedByValue] at this
  |inr ks'=>obtain⟨c',e,hc'⟩:=hy;cases e;rw[hc.inj hc']
theorem z3I: ∀{x y:NK} {vs:List be},bL (ItN P w h) x vs->bL (ItN P w h) y vs->x=y
 |_,_,_, .nil, .nil=>rfl
 |_,_,_, .cons a b, .cons c d=>by rw[zcu a c,z3I b d]
variable{A:bq}{E:be->bf->Prop}{s:bf}
def z4C{o:bK}{items:Array be}{n m:Nat}{Q:Bool->bf->Prop}(ho:s.heap.get? a=some o)(hc:o.cls= .type "tuple")(hd:o.data= .seq items n)(hi: ∀v∈items.toList,∀(R:Bool->bf->Prop) E,R true s->bj M A (dY m v) R E s)(q:Q true s):bj M A (dY (m+1) (.ref a)) Q E s:=by
 have hT:s.TypeIs (.ref a) "tuple" :=⟨o,ho,hc⟩
 rw[dY]
 refine bb (cf hT PySem.F.slot_tuple_eq.lookup ?_)
 dsimp only
 refine bb (cM hT isSubtype_tuple_tuple ?_)
 rw[if_neg (by decide)]
 refine bb (wpAny_seqItems ho hd ?_)
 refine bb ?_
 dsimp only[B5]
 rw[<-Array.forIn_toList]
 refine cN _ (λr b s'=>b.1=none/\s'=s/\∀v∈r,v∈items.toList) _ ?_ ?_ _ _ ⟨rfl,rfl,λv hv=>hv⟩
 .rintro v r b s' ⟨_,rfl,hm⟩
  refine bb (hi v (hm v l5) _ _ ?_)
  rw[if_neg (by decide)]
  exact bg ⟨rfl,rfl,λu hu=>hm u (i5 _ hu)⟩
 .rintro ⟨b1,b2⟩ s' ⟨hb,rfl,_⟩
  dsimp only at hb
  subst hb
  exact bg q
theorem z4D: ∀{ks:List Key} {vs:List be},ItemsAre (Y9 P w) ks vs->ItemsAre (Y9 P' w') ks vs
 |_,_, .nil=> .nil
 |_,_, .cons a b=> .cons a (z4D b)
def z7P(hk:dH (Y9 P w) h ks c):dH (Y9 P' w') h ks c:=by
 obtain⟨o,items,n,h1,h2,h3,h4⟩:=hk
 exact⟨o,items,n,h1,h2,h3,z4D h4⟩
def zev(hu:A.units<cLine)(hx:ItN P w s.heap x u)(hy:ItN P w s.heap y v):SeqAt.EqAt A s u v (decide (x=y)):=λprog w' E Q q=>by
 cases x with
 |inl k=>
  cases y with
  |inl k'=>exact(Y9 prog w').eqBool (a:=k) (b:=k') hx hy (by rw[show decide (k=k')=decide ((Sum.inl k:Key⊕List Key)=Sum.inl k') by by_cases e:k=k'<;>simp[e]];exact q)
  |inr ks=>
   obtain⟨c,rfl,o,items,n,h1,h2,h3,_⟩:=hy
   rw[decide_eq_false (λe=>nomatch e)] at q
   rcases W8 hx with⟨i,t,rfl,rfl⟩|⟨z,t,rfl,rfl⟩
   .exact SeqAt.EqAt.int_tuple i t ⟨o,h1,h2,n,h3⟩ hu prog w' E Q q
   .exact SeqAt.EqAt.str_tuple z t ⟨o,h1,h2,n,h3⟩ hu prog w' E Q q
 |inr ks=>
  obtain⟨c,rfl,hc⟩:=hx
  cases y with
  |inl k'=>
   obtain⟨o,items,n,h1,h2,h3,_⟩:=hc
   rw[decide_eq_false (λe=>nomatch e)] at q
   rcases W8 hy with⟨i,t,rfl,rfl⟩|⟨z,t,rfl,rfl⟩
   .exact SeqAt.EqAt.tuple_int i t ⟨o,h1,h2,n,h3⟩ hu prog w' E Q q
   .exact SeqAt.EqAt.tuple_str z t ⟨o,h1,h2,n,h3⟩ hu prog w' E Q q
  |inr ks'=>
   obtain⟨c',rfl,hc'⟩:=hy
   refine wpAny_eqBool_tuple (knd:=Y9 prog w') hu (z7P hc) (z7P hc') ?_
   rw[show decide (ks=ks')=decide ((Sum.inr ks:Key⊕List Key)=Sum.inr ks') by by_cases e:ks=ks'<;>simp[e]];exact q
def zcv{α:Type}[DecidableEq α](x y:List α):((C4 (min x.length y.length)).all (λj=>decide (x[j]? =y[j]?))&&x.length==y.length)=decide (x=y):=by
 rw[S1]
 erw[A7,M8,O4,decide_eq_true_eq,beq_iff_eq]
 constructor
 .rintro ⟨h1,h2⟩
  apply List.ext_getElem?
  intro j
  by_cases hj:j<x.length
  .exact h1 j (by lia)
  .rw[List.getElem?_eq_none (by lia),List.getElem?_eq_none (by lia)]
 .rintro rfl;exact⟨λ_ _=>rfl,rfl⟩
theorem Paired.get2{α β:Type}{F:α->β->Prop}: ∀{l:List α} {m:List β},bL F l m->∀j (h1:j<l.length) (h2:j<m.length),F l[j] m[j]
 |_,_, .cons a b,0,_,_=>a
 |_,_, .cons a b,j+1,h1,h2=>Paired.get2 b j (by simpa using h1) (by simpa using h2)
def zew{Q:Bool->bf->Prop}(hu:A.units+1<cLine)(hx:IsN P w s.heap x a)(hy:IsN P w s.heap y b)(q:Q (decide (x=y)) s):bj (bn P w) A (eqBool (.ref a) (.ref b)) Q E s:=by
 by_cases e:a=b
 .subst e
  obtain⟨o,items,n,h1,h2,h3,h4⟩:=hx
  obtain⟨o',items',n',k1,k2,k3,k4⟩:=hy
  obtain rfl:o=o':=Option.some.inj (h1.symm.trans k1)
  rw[h3] at k3
  injection k3 with k3 _
  subst k3
  obtain rfl:=z3I h4 k4
  exact SeqAt.EqAt.same _ P w E Q (by simpa using q)
 .obtain⟨o,items,n,h1,h2,h3,h4⟩:=hx
  obtain⟨o',items',n',k1,k2,k3,k4⟩:=hy
  have l1:x.length=items.size:=by have:=Paired.length h4;simpa using this
  have l2:y.length=items'.size:=by have:=Paired.length k4;simpa using this
  refine SeqAt.EqAt.of_refs e (SeqAt.RcAt.tuples (e:=λj=>decide (x[j]? =y[j]?)) ⟨o,h1,h2,n,h3⟩ ⟨o',k1,k2,n',k3⟩ (by lia) λj j1 j2=> ?_) P w E Q ?_
  .have:=zev (A:=A.in1) (show A.units+1<cLine from hu) (Paired.get2 h4 j (by lia) (by simpa using j1)) (Paired.get2 k4 j (by lia) (by simpa using j2))
   rw[List.getElem?_eq_getElem (by lia),List.getElem?_eq_getElem (by lia)]
   simpa using this
  .rw[<-l1,<-l2,zcv];exact q
def za7{Q:Int->bf->Prop}(hu:A.units<cLine)(hk:ItN P w s.heap k v)(q:Q (hsN P w k) {s with toks:=s.toks+drN k}):bj (bn P w) A (pyHash v) Q E s:=by
 cases k with
 |inl k=>exact(Y9 P w).pyHash hk q
 |inr ks=>obtain⟨c,rfl,hc⟩:=hk;exact wpAny_pyHash_tuple hu hc q
def za8{k:NK}{Q:Int->bf->Prop}(hu:A.units+1<cLine)(hk:IsN P w s.heap k a)(q:Q (fk (Builtin.Tuple.tupleHashOf (k.map (hsN P w)))) {s with toks:=s.toks+((k.map drN).sum+1)}):bj (bn P w) A (pyHash (.ref a)) Q E s:=by
 obtain⟨o,items,n,ho,hc,hd,hi⟩:=hk
 have hT:s.TypeIs (.ref a) "tuple" :=⟨o,ho,hc⟩
 unfold pyHash
 unfold pyHashByItsType
 refine bb (wpAny_cRoomFor_or (.inr (by lia)) ?_)
 refine bb (cf hT PySem.F.slot_tuple_hash.lookup ?_)
 rw[if_neg (show ¬(some (Value.builtin "tuple.__hash__")==some Value.none)=true by rw[beq_builtin_none];decide)]
 refine bb (cf hT PySem.F.slot_tuple_hash.lookup ?_)
 refine bb (wpAny_callSpecialIfBoundUnlessNone?_slot hT PySem.F.slot_tuple_hash (bx PySem.F.slot_tuple_hash hT PySem.F.entry_tuple_hash ?_ (PySem.F.args_tuple_hash_1 _)))
 change bj _ A.in1 (Builtin.Tuple.tupleItemsOf (Value.ref a)>>=_) _ _ s
 refine bb (wpAny_tupleItemsOf ho hd (bb ?_))
 rw[<-Array.forIn_toList]
 refine cN _ (λr (b:Array Int) s'=> ∃d l,k=d++l/\bL (ItN P w s.heap) l r/\b.toList=d.map (hsN P w)/\s'={s with toks:=s.toks+(d.map drN).sum}) _ ?_ ?_ _ _ ⟨[],k,rfl,hi,rfl,rfl⟩
 .rintro x r b s' ⟨d,l,rfl,hl,hb,rfl⟩
  cases hl with
  | @cons z _ l' _ h1 hl'=>
   refine bb (za7 (A:=A.in1) (s:={s with toks:=s.toks+(d.map drN).sum}) (show A.units+1<cLine from hu) h1 ?_)
   have fin: ∃d' l2,d++z::l'=d'++l2/\bL (ItN P w s.heap) l2 r/\(b.push (hsN P w z)).toList=d'.map (hsN P w)/\({s with toks:=s.toks+(d.map drN).sum+drN z}:bf)={s with toks:=s.toks+(d'.map drN).sum}:=⟨d++[z],l',by simp,hl',by simp[hb],by simp[N2]⟩
   exact bg fin
 .rintro b s' ⟨d,l,rfl,hl,hb,rfl⟩
  cases hl
  rw[l0] at q
  change bj _ A.in1 (retInt (Builtin.Tuple.tupleHashOf b.toList)) _ _ _
  rw[hb]
  refine wpAny_ret_mkInt ?_
  unfold fk at q
  show bj _ _ (if(decide (-(2:Int)^63<=Builtin.Tuple.tupleHashOf (d.map (hsN P w)))&&decide (Builtin.Tuple.tupleHashOf (d.map (hsN P w))<2^63))=true then _ else _) Q E _
  split
  .rename_i hr
   rw[if_pos hr] at q
   exact bg (by simpa[N2] using q)
  .rename_i hr
   rw[if_neg hr] at q
   exact bb (dI (bg (by simpa[N2] using q)))
def z7Q{Q:Bool->bf->Prop}(hk:IsN P w s.heap k a)(q:Q true s):bj (bn P w) A (dY 8 (.ref a)) Q E s:=by
 obtain⟨o,items,n,h1,h2,h3,h4⟩:=hk
 refine z4C h1 h2 h3 (λv hv R E' r=> ?_) q
 have all: ∀{k:NK} {vs:List be},bL (ItN P w s.heap) k vs->∀v∈vs,∃z,ItN P w s.heap z v:=by
  intro k vs p
  induction p with
  |nil=>intro v hv;cases hv
  |cons a b ih=>
   intro v hv
   rcases l7.mp hv with rfl|hv
   .exact⟨_,a⟩
   .exact ih v hv
 obtain⟨z,hz⟩:=all h4 v hv
 cases z with
 |inl k=>rw[dL _ ((Y9 P w).byValue _ _ hz)];exact bg r
 |inr ks=>
  obtain⟨c,rfl,o,items,n,h1,h2,h3,h4⟩:=hz
  exact z4C h1 h2 h3 (λv hv R E' r=>by rw[dL _ (h4.byValue v hv)];exact bg r) r
def z7R{o:bK}{ep:Nat}(ho:h.get? d=some o)(hd:o.data= .dict es ep)(hs:Heap.SameBut d h h'): ∀{k:NK} {vs:List be},bL (ItN P w h) k vs->bL (ItN P w h') k vs:=λp=>Paired.mapP p λz v q=>by
 cases z with
 |inl k=>exact q
 |inr ks=>obtain⟨c,rfl,hc⟩:=q;exact⟨c,rfl,hc.keeps ho hd hs⟩
end
noncomputable def z04(P:bm)(w:bo):HeapKind P w NK where
 is:=IsN P w
 hash:=λk=>fk (Builtin.Tuple.tupleHashOf (k.map (hsN P w)))
 draws:=λk=>(k.map drN).sum+1
 room:=λA=>A.units+1<cLine
 inj:=λ⟨o,items,n,h1,_,h3,h4⟩ ⟨o',items',n',k1,_,k3,k4⟩=>by
  obtain rfl:o=o':=Option.some.inj (h1.symm.trans k1)
  rw[h3] at k3
  injection k3 with k3 _
  subst k3
  exact z3I h4 k4
 keeps:=λ{h h' k a d o es ep} ⟨o',items,n,h1,h2,h3,h4⟩ ho hd hs=>by
  have hne:a≠d:=by
   rintro rfl
   obtain rfl:o'=o:=Option.some.inj (h1.symm.trans ho)
   rw[hd] at h3;cases h3
  exact⟨o',items,n,(hs.2 a hne).trans h1,h2,h3,z7R ho hd hs h4⟩
 pyHash:=λhu hk q=>za8 hu hk q
 eqBool:=λhu hx hy q=>zew hu hx hy q
 quiet:=λhk q=>z7Q hk q
def z2h{A:bq}(hu:A.units+2<cLine):(z04 P w).room A.in1:=hu
inductive HO where
 |lst (xs:List V)
 |tup (xs:List V)
 |dK (kvs:List (Key×V))|dT (kvs:List (NK×V))
 |set (S:Int->Bool) (n:Nat)
 |ins (C dx:Addr) (fs:List (Str×V))
 |own (x:Addr)
 |xd (fs:List (Str×V))
 |met (f x:Addr)
 |rng (lo hi:Int)
 |frz (o:bK) (u:HO)
 |tbl (ps:Array be)
 |ext (φ:Heap->Prop)
noncomputable abbrev Hp:=Addr->Option HO
noncomputable def upd(H:Hp)(a:Addr)(o:HO):Hp:=λb=>if b=a then some o else H b
def y8:upd H a o a=some o:=by unfold upd;rw[if_pos rfl]
def y9(h:b≠a):upd H a o b=H b:=by unfold upd;rw[if_neg h]
def z07{H:Hp}{a b:Addr}{o u:HO}(h:H a=some o)(h':H b=some u)(d:o≠u):a≠b:=by
 intro e;subst e;rw[h] at h';exact d (Option.some.inj h')
def G3{H:Hp}{a b:Addr}{o:HO}(h:H a=some o)(h':H b=none):a≠b:=by
 intro e;subst e;rw[h] at h';cases h'
noncomputable def TKi(H:Hp):Key⊕List Key->V->Prop
 | .inl k,x=>x=kV k
 | .inr ks,x=> ∃c,x= .ref c/\H c=some (.tup (ks.map kV))
noncomputable def TK(H:Hp)(k:NK)(b:Addr):Prop:= ∃xs,H b=some (.tup xs)/\bL (TKi H) k xs
def TK.stay(ht: ∀b xs,H b=some (.tup xs)->H' b=some (.tup xs))(h:TK H k b):TK H' k b:=by
 obtain⟨xs,h1,h2⟩:=h
 refine⟨xs,ht _ _ h1,Paired.mapP h2 λz x q=> ?_⟩
 cases z with
 |inl k=>exact q
 |inr ks=>obtain⟨c,e,q⟩:=q;exact⟨c,e,ht _ _ q⟩
section
variable(P:bm)(w:bo)
noncomputable def X9(H:Hp)(h:Heap)(a:Addr):HO->Prop
 | .lst xs=>xs.length<=sizeLine/\∃(its:List be) (n:Nat),J4 xs its/\h.get? a=some {cls:= .type "list",data:= .seq its.toArray n}
 | .tup xs=>xs.length<=sizeLine/\∃its:List be,J4 xs its/\fP h a its.toArray
 | .dK kvs=>kvs.length<=sizeLine/\(a==bD)=false/\∃vs,KV kvs vs/\h.DictOf (Y9 P w) a vs
 | .dT kvs=>kvs.length<=sizeLine/\(a==bD)=false/\∃xs:List (NK×Addr×be),
  bL (λ(p:NK×V) (q:NK×Addr×be)=>p.1=q.1/\TK H p.1 q.2.1/\RelV p.2 q.2.2) kvs xs/\
  ∃o es ep,h.get? a=some o/\o.ExactDict/\o.data= .dict es ep/\es.toList=xs.map (entryOfKey (z04 P w))/\(xs.map (·.1)).Nodup
 | .set S n=>h.SetOf (intKind P w) a S n
 | .ins C dx fs=>H dx=some (.own a)/\fs.length<=1000/\dx≠a/\h.get? a=some (W.instObj C dx)/\
  ∃mA,h.Ns1 dx mA/\(∀f,RelO (fs.lookup f) (mA f))/\PySem.Within mA (fs.map (·.1))
 | .own _=> ∃o,h.get? a=some o
 | .xd fs=> ∃mA,h.Ns1 a mA/\∀f,RelO (fs.lookup f) (mA f)
 | .rng lo hi=> ∃t u v,h.get? a=some {cls:= .type "range",data:= .fields #[.int lo t, .int hi u, .int 1 v]}
 | .frz o u=>h.get? a=some o/\X9 H h a u
 | .tbl ps=>h.get? a=some {cls:= .none,data:= .fields ps}
 | .met f x=>h.get? a=some (W.methodObj (.ref f) (.ref x))
 | .ext φ=>φ h/\(∃o,h.get? a=some o)/\∀h1 h2:Heap,φ h1->(∀o,h1.get? a=some o->h2.get? a=some o)->φ h2
noncomputable def HOk(H:Hp)(h:Heap):Prop:= ∀a o,H a=some o->X9 P w H h a o
end
section
variable{P:bm}{w:bo}{H H':Hp}{h h':Heap}{a:Addr}{o:HO}
def X9.lt(x:X9 P w H h a o):a<h.objs.size:=by
 cases o with
 |lst xs=>obtain⟨_,_,_,_,e⟩:=x;exact Heap.lt_size e
 |tup xs=>obtain⟨_,_,_,p⟩:=x;exact p.lt
 |dK kvs=>obtain⟨_,_,_,_,o,_,_,e,_⟩:=x;exact Heap.lt_size e
 |dT kvs=>obtain⟨_,_,_,_,o,_,_,e,_⟩:=x;exact Heap.lt_size e
 |set S n=>obtain⟨o,_,_,_,e,_⟩:=x;exact Heap.lt_size e
 |ins C dx fs=>obtain⟨_,_,_,e,_⟩:=x;exact Heap.lt_size e
 |own y=>obtain⟨_,e⟩:=x;exact Heap.lt_size e
 |xd fs=>obtain⟨_,⟨_,_,_,e,_⟩,_⟩:=x;exact Heap.lt_size e
 |rng lo hi=>obtain⟨_,_,_,e⟩:=x;exact Heap.lt_size e
 |frz ob u=>obtain⟨e,_⟩:=x;exact Heap.lt_size e
 |tbl ps=>exact Heap.lt_size (show h.get? a=some _ from x)
 |met f y=>exact Heap.lt_size (show h.get? a=some _ from x)
 |ext φ=>obtain⟨_,⟨_,e⟩,_⟩:=x;exact Heap.lt_size e
def X9.stay(x:X9 P w H h a o)(k: ∀b u,(b=a\/H b=some (.own a))->h.get? b=some u->h'.get? b=some u)
 (ho: ∀b,H b=some (.own a)->H' b=some (.own a)) (ht: ∀b xs,H b=some (.tup xs)->H' b=some (.tup xs)):X9 P w H' h' a o:=by
 induction o with
 |lst xs=>obtain⟨z,its,n,r,e⟩:=x;exact⟨z,its,n,r,k _ _ (.inl rfl) e⟩
 |tup xs=>obtain⟨z,its,r,ob,e,c⟩:=x;exact⟨z,its,r,ob,k _ _ (.inl rfl) e,c⟩
 |dK kvs=>obtain⟨z,y,vs,r,ob,es,ep,e,c⟩:=x;exact⟨z,y,vs,r,ob,es,ep,k _ _ (.inl rfl) e,c⟩
 |dT kvs=>
  obtain⟨z,y,xs,r,ob,es,ep,e,c⟩:=x
  exact⟨z,y,xs,Paired.mapP r λp q z=>⟨z.1,z.2.1.stay ht,z.2.2⟩,ob,es,ep,k _ _ (.inl rfl) e,c⟩
 |set S n=>obtain⟨ob,es,ep,t,e,c⟩:=x;exact⟨ob,es,ep,t,k _ _ (.inl rfl) e,c⟩
 |ins C dx fs=>
  obtain⟨d,z,ne,e,mA,⟨od,es,ep,e2,c⟩,r⟩:=x
  exact⟨ho _ d,z,ne,k _ _ (.inl rfl) e,mA,⟨od,es,ep,k _ _ (.inr d) e2,c⟩,r⟩
 |own y=>obtain⟨ob,e⟩:=x;exact⟨ob,k _ _ (.inl rfl) e⟩
 |xd fs=>obtain⟨mA,⟨od,es,ep,e,c⟩,r⟩:=x;exact⟨mA,⟨od,es,ep,k _ _ (.inl rfl) e,c⟩,r⟩
 |rng lo hi=>obtain⟨t,u,v,e⟩:=x;exact⟨t,u,v,k _ _ (.inl rfl) e⟩
 |frz ob u ih=>obtain⟨e,q⟩:=x;exact⟨k _ _ (.inl rfl) e,ih q⟩
 |tbl ps=>
  have e:h.get? a=some {cls:= .none,data:= .fields ps}:=x
  show h'.get? a=some {cls:= .none,data:= .fields ps}
  exact k a _ (.inl rfl) e
 |met f y=>
  have e:h.get? a=some (W.methodObj (.ref f) (.ref y)):=x
  show h'.get? a=some (W.methodObj (.ref f) (.ref y))
  exact k a _ (.inl rfl) e
 |ext φ=>obtain⟨p,⟨o,e⟩,st⟩:=x;exact⟨st _ _ p λo q=>k _ _ (.inl rfl) q,⟨o,k _ _ (.inl rfl) e⟩,st⟩
def HOk.lt(x:HOk P w H h)(e:H a=some o):a<h.objs.size:=(x a o e).lt
def HOk.fresh(x:HOk P w H h)(e:h.objs.size<=a):H a=none:=by
 cases q:H a with
 |none=>rfl
 |some u=>exact absurd (A8 (x.lt q) e) (D8 _)
def HOk.kept(x:HOk P w H h)(k: ∀b u,h.get? b=some u->h'.get? b=some u):HOk P w H h':=λa o e=>
 (x a o e).stay (λb u _ q=>k b u q) (λ_ q=>q) λ_ _ q=>q
def HOk.laid(x:HOk P w H h)(k: ∀b u,h.get? b=some u->h'.get? b=some u)(hp:h.objs.size<=a)(new:X9 P w (upd H a o) h' a o):HOk P w (upd H a o) h':=λb u e=>by
 have hn:=x.fresh hp
 by_cases hb:b=a
 .subst hb;rw[y8] at e;cases e;exact new
 .rw[y9 hb] at e
  exact(x b u e).stay (λc v _ q=>k c v q) (λc q=>by rw[y9 (G3 q hn)];exact q) λc xs q=>by rw[y9 (G3 q hn)];exact q
end
noncomputable def Rd(H:Hp)(a:Addr)(u:HO):Prop:=H a=some u\/∃o,H a=some (.frz o u)
def Rd.ok(r:Rd H a u)(x:HOk P w H h):X9 P w H h a u:=by
 rcases r with r|⟨o,r⟩
 .exact x a u r
 .obtain⟨_,q⟩:=x a _ r
  exact q
noncomputable def Mut:Option HO->Prop
 |some (.lst _)=>True
 |some (.dK _)=>True
 |some (.dT _)=>True
 |some (.set _ _)=>True
 |some (.ins _ _ _)=>True
 |some (.ext _)=>True
 |_=>False
section
variable{P:bm}{w:bo}{H:Hp}{h h':Heap}{x e:Addr}{o':HO}
def HOk.write(ok:HOk P w H h)(mu:Mut (H x))(he:e=x\/H e=some (.own x))(k: ∀b u,b≠e->h.get? b=some u->h'.get? b=some u)(heo: ∃u,h'.get? e=some u)
 (new:X9 P w (upd H x o') h' x o'):HOk P w (upd H x o') h':=λb u q=>by
 have nown: ∀c y,H c=some (.own y)->c≠x:=λc y r z=>by subst z;rw[r] at mu;exact mu
 have ntup: ∀c xs,H c=some (.tup xs)->c≠x:=λc xs r z=>by subst z;rw[r] at mu;exact mu
 by_cases hb:b=x
 .subst hb;rw[y8] at q;cases q;exact new
 .rw[y9 hb] at q
  by_cases hbe:b=e
  .have q':H b=some (.own x):=by
    rcases he with z|z
    .exact absurd (hbe.trans z) hb
    .rw[hbe];exact z
   rw[q] at q';cases q'
   obtain⟨v,hv⟩:=heo
   exact⟨v,by rw[hbe];exact hv⟩
  .refine(ok b u q).stay (λc v hc r=>k c v ?_ r) (λc r=>by rw[y9 (nown c b r)];exact r) λc xs r=>by rw[y9 (ntup c xs r)];exact r
   rcases hc with rfl|hc
   .exact hbe
   .rintro rfl
    rcases he with z|z
    .exact nown c b hc z
    .rw[hc] at z;cases z;exact hb rfl
end
structure Un(fs ex:List Addr)(H H':Hp)(h h':Heap):Prop where
 keep: ∀b o,h.get? b=some o->H b=none->b∉fs->b∉ex->h'.get? b=some o
 slot: ∀b o,h.get? b=some o->H b=none->b∈fs->b∉ex->∃sl,h'.get? b=some {o with slots:=sl}
 free: ∀b o,h.get? b=some o->H b=none->b∉ex->H' b=none
 there: ∀b o,h.get? b=some o->b∉ex->∃o',h'.get? b=some o'
 tups: ∀b xs,H b=some (.tup xs)->H' b=some (.tup xs)
 frzs: ∀b o u,H b=some (.frz o u)->H' b=some (.frz o u)
 tbls: ∀b ps,H b=some (.tbl ps)->∃more,H' b=some (.tbl (ps++more))
section
variable{fs fs' ex ex':List Addr}{H H1 H2:Hp}{h h1 h2 h':Heap}{a x e:Addr}{o:HO}
def Un.any(u:Un fs ex H H1 h h1)(q:h.get? b=some ob)(n:H b=none)(hx:b∉ex): ∃sl,h1.get? b=some {ob with slots:=sl}:=by
 by_cases hb:b∈fs
 .exact u.slot b ob q n hb hx
 .exact⟨ob.slots,u.keep b ob q n hb hx⟩
def Un.kept(k: ∀b u,h.get? b=some u->h'.get? b=some u):Un fs ex H H h h':=
 ⟨λb ob q _ _ _=>k b ob q,λb ob q _ _ _=>⟨ob.slots,k b ob q⟩,λ_ _ _ n _=>n,λb ob q _=>⟨ob,k b ob q⟩,λ_ _ q=>q,λ_ _ _ q=>q,λ_ ps q=>⟨#[],by rw[q];simp⟩⟩
def Un.refl:Un fs ex H H h h:=Un.kept λ_ _ q=>q
def Un.laid(k: ∀b u,h.get? b=some u->h'.get? b=some u)(hp:h.objs.size<=a)(hn:H a=none):Un fs ex H (upd H a o) h h' where
 keep:=λb u q _ _ _=>k b u q
 slot:=λb u q _ _ _=>⟨u.slots,k b u q⟩
 free:=λb u q n _=>by rw[y9 (B1 (A8 (Heap.lt_size q) hp))];exact n
 there:=λb u q _=>⟨u,k b u q⟩
 tups:=λb xs q=>by rw[y9 (G3 q hn)];exact q
 frzs:=λb u xs q=>by rw[y9 (G3 q hn)];exact q
 tbls:=λb ps q=>⟨#[],by rw[y9 (G3 q hn),q];simp⟩
def Un.write(mu:Mut (H x))(he:e=x\/H e=some (.own x))(k: ∀b u,b≠e->h.get? b=some u->h'.get? b=some u)(heo: ∃u,h'.get? e=some u):Un fs ex H (upd H x o) h h':=by
 have hx: ∀b,H b=none->b≠x:=λb n z=>by subst z;rw[n] at mu;exact mu
 have hb: ∀b,H b=none->b≠e:=λb n z=>by
  subst z
  rcases he with r|r
  .exact hx b n r
  .rw[n] at r;cases r
 have hm: ∀b u,H b=some u->¬Mut (some u)->b≠x:=λb u q nm z=>by subst z;rw[q] at mu;exact nm mu
 refine⟨λb u q n _ _=>k b u (hb b n) q,λb u q n _ _=>⟨u.slots,k b u (hb b n) q⟩,λb u q n _=>by rw[y9 (hx b n)];exact n,λb u q _=> ?_,
  λb xs q=>by rw[y9 (hm b _ q λz=>z)];exact q,λb u xs q=>by rw[y9 (hm b _ q λz=>z)];exact q,λb ps q=>⟨#[],by rw[y9 (hm b _ q λz=>z),q];simp⟩⟩
 by_cases hbe:b=e
 .subst hbe;exact heo
 .exact⟨u,k b u hbe q⟩
end
noncomputable def trk(h:Heap)(H:Hp):List Addr:=(C4 h.objs.size).filter λa=>(H a).isSome
noncomputable def za9(h:Heap)(H:Hp):Heap:=W.hideAll h (trk h H)
def z7S(h:Heap)(H:Hp):(za9 h H).objs.size=h.objs.size:=W.hideAll_size _ _
def zaa{h:Heap}(e:h.get? b=some o)(n:H b=none):(za9 h H).get? b=some o:=
 W.hideAll_get _ e λhm=>by
  have q:(H b).isSome=true:=(N7.mp hm).2
  rw[n] at q;simp at q
def zcw{h:Heap}(e:(za9 h H).get? b=some o):h.get? b=some o/\H b=none:=by
 have e':h.get? b=some o:=W.of_hideAll (trk h H) e
 refine⟨e', ?_⟩
 cases q:H b with
 |none=>rfl
 |some x=>
  have hm:b∈trk h H:=N7.mpr ⟨O4.mpr (Heap.lt_size e'),by simp[q]⟩
  have z:(za9 h H).get? b=none:=W.hideAll_none (trk h H) hm
  rw[z] at e;cases e
noncomputable def zcx(g h:Heap)(L:Addr):List (Addr×bK):=(C4 h.objs.size).filterMap λa=>if a=L\/(g.get? a).isSome=true then none else(h.get? a).map λo=>(a,o)
noncomputable def rest(g h:Heap)(L d:Addr):List (Addr×bK):=(zcx g h L).filter λp=>decide (p.1≠d)
structure Mod(K:W.Frag)(mg:Str->Option be)(base:Heap):Prop where
 kin:K.In base
 glob:base.Ns bp mg
 blt: ∃mb,base.Ns fm mb/\∀x:Str,x≠ "__name__" ->mb x=bF x
 nolimit:base.NoLimit
structure Cx where
 prog:bm
 w:bo
 K:W.Frag
 mg:Str->Option be
 base:Heap
 A:bq
 N:List Str
 s₀:bf
 H₀:Hp
 env:dC
 outer:List dC
 stack:List dC
 ex:List Addr
 fn:Str->Bool
 calm:Bool
 pn:List (Addr×bK)
 xe:be->bf->Prop
noncomputable def frs(l:List dC):List Addr:=l.filterMap (·.frame)
noncomputable abbrev Cx.fs(X:Cx):List Addr:=frs X.outer
noncomputable def Vis(sc:Scope)(x:Str):Prop:=sc.names.lookup x=some .local\/sc.names.lookup x=some .cell\/sc.names.lookup x=some .free
noncomputable def Loc(sc:Scope)(x:Str):Prop:=sc.names.lookup x=some .local\/sc.names.lookup x=some .cell
noncomputable def zjt(env:dC)(h:Heap)(m:Str->Option be)(x:Str)(u:be):Prop:=
 (env.kindOf x=some .local/\m x=some u)\/((env.kindOf x=some .cell\/env.kindOf x=some .free)/\∃c,env.cells.lookup x=some c/\h.IsCell c (some u))
structure Cx.Ok(X:Cx):Prop where
 mod:Mod X.K X.mg X.base
 kind:X.env.scope.kind= .function
 glob:X.env.globals=bp
 blt:X.env.builtins=fm
 above:X.s₀.heap.objs.size<=X.env.locals
 inj: ∀x y c,X.env.cells.lookup x=some c->X.env.cells.lookup y=some c->x=y
 has: ∀x,(X.env.kindOf x=some .cell\/X.env.kindOf x=some .free)->∃c,X.env.cells.lookup x=some c
 cab: ∀x c,X.fn x=true->X.env.cells.lookup x=some c->X.s₀.heap.objs.size<=c
 hd:X.calm=true->X.A.handled=none
 frames:X.A.frames=some X.stack
 stk:X.stack=X.outer\/(X.stack=X.env::X.outer/\X.env.frame=some X.env.locals)
 exf: ∀b∈X.ex,b≠X.env.locals/\∀x c,X.env.cells.lookup x=some c->c≠b
 bs: ∀b o,X.base.get? b=some o->X.s₀.heap.get? b=some o/\X.H₀ b=none
 bsz:X.base.objs.size<=X.s₀.heap.objs.size
 noex: ∀b o,X.base.get? b=some o->b∉X.ex
 exfs: ∀b∈X.ex,b∉X.fs
 funs:X.s₀.heap.FunFrames X.base X.outer
 frf: ∀b∈X.fs,X.H₀ b=none
structure Inv(X:Cx)(pins:List (Addr×bK))(σ:List (Option V))(H:Hp)(s:bf):Prop where
 ok:X.Ok
 os:s.os=X.s₀.os
 bare:cB s.gens
 base:Un X.fs X.ex X.H₀ H X.s₀.heap s.heap
 loc: ∃m,s.heap.Ns X.env.locals m/\∀(i:Nat) (x:Str) (v:V),X.N[i]? =some x->σ[i]? =some (some v)->Vis X.env.scope x->∃u,RelV v u/\zjt X.env s.heap m x u
 cell: ∀x c,X.env.cells.lookup x=some c->∃v,s.heap.IsCell c v
 free:H X.env.locals=none
 freeC: ∀x c,X.env.cells.lookup x=some c->H c=none
 pin: ∀p∈X.pn++pins,s.heap.get? p.1=some p.2/\H p.1=none/\p.1≠X.env.locals/\p.1∉X.fs/\∀v,p.2.data≠ .cell v
 hok:HOk X.prog X.w H s.heap
 len:σ.length=X.N.length
section
variable{X:Cx}{pins:List (Addr×bK)}{σ:List (Option V)}{H H':Hp}{s:bf}{h':Heap}
def Cx.Ok.nofr(ok:X.Ok)(e:X.base.get? b=some o):b∉X.fs:=λhb=>by
 have:=(ok.funs.mem hb).1
 rw[e] at this;cases this
def Inv.bs(I:Inv X pins σ H s): ∀b o,X.base.get? b=some o->s.heap.get? b=some o/\H b=none:=λb o e=>
 ⟨I.base.keep b o (I.ok.bs b o e).1 (I.ok.bs b o e).2 (I.ok.nofr e) (I.ok.noex b o e),I.base.free b o (I.ok.bs b o e).1 (I.ok.bs b o e).2 (I.ok.noex b o e)⟩
def Inv.bk(I:Inv X pins σ H s): ∀b o,X.base.get? b=some o->s.heap.get? b=some o:=λb o e=>(I.bs b o e).1
def Inv.mod(I:Inv X pins σ H s):Mod X.K X.mg X.base:=I.ok.mod
def Inv.kIn(I:Inv X pins σ H s):X.K.In s.heap:=I.ok.mod.kin.keeps I.bk
def Inv.lt(I:Inv X pins σ H s):X.env.locals<s.heap.objs.size:=let⟨_,hn,_⟩:=I.loc;hn.lt
def Inv.sz(I:Inv X pins σ H s):X.s₀.heap.objs.size<=s.heap.objs.size:=C1 I.ok.above (O1 I.lt)
def Inv.nofs(I:Inv X pins σ H s)(h:s.heap.objs.size<=a):a∉X.fs:=λhb=>by
 obtain⟨_,o,ho,_⟩:=I.ok.funs.mem hb
 exact absurd (A8 (Heap.lt_size ho) (C1 I.sz h)) (D8 _)
def Inv.cne(I:Inv X pins σ H s): ∀x c,X.env.cells.lookup x=some c->c≠X.env.locals:=λx c e z=>by
 obtain⟨v,o,ho,hd⟩:=I.cell x c e
 obtain⟨m,⟨o',es,ep,ho',hd',_⟩,_⟩:=I.loc
 rw[z,ho'] at ho;cases ho;rw[hd'] at hd;cases hd
def Inv.funs(I:Inv X pins σ H s):s.heap.FunFrames X.base X.outer:=by
 have all: ∀(l:List dC),(∀b∈frs l,b∈X.fs)->X.s₀.heap.FunFrames X.base l->s.heap.FunFrames X.base l:=by
  intro l
  induction l with
  |nil=>intro _ _;trivial
  |cons env r ih=>
   intro hs hl
   obtain⟨hk,⟨L,o,hf,hn,ho,hd⟩,hr⟩:=hl
   have hL:L∈X.fs:=hs L (by unfold frs;rw[N9,hf];exact l5)
   obtain⟨sl,e⟩:=I.base.slot L o ho (I.ok.frf L hL) hL λz=>I.ok.exfs L z hL
   exact⟨hk,⟨L,_,hf,hn,e,hd⟩,ih (λb hb=>hs b (by unfold frs;rw[N9,hf];exact i5 _ hb)) hr⟩
 exact all X.outer (λ_ hb=>hb) I.ok.funs
def Inv.stack(I:Inv X pins σ H s):s.heap.FunFrames X.base X.stack:=by
 rcases I.ok.stk with e|⟨e,hf⟩
 .rw[e];exact I.funs
 .rw[e]
  obtain⟨m,hn,_⟩:=I.loc
  refine .cons (by rw[I.ok.kind];decide) hf hn ?_ I.funs
  exact Heap.get?_none_of_le (C1 I.ok.bsz I.ok.above)
def Inv.stkSub(I:Inv X pins σ H s): ∀b∈frs X.stack,b∈X.env.locals::X.fs:=λb hb=>by
 rcases I.ok.stk with e|⟨e,hf⟩
 .rw[e] at hb;exact i5 _ hb
 .rw[e] at hb
  unfold frs at hb
  rw[N9,hf] at hb
  exact hb
def Inv.stkFree(I:Inv X pins σ H s): ∀b∈frs X.stack,H b=none:=λb hb=>by
 rcases l7.mp (I.stkSub b hb) with e|hb
 .rw[e];exact I.free
 .obtain⟨_,o,ho,_⟩:=I.ok.funs.mem hb
  exact I.base.free b o ho (I.ok.frf b hb) λz=>I.ok.exfs b z hb
def Inv.step{g':Array GenState}{t':Nat}{d':Drawn}{ch:List Addr}(I:Inv X pins σ H s)
 (hch: ∀b∈ch,(b∈X.ex\/X.s₀.heap.objs.size<=b)/\b≠X.env.locals/\(∀x c,X.env.cells.lookup x=some c->c≠b)/\∀p∈X.pn++pins,p.1≠b)
 (keep: ∀b o,b≠X.env.locals->b∉X.fs->b∉ch->s.heap.get? b=some o->H b=none->h'.get? b=some o)
 (slot: ∀b o,b≠X.env.locals->b∈X.fs->b∉ch->s.heap.get? b=some o->H b=none->∃sl,h'.get? b=some {o with slots:=sl}) (free: ∀b o,b∉ch->s.heap.get? b=some o->H b=none->H' b=none)
 (there: ∀b o,b∉ch->s.heap.get? b=some o->∃o',h'.get? b=some o')
 (tups: ∀b xs,H b=some (.tup xs)->H' b=some (.tup xs)) (frzs: ∀b o u,H b=some (.frz o u)->H' b=some (.frz o u)) (tbls: ∀b ps,H b=some (.tbl ps)->∃more,H' b=some (.tbl (ps++more)))
 (ns: ∀m,s.heap.Ns X.env.locals m->h'.Ns X.env.locals m) (hok:HOk X.prog X.w H' h') (hg:cB g'):
 Inv X pins σ H' {s with heap:=h',gens:=g',drawn:=d',toks:=t'}:=by
 have neL: ∀b o,X.s₀.heap.get? b=some o->b≠X.env.locals:=λb o e=>B1 (A8 (Heap.lt_size e) I.ok.above)
 have neC: ∀b o,X.s₀.heap.get? b=some o->b∉X.ex->b∉ch:=λb o e hx hb=>by
  rcases(hch b hb).1 with z|z
  .exact hx z
  .exact absurd (A8 (Heap.lt_size e) z) (D8 _)
 have cellK: ∀x c,X.env.cells.lookup x=some c->∀v,s.heap.IsCell c v->h'.IsCell c v:=λx c e v ⟨o,ho,hd⟩=>by
  have nch:c∉ch:=λz=>(hch c z).2.2.1 x c e rfl
  by_cases hc:c∈X.fs
  .obtain⟨sl,q⟩:=slot c o (I.cne x c e) hc nch ho (I.freeC x c e)
   exact⟨_,q,hd⟩
  .exact⟨o,keep c o (I.cne x c e) hc nch ho (I.freeC x c e),hd⟩
 refine⟨I.ok,I.os,hg,⟨λb o e n hb hx=> ?_,λb o e n hb hx=> ?_,λb o e n hx=> ?_,λb o e hx=> ?_,λb xs e=>tups b xs (I.base.tups b xs e),λb o xs e=>frzs b o xs (I.base.frzs b o xs e),λb ps e=> ?_⟩, ?_,λx c e=> ?_, ?_,λx c e=> ?_,λp hp=> ?_,hok,I.len⟩
 .exact keep b o (neL b o e) hb (neC b o e hx) (I.base.keep b o e n hb hx) (I.base.free b o e n hx)
 .obtain⟨sl,e1⟩:=I.base.slot b o e n hb hx
  obtain⟨sl',e2⟩:=slot b _ (neL b o e) hb (neC b o e hx) e1 (I.base.free b o e n hx)
  exact⟨sl',e2⟩
 .obtain⟨o',e1⟩:=I.base.there b o e hx
  exact free b o' (neC b o e hx) e1 (I.base.free b o e n hx)
 .obtain⟨o',e1⟩:=I.base.there b o e hx
  exact there b o' (neC b o e hx) e1
 .obtain⟨m1,e1⟩:=I.base.tbls b ps e
  obtain⟨m2,e2⟩:=tbls b _ e1
  exact⟨m1++m2,by rw[e2,Array.append_assoc]⟩
 .obtain⟨m,hn,hl⟩:=I.loc
  refine⟨m,ns m hn,λi x v e1 e2 e3=> ?_⟩
  obtain⟨u,r,l⟩:=hl i x v e1 e2 e3
  refine⟨u,r, ?_⟩
  rcases l with l|⟨k,c,e,z⟩
  .exact .inl l
  .exact .inr ⟨k,c,e,cellK x c e _ z⟩
 .obtain⟨v,z⟩:=I.cell x c e
  exact⟨v,cellK x c e v z⟩
 .obtain⟨m,⟨o,_,_,ho,_⟩,_⟩:=I.loc
  exact free _ o (λz=>(hch _ z).2.1 rfl) ho I.free
 .obtain⟨v,o,ho,hd⟩:=I.cell x c e
  exact free c o (λz=>(hch c z).2.2.1 x c e rfl) ho (I.freeC x c e)
 .obtain⟨e,n,ne,nf,d⟩:=I.pin p hp
  have nch:p.1∉ch:=λz=>(hch p.1 z).2.2.2 p hp rfl
  exact⟨keep p.1 p.2 ne nf nch e n,free p.1 p.2 nch e n,ne,nf,d⟩
def Inv.un{t':Nat}(I:Inv X pins σ H s)(u:Un X.fs [] H H' s.heap h')(hok:HOk X.prog X.w H' h'):Inv X pins σ H' {s with heap:=h',toks:=t'}:=by
 obtain⟨m,⟨o,es,ep,ho,r⟩,_⟩:=id I.loc
 obtain⟨sl,hL⟩:=u.any ho I.free (by simp)
 exact I.step (g':=s.gens) (d':=s.drawn) (ch:=[]) (λ_ z=>nomatch z) (λb o _ hb _ e n=>u.keep b o e n hb (by simp)) (λb o _ hb _ e n=>u.slot b o e n hb (by simp)) (λb o _ e n=>u.free b o e n (by simp)) (λb o _ e=>u.there b o e (by simp)) u.tups u.frzs u.tbls (λm' hm=>by
  obtain⟨o',es',ep',ho',r'⟩:=hm
  rw[ho] at ho';cases ho'
  exact⟨_,es',ep',hL,r'⟩) hok I.bare
def Inv.call{t':Nat}{d':Drawn}(I:Inv X pins σ H s)(u:Un (frs X.stack) ch H H' s.heap h')(hok:HOk X.prog X.w H' h')(hg:cB g')
 (hch: ∀b∈ch,(b∈X.ex\/X.s₀.heap.objs.size<=b)/\b≠X.env.locals/\(∀x c,X.env.cells.lookup x=some c->c≠b)/\∀p∈X.pn++pins,p.1≠b):
 Inv X pins σ H' {s with heap:=h',gens:=g',drawn:=d',toks:=t'}:=by
 obtain⟨m,⟨o,es,ep,ho,r⟩,_⟩:=id I.loc
 obtain⟨sl,hL⟩:=u.any ho I.free λz=>(hch _ z).2.1 rfl
 exact I.step (ch:=ch) hch (λb o hL hb hc e n=>u.keep b o e n (λz=>(l7.mp (I.stkSub b z)).elim hL hb) hc) (λb o _ _ hc e n=>u.any e n hc) (λb o hc e n=>u.free b o e n hc) (λb o hc e=>u.there b o e hc) u.tups u.frzs u.tbls (λm' hm=>by
  obtain⟨o',es',ep',ho',r'⟩:=hm
  rw[ho] at ho';cases ho'
  exact⟨_,es',ep',hL,r'⟩) hok hg
def Inv.turned{t':Nat}(I:Inv X pins σ H s)(k: ∀b o,b≠it->s.heap.get? b=some o->h'.get? b=some o)(hn:H it=none)(hL:it≠X.env.locals)
 (h1:it∈X.ex\/X.s₀.heap.objs.size<=it) (h2: ∀x c,X.env.cells.lookup x=some c->c≠it) (h3: ∀p∈X.pn++pins,p.1≠it):Inv X pins σ H {s with heap:=h',toks:=t'}:=by
 have nit: ∀b u,H b=some u->b≠it:=λb u e z=>by rw[z,hn] at e;cases e
 refine I.step (g':=s.gens) (d':=s.drawn) (ch:=[it]) (λb hb=> ?_) (λb o _ _ hc e _=>k b o (λz=>hc (by simp[z])) e) (λb o _ _ hc e _=>⟨o.slots,k b o (λz=>hc (by simp[z])) e⟩) (λ_ _ _ _ n=>n)
  (λb o hc e=>⟨o,k b o (λz=>hc (by simp[z])) e⟩) (λ_ _ e=>e) (λ_ _ _ e=>e) (λb ps e=>⟨#[],by rw[e];simp⟩) (λm hm=> ?_) (λb u e=> ?_) I.bare
 .have e:b=it:=by simpa using hb
  subst e
  exact⟨h1,hL,h2,h3⟩
 .obtain⟨o,es,ep,ho,r⟩:=hm
  exact⟨o,es,ep,k _ o (Ne.symm hL) ho,r⟩
 .refine(I.hok b u e).stay (λc v hc q=>k c v ?_ q) (λ_ q=>q) λ_ _ q=>q
  rcases hc with z|z
  .rw[z];exact nit b u e
  .exact nit c _ z
def Inv.tok(I:Inv X pins σ H s)(t:Nat):Inv X pins σ H {s with toks:=t}:=I.un (h':=s.heap) (t':=t) Un.refl I.hok
def Inv.kept{t':Nat}(I:Inv X pins σ H s)(k: ∀b u,s.heap.get? b=some u->h'.get? b=some u):Inv X pins σ H {s with heap:=h',toks:=t'}:=I.un (Un.kept k) (I.hok.kept k)
def Inv.laid{t':Nat}(I:Inv X pins σ H s)(k: ∀b u,s.heap.get? b=some u->h'.get? b=some u)(hp:s.heap.objs.size<=a)(new:X9 X.prog X.w (upd H a o) h' a o):
 Inv X pins σ (upd H a o) {s with heap:=h',toks:=t'}:=I.un (Un.laid k hp (I.hok.fresh hp)) (I.hok.laid k hp new)
def Inv.write{o:HO}{t':Nat}(I:Inv X pins σ H s)(mu:Mut (H x))(he:e=x\/H e=some (.own x))(k: ∀b u,b≠e->s.heap.get? b=some u->h'.get? b=some u)(heo: ∃u,h'.get? e=some u)
 (new:X9 X.prog X.w (upd H x o) h' x o):Inv X pins σ (upd H x o) {s with heap:=h',toks:=t'}:=I.un (Un.write mu he k heo) (I.hok.write mu he k heo new)
def Inv.pins_of(I:Inv X pins σ H s)(h: ∀p∈pins',s.heap.get? p.1=some p.2/\H p.1=none/\p.1≠X.env.locals/\p.1∉X.fs/\∀v,p.2.data≠ .cell v):Inv X pins' σ H s:=
 ⟨I.ok,I.os,I.bare,I.base,I.loc,I.cell,I.free,I.freeC,λp hp=>(l4.mp hp).elim (λz=>I.pin p (i8 _ z)) (h p),I.hok,I.len⟩
def z6l{N:List Str}(hN:N.Nodup){i j:Nat}(a:N[i]? =some x)(b:N[j]? =some x):i=j:=by
 obtain⟨h1,e1⟩:=List.getElem?_eq_some_iff.mp a
 obtain⟨h2,e2⟩:=List.getElem?_eq_some_iff.mp b
 exact(List.getElem_inj hN).mp (e1.trans e2.symm)
def z7T{M:Model}{A:bq}{E:be->bf->Prop}{i:Nat}{Q:Unit->bf->Prop}(I:Inv X pins σ H s)(hN:X.N.Nodup)(hi:X.N[i]? =some x)(hx:Loc X.env.scope x)(r:RelV v u)
 (h: ∀s',Inv X pins (σ.set i (some v)) H s'->(∃a,Heap.SameBut a s.heap s'.heap/\(a=X.env.locals\/X.env.cells.lookup x=some a))->Q () s') (hf:X.fn x=true\/X.env.scope.names.lookup x=some .local:=by first|exact .inl rfl|exact .inr rfl|assumption):bj M A (fF X.env x u) Q E s:=by
 obtain⟨m,hn,hl⟩:=id I.loc
 have hcls:(X.env.scope.kind== .class||(X.env.scope.kind== .module&&X.env.locals !=X.env.globals))=false:=by rw[I.ok.kind];rfl
 have hiσ:i<σ.length:=by rw[I.len];exact(List.getElem?_eq_some_iff.mp hi).1
 have cne:=I.cne
 have tracked: ∀{a:Addr} {h':Heap},(∃o,s.heap.get? a=some o/\H a=none)->Heap.SameBut a s.heap h'->HOk X.prog X.w H h':=λ{a h'} ha hs b ob e=>by
  obtain⟨_,_,hfree⟩:=ha
  refine(I.hok b ob e).stay (λc w' hc q=>(hs.2 c ?_).trans q) (λ_ q=>q) λ_ _ q=>q
  rintro rfl
  rcases hc with rfl|hc
  .rw[hfree] at e;cases e
  .rw[hfree] at hc;cases hc
 rcases hx with hk|hk
 .refine wpAny_storeName_local hk hn (λh' hn' hs=> ?_) hcls
  obtain⟨oL,_,_,hoL,_⟩:=id hn
  refine h _ ⟨I.ok,I.os,I.bare,⟨λb o e n hb hx=> ?_,λb o e n hb hx=> ?_,I.base.free,λb o e hx=> ?_,I.base.tups,I.base.frzs,I.base.tbls⟩,⟨_,hn',λj y v' e1 e2 e3=> ?_⟩,λy c e=> ?_,I.free,I.freeC,λp hp=> ?_,tracked ⟨oL,hoL,I.free⟩ hs,by simpa using I.len⟩ ⟨_,hs, .inl rfl⟩
  .exact(hs.2 b (B1 (A8 (Heap.lt_size e) I.ok.above))).trans (I.base.keep b o e n hb hx)
  .obtain⟨sl,e1⟩:=I.base.slot b o e n hb hx
   exact⟨sl,(hs.2 b (B1 (A8 (Heap.lt_size e) I.ok.above))).trans e1⟩
  .obtain⟨o',e1⟩:=I.base.there b o e hx
   exact⟨o',(hs.2 b (B1 (A8 (Heap.lt_size e) I.ok.above))).trans e1⟩
  .by_cases hj:j=i
   .subst hj
    rw[hi] at e1;cases e1
    rw[List.getElem?_set_self hiσ] at e2
    cases e2
    exact⟨u,r, .inl ⟨hk,by simp⟩⟩
   .rw[List.getElem?_set_ne (Ne.symm hj)] at e2
    obtain⟨u',r',q⟩:=hl j y v' e1 e2 e3
    refine⟨u',r', ?_⟩
    rcases q with⟨k,e⟩|⟨k,c,e,z⟩
    .refine .inl ⟨k, ?_⟩
     have:y≠x:=λe=>hj (z6l hN e1 (e▸hi))
     simp[this,e]
    .exact .inr ⟨k,c,e,z.sameBut hs (cne y c e)⟩
  .obtain⟨w',z⟩:=I.cell y c e
   exact⟨w',z.sameBut hs (cne y c e)⟩
  .obtain⟨e,n,ne,nf,d⟩:=I.pin p hp
   exact⟨(hs.2 p.1 ne).trans e,n,ne,nf,d⟩
 .have hfn:X.fn x=true:=by
   rcases hf with z|z
   .exact z
   .rw[z] at hk;cases hk
  obtain⟨c,hc⟩:=I.ok.has x (.inl hk)
  obtain⟨w',z⟩:=I.cell x c hc
  refine wpAny_storeName_cell I.ok.kind hk hc z (λh' hc' hs=> ?_)
  obtain⟨oc,hoc,hocd⟩:=id z
  refine h {s with heap:=h'} ⟨I.ok,I.os,I.bare,⟨λb o e n hb hx=> ?_,λb o e n hb hx=> ?_,I.base.free,λb o e hx=> ?_,I.base.tups,I.base.frzs,I.base.tbls⟩,⟨m,hn.sameBut hs (Ne.symm (cne x c hc)),λj y v' e1 e2 e3=> ?_⟩,λy c' e=> ?_,I.free,I.freeC,λp hp=> ?_,tracked ⟨oc,hoc,I.freeC x c hc⟩ hs,by simpa using I.len⟩ ⟨c,hs, .inr hc⟩
  .exact(hs.2 b (B1 (A8 (Heap.lt_size e) (I.ok.cab x c hfn hc)))).trans (I.base.keep b o e n hb hx)
  .obtain⟨sl,e1⟩:=I.base.slot b o e n hb hx
   exact⟨sl,(hs.2 b (B1 (A8 (Heap.lt_size e) (I.ok.cab x c hfn hc)))).trans e1⟩
  .obtain⟨o',e1⟩:=I.base.there b o e hx
   exact⟨o',(hs.2 b (B1 (A8 (Heap.lt_size e) (I.ok.cab x c hfn hc)))).trans e1⟩
  .by_cases hj:j=i
   .subst hj
    rw[hi] at e1;cases e1
    rw[List.getElem?_set_self hiσ] at e2
    cases e2
    exact⟨u,r, .inr ⟨.inl hk,c,hc,hc'⟩⟩
   .rw[List.getElem?_set_ne (Ne.symm hj)] at e2
    obtain⟨u',r',q⟩:=hl j y v' e1 e2 e3
    refine⟨u',r', ?_⟩
    rcases q with q|⟨k,c',e,z'⟩
    .exact .inl q
    .refine .inr ⟨k,c',e,z'.sameBut hs ?_⟩
     rintro rfl
     exact hj (z6l hN e1 (I.ok.inj _ _ _ e hc▸hi))
  .by_cases hcc:c'=c
   .subst hcc;exact⟨_,hc'⟩
   .obtain⟨w2,z2⟩:=I.cell y c' e
    exact⟨w2,z2.sameBut hs hcc⟩
  .obtain⟨e,n,ne,nf,d⟩:=I.pin p hp
   refine⟨(hs.2 p.1 ?_).trans e,n,ne,nf,d⟩
   intro q
   rw[q,hoc] at e
   have q':oc=p.2:=Option.some.inj e
   exact d w' (by rw[<-q'];exact hocd)
def z3J{M:Model}{A:bq}{E:be->bf->Prop}{i:Nat}{Q:Unit->bf->Prop}(I:Inv X pins σ H s)(hN:X.N.Nodup)(hi:X.N[i]? =some x)(hx:Loc X.env.scope x)(r:RelV v u)
 (h: ∀s',Inv X pins (σ.set i (some v)) H s'->Q () s') (hf:X.fn x=true\/X.env.scope.names.lookup x=some .local:=by first|exact .inl rfl|exact .inr rfl|assumption):bj M A (fF X.env x u) Q E s:=
 z7T I hN hi hx r (λs' I' _=>h s' I') hf
def Inv.call'{s':bf}(I:Inv X pins σ H s)(ho:s'.os=s.os)(u:Un (frs X.stack) ch H H' s.heap s'.heap)(hok:HOk X.prog X.w H' s'.heap)(hg:cB s'.gens)
 (hch: ∀b∈ch,(b∈X.ex\/X.s₀.heap.objs.size<=b)/\b≠X.env.locals/\(∀x c,X.env.cells.lookup x=some c->c≠b)/\∀p∈X.pn++pins,p.1≠b):Inv X pins σ H' s':=by
 obtain⟨h',g',d',t',o'⟩:=s'
 have e:o'=s.os:=ho
 subst e
 exact I.call (g':=g') (t':=t') (d':=d') u hok hg hch
end
noncomputable abbrev XK:=be->Option Addr->Hp->Prop
noncomputable abbrev St:=List (Option V)
noncomputable abbrev VK:=V->Hp->Prop
noncomputable abbrev TE:=St->Hp->VK->Prop
noncomputable abbrev TT:=St->Hp->(Bool->Hp->Prop)->Prop
noncomputable abbrev TA:=St->Hp->(List V->Hp->Prop)->Prop
structure z5u where
 nx:St->Hp->Prop
 rt:VK
 bk:St->Hp->Prop:=λ_ _=>False
 ct:St->Hp->Prop:=λ_ _=>False
noncomputable abbrev TS:=z5u->St->Hp->Prop
noncomputable def EP(X:Cx)(pins:List (Addr×bK))(σ:St)(Q:VK)(u:be)(s':bf):Prop:= ∃v H',Inv X pins σ H' s'/\RelV v u/\Q v H'
noncomputable def TP(X:Cx)(pins:List (Addr×bK))(σ:St)(Q:Bool->Hp->Prop)(b:Bool)(s':bf):Prop:= ∃H',Inv X pins σ H' s'/\Q b H'
noncomputable def AP(X:Cx)(pins:List (Addr×bK))(σ:St)(Q:List V->Hp->Prop)(us:List be)(s':bf):Prop:= ∃vs H',Inv X pins σ H' s'/\J4 vs us/\Q vs H'
noncomputable def SP(X:Cx)(pins:List (Addr×bK))(D:z5u)(f:Flow)(s':bf):Prop:=
 match f with
 | .next=> ∃σ' H',Inv X pins σ' H' s'/\D.nx σ' H'
 | .brk=> ∃σ' H',Inv X pins σ' H' s'/\D.bk σ' H'
 | .cont=> ∃σ' H',Inv X pins σ' H' s'/\D.ct σ' H'
 | .ret u=> ∃v σ' H',Inv X pins σ' H' s'/\RelV v u/\D.rt v H'
noncomputable def PE(X:Cx)(e:bi)(t:TE):Prop:=
 ∀(pins:List (Addr×bK)) (s:bf) (σ:St) (H:Hp) (Q:VK),Inv X pins σ H s->t σ H Q->bj (bn X.prog X.w) X.A (bB e X.env) (EP X pins σ Q) X.xe s
noncomputable def PT(X:Cx)(e:bi)(t:TT):Prop:=
 ∀(pins:List (Addr×bK)) (s:bf) (σ:St) (H:Hp) (Q:Bool->Hp->Prop),Inv X pins σ H s->t σ H Q->bj (bn X.prog X.w) X.A (fo e X.env (bB e X.env)) (TP X pins σ Q) X.xe s
noncomputable def PW(X:Cx)(e:bi)(t:TT):Prop:=
 ∀(whole:Sem be) (pins:List (Addr×bK)) (s:bf) (σ:St) (H:Hp) (Q:Bool->Hp->Prop),Inv X pins σ H s->t σ H Q->bj (bn X.prog X.w) X.A (fo e X.env whole) (TP X pins σ Q) X.xe s
def PW.pt(h:PW X e t):PT X e t:=h _
noncomputable def PA(X:Cx)(es:List bi)(t:TA):Prop:=
 ∀(pos:bG) (pins:List (Addr×bK)) (s:bf) (σ:St) (H:Hp) (Q:List V->Hp->Prop),Inv X pins σ H s->t σ H Q->bj (bn X.prog X.w) X.A (spliced (bC pos (bh es X.env))) (AP X pins σ Q) X.xe s
noncomputable def PS(X:Cx)(st:Stmt)(t:TS):Prop:=
 ∀(pins:List (Addr×bK)) (s:bf) (σ:St) (H:Hp) (D:z5u),Inv X pins σ H s->t D σ H->bj (bn X.prog X.w) X.A (exec st X.env) (SP X pins D) X.xe s
noncomputable def PSs(X:Cx)(st:List Stmt)(t:TS):Prop:=
 ∀(pins:List (Addr×bK)) (s:bf) (σ:St) (H:Hp) (D:z5u),Inv X pins σ H s->t D σ H->bj (bn X.prog X.w) X.A (execs st X.env) (SP X pins D) X.xe s
def thn{α:Type}{t:Sem α}{Q Q':α->bf->Prop}{M:Model}{A:bq}{E:be->bf->Prop}{s:bf}(h:bj M A t Q E s)(hQ: ∀a s,Q a s->Q' a s):bj M A t Q' E s:=bE h hQ λ_ _ x=>x
section
variable{X:Cx}
noncomputable def zhk(i:Nat):TE:=λ σ H Q=> ∃v,σ[i]? =some (some v)/\Q v H
noncomputable def tC(v:V):TE:=λ_ H Q=>Q v H
def zex{i:Nat}{pos:bG}(hN:X.N[i]? =some x)(hv:Vis X.env.scope x)(hd:(x==("__debug__" :Str))=false:=by decide)(hcd:(x==("__classdict__" :Str))=false:=by decide):PE X (.Name x pos) (zhk i):=by
 intro pins s σ H Q I h
 obtain⟨v,e,h⟩:=h
 obtain⟨m,hn,hl⟩:=I.loc
 obtain⟨u,r,l⟩:=hl i x v hN e hv
 have fin:EP X pins σ Q u s:=⟨v,H,I,r,h⟩
 rcases l with⟨hk,hm⟩|⟨hk,c,hc,hcell⟩
 .exact ft (dg I.ok.kind hk hn hm fin) hd
 .rcases hk with hk|hk
  .exact ft (dA I.ok.kind hk hc hcell fin) hd
  .exact ft (wpAny_loadName_free I.ok.kind hk hc hcell fin hcd) hd
def y1{i j pos}:PE X (.Constant (.int i) j pos) (tC (.int i)):=λ_ _ _ H _ I h=>wpAny_Constant_int ⟨.int i,H,I.tok _,⟨_,rfl⟩,h⟩
def z5y{b j pos}:PE X (.Constant (.bool b) j pos) (tC (.bl b)):=λ_ _ _ H _ I h=>Constant_bool ⟨.bl b,H,I,rfl,h⟩
def z3n{j pos}:PE X (.Constant .none j pos) (tC .non):=λ_ _ _ H _ I h=>Constant_none ⟨.non,H,I,rfl,h⟩
noncomputable def Gl(X:Cx)(x:Str):Prop:=X.env.kindOf x=some .globalImplicit
def z7U{E:be->bf->Prop}{pos:bG}{Q:be->bf->Prop}(I:Inv X pins σ H s)(hg:Gl X x)(hm:X.mg x=some u)(h:Q u s)
 (hd:(x==("__debug__" :Str))=false:=by decide):bj (bn X.prog X.w) X.A (bB (.Name x pos) X.env) Q E s:=
 Calls.Name_function_global I.ok.kind hg (Calls.loadGlobal_global (by rw[I.ok.glob];exact I.mod.glob.keeps I.bk) hm h) hd
def z4E{E:be->bf->Prop}{pos:bG}{Q:be->bf->Prop}(I:Inv X pins σ H s)(hg:Gl X x)(hm:X.mg x=none)(hv:bF x=some u)(h:Q u s)
 (hn:x≠ "__name__" :=by decide) (hd:(x==("__debug__" :Str))=false:=by decide):bj (bn X.prog X.w) X.A (bB (.Name x pos) X.env) Q E s:=by
 obtain⟨mb,h1,h2⟩:=I.mod.blt
 exact Calls.Name_function_global I.ok.kind hg (Calls.loadGlobal_builtin (by rw[I.ok.glob];exact I.mod.glob.keeps I.bk) hm (by rw[I.ok.blt];exact h1.keeps I.bk) ((h2 x hn).trans hv) h) hd
def zcy{pos:bG}(hg:Gl X x)(hm:X.mg x=some u)(r:RelV v u)(hd:(x==("__debug__" :Str))=false:=by decide):PE X (.Name x pos) (tC v):=
 λ_ _ _ H _ I h=>z7U I hg hm ⟨v,H,I,r,h⟩ hd
def z2i{pos:bG}(hg:Gl X x)(hm:X.mg x=none)(hv:bF x=some u)(r:RelV v u)(hn:x≠ "__name__" :=by decide)(hd:(x==("__debug__" :Str))=false:=by decide):PE X (.Name x pos) (tC v):=
 λ_ _ _ H _ I h=>z4E I hg hm hv ⟨v,H,I,r,h⟩ hn hd
variable{a b:bi}{ta tb:TE}{pos:bG}
variable{tA tB':TT}{rest:List bi}
noncomputable def zju(t u:TT):TT:=λ σ H Q=>t σ H λc H1=>if c=true then u σ H1 Q else Q false H1
noncomputable def tOr(t u:TT):TT:=λ σ H Q=>t σ H λc H1=>if c=true then Q true H1 else u σ H1 Q
noncomputable def zjv(t:TT):TT:=λ σ H Q=>t σ H λc H1=>Q (!c) H1
def zcz(ha:PT X a tA):PW X (.BoolOp .And [a] pos) tA:=by
 intro wh pins s σ H Q I h
 refine isTrue_and (thn (ha pins s σ H Q I h) λc s1 e=> ?_)
 cases c with
 |true=>exact isTrue_and_nil e
 |false=>exact e
def zey(ha:PT X a tA):PW X (.BoolOp .Or [a] pos) tA:=by
 intro wh pins s σ H Q I h
 refine isTrue_or (thn (ha pins s σ H Q I h) λc s1 e=> ?_)
 cases c with
 |false=>exact isTrue_or_nil e
 |true=>exact e
def zez(ha:PT X a tA)(hb:PW X (.BoolOp .And (b::rest) pos) tB'):PW X (.BoolOp .And (a::b::rest) pos) (zju tA tB'):=by
 intro wh pins s σ H Q I h
 refine isTrue_and (thn (ha pins s σ H _ I h) λc s1 ⟨H1,I1,q1⟩=> ?_)
 cases c with
 |true=>exact hb wh pins s1 σ H1 Q I1 q1
 |false=>exact⟨H1,I1,q1⟩
def zhz(ha:PT X a tA)(hb:PW X (.BoolOp .Or (b::rest) pos) tB'):PW X (.BoolOp .Or (a::b::rest) pos) (tOr tA tB'):=by
 intro wh pins s σ H Q I h
 refine isTrue_or (thn (ha pins s σ H _ I h) λc s1 ⟨H1,I1,q1⟩=> ?_)
 cases c with
 |true=>exact⟨H1,I1,q1⟩
 |false=>exact hb wh pins s1 σ H1 Q I1 q1
def zeA(ha:PT X a tA):PT X (.UnaryOp .Not a pos) (zjv tA):=by
 intro pins s σ H Q I h
 exact isTrue_not (ha pins s σ H (λc H1=>Q (!c) H1) I h)
noncomputable def zhA(ta tb:TE):TE:=λ σ H Q=>ta σ H λx H1=> ∃c,x= .bl c/\if c=true then tb σ H1 Q else Q (.bl false) H1
noncomputable def zhB(ta:TE):TE:=λ σ H Q=>ta σ H λx H1=> ∃c,x= .bl c/\Q (.bl (!c)) H1
def zeB{op}(h:PE X a t):PE X (.BoolOp op [a] pos) t:=λpins s σ H Q I hw=>BoolOp_one (h pins s σ H Q I hw)
def zeC(ha:PE X a ta)(hb:PE X (.BoolOp .And (b::rest) pos) tb):PE X (.BoolOp .And (a::b::rest) pos) (zhA ta tb):=by
 intro pins s σ H Q I h
 refine BoolOp_and (thn (ha pins s σ H _ I h) λv s1 ⟨x,H1,I1,r1,q1⟩=> ?_)
 obtain⟨c,rfl,q1⟩:=q1
 cases r1
 refine bR ?_
 cases c with
 |true=>exact hb pins s1 σ H1 Q I1 q1
 |false=>exact⟨.bl false,H1,I1,rfl,q1⟩
def zeD(ha:PE X a ta):PE X (.UnaryOp .Not a pos) (zhB ta):=by
 intro pins s σ H Q I h
 refine UnaryOp_ (thn (ha pins s σ H _ I h) λv s1 ⟨x,H1,I1,r1,q1⟩=> ?_)
 obtain⟨c,rfl,q1⟩:=q1
 cases r1
 exact not_of (bR ⟨.bl (!c),H1,I1,rfl,q1⟩)
end
noncomputable def SqL(K:W.Frag)(H:Hp)(a:Addr)(xs:List V):Prop:=
 Rd H a (.lst xs)\/
  ∃(o:bK) (its:Array be) (n:Nat),K.lookup a=some o/\o.cls= .type "list" /\o.dict=none/\o.data= .seq its n/\its.size<=sizeLine/\J4 xs its.toList
noncomputable def SqT(K:W.Frag)(H:Hp)(a:Addr)(xs:List V):Prop:=
 Rd H a (.tup xs)\/
  ∃(o:bK) (its:Array be) (n:Nat),K.lookup a=some o/\o.cls= .type "tuple" /\o.data= .seq its n/\its.size<=sizeLine/\J4 xs its.toList
noncomputable def zjw:be->Option V
 | .none=>some .non
 | .bool b=>some (.bl b)
 | .int i _=>some (.int i)
 | .str x _=>some (.str x)
 | .bytes b _=>some (.byt b)
 | .float b _=>some (.flt b)
 | .ref a=>some (.ref a)
 | .type n=>some (.ty n)
 |_=>none
def RelV.abs(r:RelV x u):zjw u=some x:=by
 cases x with
 |non=>cases r;rfl
 |bl _=>cases r;rfl
 |int _=>obtain⟨t,rfl⟩:=r;rfl
 |str _=>obtain⟨t,rfl⟩:=r;rfl
 |byt _=>obtain⟨t,rfl⟩:=r;rfl
 |flt _=>obtain⟨t,rfl⟩:=r;rfl
 |ref _=>cases r;rfl
 |ty _=>cases r;rfl
def RelV.inj(r:RelV x u)(q:RelV y u):x=y:=Option.some.inj (r.abs.symm.trans q.abs)
theorem J4.inj: ∀{xs ys:List V} {us:List be},J4 xs us->J4 ys us->xs=ys
 |_,_,_, .nil, .nil=>rfl
 |_,_,_, .cons r t, .cons r' t'=>by rw[r.inj r',J4.inj t t']
section
variable{X:Cx}{pins:List (Addr×bK)}{σ:St}{H:Hp}{s:bf}{a:Addr}{xs ys:List V}
def SqL.of{K:W.Frag}(h:H a=some (.lst xs)):SqL K H a xs:= .inl (.inl h)
def SqT.of{K:W.Frag}(h:H a=some (.tup xs)):SqT K H a xs:= .inl (.inl h)
def Inv.list(I:Inv X pins σ H s)(h:SqL X.K H a xs): ∃its:List be,J4 xs its/\PlainL s.heap a its.toArray/\xs.length<=sizeLine:=by
 rcases h with h|⟨o,its,n,hk,hc,hd,hs,hz,r⟩
 .obtain⟨z,its,n,r,e⟩:=h.ok I.hok
  exact⟨its,r,⟨_,n,e,rfl,rfl,rfl⟩,z⟩
 .refine⟨its.toList,r,⟨o,n,I.kIn a o hk,hc,hd,by simpa using hs⟩, ?_⟩
  have e:=r.length
  erw[Array.length_toList] at e
  lia
def Inv.tuple(I:Inv X pins σ H s)(h:SqT X.K H a xs): ∃its:List be,J4 xs its/\fP s.heap a its.toArray/\xs.length<=sizeLine:=by
 rcases h with h|⟨o,its,n,hk,hc,hs,hz,r⟩
 .obtain⟨z,its,r,p⟩:=h.ok I.hok
  exact⟨its,r,p,z⟩
 .refine⟨its.toList,r,⟨o,I.kIn a o hk,hc,n,by simpa using hs⟩, ?_⟩
  have e:=r.length
  erw[Array.length_toList] at e
  lia
def Inv.list_inj(I:Inv X pins σ H s)(h:SqL X.K H a xs)(h':SqL X.K H a ys):xs=ys:=by
 obtain⟨its,r,⟨o,n,e,_,_,d⟩,_⟩:=I.list h
 obtain⟨its',r',⟨o',n',e',_,_,d'⟩,_⟩:=I.list h'
 rw[e] at e';cases e'
 rw[d] at d'
 injection d' with d1 _
 have:its=its':=by simpa using congrArg Array.toList d1
 subst this
 exact r.inj r'
def Inv.tuple_inj(I:Inv X pins σ H s)(h:SqT X.K H a xs)(h':SqT X.K H a ys):xs=ys:=by
 obtain⟨its,r,⟨o,e,_,n,d⟩,_⟩:=I.tuple h
 obtain⟨its',r',⟨o',e',_,n',d'⟩,_⟩:=I.tuple h'
 rw[e] at e';cases e'
 rw[d] at d'
 injection d' with d1 _
 have:its=its':=by simpa using congrArg Array.toList d1
 subst this
 exact r.inj r'
end
noncomputable abbrev Cx.wish(X:Cx)(E:be->bf->Prop):Cx:={X with xe:=E}
noncomputable abbrev Cx.nox(X:Cx):Cx:=X.wish λ_ _=>False
def Cx.Ok.wish{X:Cx}(ok:X.Ok)(E:be->bf->Prop):(X.wish E).Ok:=
 ⟨ok.mod,ok.kind,ok.glob,ok.blt,ok.above,ok.inj,ok.has,ok.cab,ok.hd,ok.frames,ok.stk,ok.exf,ok.bs,ok.bsz,ok.noex,ok.exfs,ok.funs,ok.frf⟩
def Cx.Ok.unwish{X:Cx}{E:be->bf->Prop}(ok:(X.wish E).Ok):X.Ok:=
 ⟨ok.mod,ok.kind,ok.glob,ok.blt,ok.above,ok.inj,ok.has,ok.cab,ok.hd,ok.frames,ok.stk,ok.exf,ok.bs,ok.bsz,ok.noex,ok.exfs,ok.funs,ok.frf⟩
section
variable{X:Cx}{pins:List (Addr×bK)}{σ:St}{H:Hp}{s:bf}{E:be->bf->Prop}
def Inv.wish(I:Inv X pins σ H s)(E:be->bf->Prop):Inv (X.wish E) pins σ H s:=⟨I.ok.wish E,I.os,I.bare,I.base,I.loc,I.cell,I.free,I.freeC,I.pin,I.hok,I.len⟩
def Inv.unwish(I:Inv (X.wish E) pins σ H s):Inv X pins σ H s:=⟨I.ok.unwish,I.os,I.bare,I.base,I.loc,I.cell,I.free,I.freeC,I.pin,I.hok,I.len⟩
def SP.unwish(h:SP (X.wish E) pins D f s'):SP X pins D f s':=by
 cases f with
 |next=>obtain⟨σ',H',I,q⟩:=h;exact⟨σ',H',I.unwish,q⟩
 |brk=>obtain⟨σ',H',I,q⟩:=h;exact⟨σ',H',I.unwish,q⟩
 |cont=>obtain⟨σ',H',I,q⟩:=h;exact⟨σ',H',I.unwish,q⟩
 |ret u=>obtain⟨v,σ',H',I,r,q⟩:=h;exact⟨v,σ',H',I.unwish,r,q⟩
def PSs.nox{st:List Stmt}{t:TS}(h:PSs X.nox st t):PSs X st t:=λpins s σ H D I hw=>
 bE (h pins s σ H D (I.wish _) hw) (λ_ _ q=>q.unwish) λ_ _ z=>False.elim z
end
section
variable{X:Cx}{st:Stmt}{rest:List Stmt}{t u:TS}{e:bi}{te:TE}{pos:bG}
noncomputable def zhC:TS:=λD σ H=>D.nx σ H
noncomputable def zjx(t u:TS):TS:=λD σ H=>t {D with nx:=u D} σ H
def zcA:PSs X [] zhC:=λ_ _ σ H _ I h=>cy ⟨σ,H,I,h⟩
def zab(h1:PS X st t)(h2:PSs X rest u):PSs X (st::rest) (zjx t u):=by
 intro pins s σ H D I h
 refine dZ (thn (h1 pins s σ H {D with nx:=u D} I h) λf s1 q=> ?_)
 cases f with
 |next=>
  obtain⟨σ',H',I',q⟩:=q
  exact h2 pins s1 σ' H' D I' q
 |ret v=>exact q
 |brk=>exact q
 |cont=>exact q
def zcB(h1:PS X st t):PSs X [st] t:=by
 intro pins s σ H D I h
 refine dZ (thn (h1 pins s σ H D I h) λf s1 q=> ?_)
 cases f with
 |next=>exact cy q
 |ret v=>exact q
 |brk=>exact q
 |cont=>exact q
def Inv.quiet(I:Inv X pins σ H s):interactive X.env=false:=by simp[interactive,I.ok.kind]
noncomputable def zhD(te:TE):TS:=λD σ H=>te σ H λ_ H1=>D.nx σ H1
def zcC(he:PE X e te)(hs:bO e none pos.line X.env=pure false:=by rfl):PS X (.Expr e pos) (zhD te):=by
 intro pins s σ H D I h
 exact wpAny_Expr_any (thn (he pins s σ H _ I h) λv s1 ⟨x,H1,I1,r1,q1⟩=>⟨σ,H1,I1,q1⟩) I.quiet hs
noncomputable def zjy(te:TE):TS:=λD σ H=>te σ H D.rt
def zeE(he:PE X e te):PS X (.Return (some e) pos) (zjy te):=by
 intro pins s σ H D I h
 exact wpAny_Return_some (thn (he pins s σ H _ I h) λv s1 ⟨x,H1,I1,r1,q1⟩=>⟨x,σ,H1,I1,r1,q1⟩)
noncomputable def zjz(c:TT)(t u:TS):TS:=λD σ H=>c σ H λb H1=>if b=true then t D σ H1 else u D σ H1
def zhE{c:bi}{a b:List Stmt}{tc:TT}(hc:PT X c tc)(ha:PSs X a t)(hb:PSs X b u):PS X (.If c a b pos) (zjz tc t u):=by
 intro pins s σ H D I h
 refine wpAny_If (thn (hc pins s σ H _ I h) λd s1 ⟨H1,I1,q1⟩=> ?_)
 cases d with
 |true=>exact ha pins s1 σ H1 D I1 q1
 |false=>exact hb pins s1 σ H1 D I1 q1
end
noncomputable abbrev TG:=V->St->Hp->(St->Hp->Prop)->Prop
noncomputable abbrev TGs:=List V->St->Hp->(St->Hp->Prop)->Prop
noncomputable def PG(X:Cx)(target:bi)(t:TG):Prop:=
 ∀(pins:List (Addr×bK)) (s:bf) (σ:St) (H:Hp) (v:V) (u:be) (Q:St->Hp->Prop),Inv X pins σ H s->RelV v u->t v σ H Q->
  bj (bn X.prog X.w) X.A (cE target X.env u) (λ_ s'=> ∃σ' H',Inv X pins σ' H' s'/\Q σ' H') X.xe s
noncomputable def PGs(X:Cx)(ts:List bi)(t:TGs):Prop:=
 ∀(pins:List (Addr×bK)) (s:bf) (σ:St) (H:Hp) (vs:List V) (us:List be) (Q:St->Hp->Prop),Inv X pins σ H s->J4 vs us->t vs σ H Q->
  bj (bn X.prog X.w) X.A (assignInOrder ((bu ts X.env).map (·.2)) us) (λ_ s'=> ∃σ' H',Inv X pins σ' H' s'/\Q σ' H') X.xe s
noncomputable abbrev zhF:=V->V->V->Hp->(Hp->Prop)->Prop
noncomputable def zje(X:Cx)(t:zhF):Prop:=
 ∀(pins:List (Addr×bK)) (s:bf) (σ:St) (H:Hp) (o i v:V) (ov iv u:be) (Q:Hp->Prop),Inv X pins σ H s->RelV o ov->RelV i iv->RelV v u->t o i v H Q->
  bj (bn X.prog X.w) X.A (setItem ov iv u) (λ_ s'=> ∃H',Inv X pins σ H' s'/\Q H') X.xe s
noncomputable abbrev TIp:=V->V->Hp->VK->Prop
noncomputable def PIp(X:Cx)(op:fw)(t:TIp):Prop:=
 ∀(pins:List (Addr×bK)) (s:bf) (σ:St) (H:Hp) (x y:V) (v u:be) (Q:VK),Inv X pins σ H s->RelV x v->RelV y u->t x y H Q->
  bj (bn X.prog X.w) X.A (inplaceOp op v u) (EP X pins σ Q) X.xe s
section
variable{X:Cx}{pos:bG}
noncomputable def z72(i:Nat):TG:=λv σ H Q=>Q (σ.set i (some v)) H
def v5{i:Nat}(hN:X.N.Nodup)(hi:X.N[i]? =some x)(hx:Loc X.env.scope x)(hf:X.fn x=true\/X.env.scope.names.lookup x=some .local:=by first|exact .inl rfl|exact .inr rfl|assumption):PG X (.Name x pos) (z72 i):=by
 intro pins s σ H v u Q I r h
 exact wpAny_assign_Name (z3J I hN hi hx r (λs' I'=>⟨_,H,I',h⟩) hf)
noncomputable def zjA:TGs:=λvs σ H Q=>vs=[]/\Q σ H
noncomputable def zhG(t:TG)(u:TGs):TGs:=λvs σ H Q=> ∃v r,vs=v::r/\t v σ H λ σ' H'=>u r σ' H' Q
def zcD:PGs X [] zjA:=by
 intro pins s σ H vs us Q I r h
 obtain⟨e,h⟩:=h
 subst e
 cases r
 exact assignInOrder_nil ⟨σ,H,I,h⟩
def zac{e:bi}{es:List bi}{t:TG}{u:TGs}(h1:PG X e t)(h2:PGs X es u)
 (hs:(bu (e::es) X.env).map (·.2)=cE e X.env::(bu es X.env).map (·.2):=by rfl):PGs X (e::es) (zhG t u):=by
 intro pins s σ H vs us Q I r h
 obtain⟨v,vr,e1,h⟩:=h
 subst e1
 cases r with
 |cons r rr=>
  rw[hs]
  refine assignInOrder_cons (thn (h1 pins s σ H _ _ _ I r h) λ_ s1 ⟨σ1,H1,I1,q1⟩=> ?_)
  exact h2 pins s1 σ1 H1 _ _ Q I1 rr q1
noncomputable def zjB(K:W.Frag)(n:Nat)(t:TGs):TG:=λv σ H Q=> ∃a xs,v= .ref a/\SqT K H a xs/\xs.length=n/\t xs σ H Q
def zeF{k:Nat}{n:Nat}(hc:X.calm=true)(h:PGs X es t)
 (hn:(bu es X.env).length=n:=by rfl) (hst:(bu es X.env).findIdx? (·.1)=none:=by rfl):PG X (.Tuple es k pos) (zjB X.K n t):=by
 intro pins s σ H v u Q I r hw
 obtain⟨a,xs,e1,hq,hl,hw⟩:=hw
 subst e1
 cases r
 obtain⟨its,rv,ht,hz⟩:=I.tuple hq
 refine assign_Tuple_tuple (I.ok.hd hc) ht (by simp[hn,<-hl,rv.length]) hst λh' hx=> ?_
 have I1:Inv X pins σ H {s with heap:=h'}:=I.kept (t':=s.toks) λb o e=>hx b o (B1 (Heap.lt_size e)) e
 exact h pins _ σ H xs _ Q I1 (by simpa using rv) hw
noncomputable def zhH(to ti:TE)(t:zhF):TG:=λv σ H Q=>to σ H λo H1=>ti σ H1 λi H2=>t o i v H2 λH3=>Q σ H3
def zbx{o i:bi}{to ti:TE}{t:zhF}(ho:PE X o to)(hi:PE X i ti)(hs:zje X t)
 (ha: ∀v,cE (.Subscript o i pos) X.env v=(do
  let ov<-dM [v] (bB o X.env)
  let iv<-dM [v,ov] (bB i X.env)
  fK pos
  dM [v,ov,iv] (setItem ov iv v)
  release [v,ov,iv] []):=by intro _;rfl):PG X (.Subscript o i pos) (zhH to ti t):=by
 intro pins s σ H v u Q I r h
 rw[ha]
 refine bb (br (thn (ho pins s σ H _ I h) λov s1 ⟨x,H1,I1,r1,q1⟩=> ?_))
 refine bb (br (thn (hi pins s1 σ H1 _ I1 q1) λiv s2 ⟨y,H2,I2,r2,q2⟩=> ?_))
 refine bb (cJ (bb (br (thn (hs pins s2 σ H2 x y v ov iv u _ I2 r1 r2 r q2) λ_ s3 ⟨H3,I3,q3⟩=> ?_))))
 exact wpAny_release ⟨σ,H3,I3,q3⟩
noncomputable def zhl(te:TE)(g:TG):TS:=λD σ H=>te σ H λx H1=>g x σ H1 D.nx
def zby{tg e:bi}{te:TE}{g:TG}(he:PE X e te)(hg:PG X tg g)(hs:cu [tg] e pos.line X.env=pure false:=by rfl)(hw:cw [tg] e X.env=pure none:=by rfl)
 (h1:(bu [tg] X.env).map (·.2)=[cE tg X.env]:=by rfl):PS X (.Assign [tg] e pos) (zhl te g):=by
 intro pins s σ H D I h
 refine wpAny_Assign_stores (thn (he pins s σ H _ I h) λv s1 ⟨x,H1,I1,r1,q1⟩=> ?_) hs hw
 rw[h1]
 exact thn (hg pins s1 σ H1 x v _ I1 r1 q1) λ_ s2 q=>q
def z2j{i:Nat}{x:Str}{e:bi}{te:TE}{pos':bG}(hN:X.N.Nodup)(hi:X.N[i]? =some x)(hx:Loc X.env.scope x)(he:PE X e te)(hs:bO e (some (.Name x pos')) pos.line X.env=pure false:=by rfl)(hf:X.fn x=true\/X.env.scope.names.lookup x=some .local:=by first|exact .inl rfl|exact .inr rfl|assumption):
 PS X (.Assign [.Name x pos'] e pos) (zhl te (z72 i)):=by
 intro pins s σ H D I h
 refine wpAny_Assign_Name (thn (he pins s σ H _ I h) λv s1 ⟨y,H1,I1,r1,q1⟩=> ?_) hs
 exact z3J I1 hN hi hx r1 (λs2 I2=>⟨_,H1,I2,q1⟩) hf
noncomputable def zjC(i:Nat)(te:TE)(ti:TIp):TS:=λD σ H=> ∃x,σ[i]? =some (some x)/\te σ H λy H1=>ti x y H1 λz H2=>D.nx (σ.set i (some z)) H2
def zeG{i:Nat}{x:Str}{e:bi}{te:TE}{op:fw}{ti:TIp}{pos':bG}(hN:X.N.Nodup)(hi:X.N[i]? =some x)(hx:Loc X.env.scope x)(he:PE X e te)(ho:PIp X op ti)(hf:X.fn x=true\/X.env.scope.names.lookup x=some .local:=by first|exact .inl rfl|exact .inr rfl|assumption):
 PS X (.AugAssign (.Name x pos') op e pos) (zjC i te ti):=by
 intro pins s σ H D I h
 obtain⟨v,e1,h⟩:=h
 obtain⟨m,hn,hl⟩:=I.loc
 have vis:Vis X.env.scope x:=by rcases hx with k|k;exact .inl k;exact .inr (.inl k)
 obtain⟨u,r,l⟩:=hl i x v hi e1 vis
 refine wpAny_AugAssign_Name ?_
 have go:bj (bn X.prog X.w) X.A (bB e X.env) (λw s₂=>bj (bn X.prog X.w) X.A (inplaceOp op u w) (λr s₃=>bj (bn X.prog X.w) X.A (fF X.env x r) (λ_=>SP X pins D .next) X.xe s₃) X.xe s₂) X.xe s:=by
  refine thn (he pins s σ H _ I h) λw s1 ⟨y,H1,I1,r1,q1⟩=> ?_
  refine thn (ho pins s1 σ H1 v y u w _ I1 r r1 q1) λz s2 ⟨zv,H2,I2,r2,q2⟩=> ?_
  exact z3J I2 hN hi hx r2 (λs3 I3=>⟨_,H2,I3,q2⟩) hf
 rcases l with⟨hk,hm⟩|⟨hk,c,hc,hcell⟩
 .exact dg I.ok.kind hk hn hm go
 .rcases hk with hk|hk
  .exact dA I.ok.kind hk hc hcell go
  .rcases hx with k|k
   .have:X.env.scope.names.lookup x=some .free:=hk
    rw[k] at this;cases this
   .have:X.env.scope.names.lookup x=some .free:=hk
    rw[k] at this;cases this
noncomputable def ipI(f:Int->Int->Int):TIp:=λx y H Q=> ∃i j,x= .int i/\y= .int j/\Q (.int (f i j)) H
def zeH:PIp X .Add (ipI λi j=>i+j):=by
 intro pins s σ H x y v u Q I r1 r2 h
 obtain⟨i,j,e1,e2,q⟩:=h
 subst e1;subst e2
 obtain⟨t,rfl⟩:=r1
 obtain⟨t',rfl⟩:=r2
 exact iadd_int ⟨.int _,H,I.tok _,⟨_,rfl⟩,q⟩
noncomputable def zeI(c:TT)(tb:TS):TS:=λD σ H=> ∃W:Nat->St->Hp->Prop,(∃m,W m σ H)/\∀m σ H,W m σ H->
 c σ H λb H1=>if b=true then ∃N:St->Hp->Prop,(∀σ' H',N σ' H'->∃m',m'<m/\W m' σ' H')/\tb {D with nx:=N,ct:=N,bk:=D.nx} σ H1 else D.nx σ H1
def zad(hp:cq (bn X.prog X.w) X.A X.env X.xe)(hc:PT X c tc)(hb:PSs X body tb):PS X (.While c body [] pos) (zeI tc tb):=by
 intro pins s σ H D I h
 obtain⟨W,⟨m0,w0⟩,turn⟩:=h
 refine wpAny_While (codeAny_whileLoop (λn s'=> ∃σ' H',Inv X pins σ' H' s'/\W n σ' H') ?_ m0 ⟨σ,H,I,w0⟩)
 rintro n s1 ⟨σ1,H1,I1,w1⟩
 refine bQ hp (thn (hc pins s1 σ1 H1 _ I1 (turn n σ1 H1 w1)) λb s2 ⟨H2,I2,q2⟩=> ?_)
 cases b with
 |true=>
  obtain⟨N,hN,q2⟩:=q2
  rw[if_pos rfl]
  refine bQ hp (thn (hb pins s2 σ1 H2 _ I2 q2) λf s3 q3=> ?_)
  cases f with
  |next=>
   obtain⟨σ3,H3,I3,n3⟩:=q3
   obtain⟨m',hm,w3⟩:=hN σ3 H3 n3
   exact⟨m',hm,σ3,H3,I3,w3⟩
  |cont=>
   obtain⟨σ3,H3,I3,n3⟩:=q3
   obtain⟨m',hm,w3⟩:=hN σ3 H3 n3
   exact⟨m',hm,σ3,H3,I3,w3⟩
  |brk=>exact q3
  |ret v=>exact q3
 |false=>
  rw[if_neg A9]
  exact cy ⟨σ1,H2,I2,q2⟩
end
structure It where
 go:Nat->Hp->Prop
 yld:Nat->Hp->V->Hp->Prop
 stop:Nat->Hp->Prop
noncomputable def z7K(X:Cx)(pins:List (Addr×bK))(H:Hp)(b:Addr):Prop:=
 H b=none/\b≠X.env.locals/\b∉X.fs/\(b∈X.ex\/X.s₀.heap.objs.size<=b)/\(∀x c,X.env.cells.lookup x=some c->c≠b)/\∀p∈X.pn++pins,p.1≠b
def Inv.fpOk{s:bf}(I:Inv X pins σ H s)(hb:s.heap.objs.size<=b)(hn:H' b=none):z7K X pins H' b:=by
 refine⟨hn,O2 (A8 I.lt hb),I.nofs hb, .inr (C1 I.sz hb),λx c e z=> ?_,λp hp z=> ?_⟩
 .obtain⟨v,q⟩:=I.cell x c e
  exact absurd (A8 q.lt (by rw[z];exact hb)) (D8 _)
 .exact absurd (A8 (Heap.lt_size (I.pin p hp).1) (by rw[z];exact hb)) (D8 _)
structure zee(P:bm)(w:bo)(K:W.Frag)(tg:bi)(J:It)(fp:List Addr)(it:Addr)(tn:Nat->Heap->Prop):Prop where
 mem:it∈fp
 obj: ∀i h,tn i h->∀b∈fp,∃o,h.get? b=some o/\∀v,o.data≠ .cell v
 keep: ∀i h h',tn i h->(∀b∈fp,∀o,h.get? b=some o->h'.get? b=some o)->tn i h'
 item: ∀(X:Cx),X.prog=P->X.w=w->X.K=K->X.calm=true->∀(i:Nat) (pins:List (Addr×bK)) (s:bf) (σ:St) (H:Hp) (E:be->bf->Prop),Inv X pins σ H s->(∀b∈fp,z7K X pins H b)->tn i s.heap->J.go i H->
  bj (bn P w) X.A (cF (.ref it)) (λr s1=> ∃u,r=some u/\
   bj (bn P w) X.A (cz tg (.ref it) u) (λ_ s2=> ∃x H',Inv X pins σ H' s2/\RelV x u/\J.yld i H x H'/\tn (i+1) s2.heap/\∀b∈fp,H' b=none) E s1) E s
 done: ∀(X:Cx),X.prog=P->X.w=w->X.K=K->X.calm=true->∀(i:Nat) (pins:List (Addr×bK)) (s:bf) (σ:St) (H:Hp) (E:be->bf->Prop),Inv X pins σ H s->(∀b∈fp,z7K X pins H b)->tn i s.heap->J.stop i H->
  bj (bn P w) X.A (cF (.ref it)) (λr s1=>r=none/\Inv X pins σ H s1) E s
 self: ∀(A:bq) (i:Nat) (s:bf) (Q:be->bf->Prop) (E:be->bf->Prop),tn i s.heap->Q (.ref it) s->bj (bn P w) A (fM (.ref it)) Q E s
noncomputable abbrev TI:=St->Hp->(It->Hp->Prop)->Prop
noncomputable def PIE(X:Cx)(pins:List (Addr×bK))(σ:St)(tg:bi)(R:It->Hp->Prop)(itv:be)(s2:bf):Prop:=
 ∃(it:Addr) (fp:List Addr) (tn:Nat->Heap->Prop) (J:It) (H':Hp),itv= .ref it/\Inv X pins σ H' s2/\zee X.prog X.w X.K tg J fp it tn/\tn 0 s2.heap/\(∀b∈fp,z7K X pins H' b)/\R J H'
noncomputable def PI(X:Cx)(tg iter:bi)(wi:TI):Prop:=
 ∀(pins:List (Addr×bK)) (s:bf) (σ:St) (H:Hp) (R:It->Hp->Prop),Inv X pins σ H s->wi σ H R->
  bj (bn X.prog X.w) X.A (bB iter X.env) (λv s1=>bj (bn X.prog X.w) X.A (fM v) (PIE X pins σ tg R) X.xe s1) X.xe s
def zae{M:Model}{A:bq}{E:be->bf->Prop}{s:bf}{tg:bi}{u:be}{o:bK}{Q:Unit->bf->Prop}(ho:s.heap.get? it=some o)(hc:o.cls= .type n)(hd:o.data= .fields vs)
 (hn:["enumerate", "zip", "dict_itemiterator", "dict_reverseitemiterator", "odict_iterator", "itertools.zip_longest", "itertools.pairwise"].contains n=false) (hQ:Q () s):bj M A (cz tg (.ref it) u) Q E s:=by
 unfold cz
 cases tg<;>first
  |exact bg hQ
  |(cases u<;>first
   |exact bg hQ
   |(refine bb (fx ho ?_)
     rw[hc,hd]
     show bj M A (if(["enumerate", "zip", "dict_itemiterator", "dict_reverseitemiterator", "odict_iterator", "itertools.zip_longest", "itertools.pairwise"].contains n&&vs[0]? ==some (dh _))=true then _ else _) Q E s
     rw[if_neg (by intro h;rw[hn,S7] at h;cases h)]
     exact bg hQ))
noncomputable def Itl(K:W.Frag)(a:Addr):It:=
 ⟨λi H=> ∃xs x,SqL K H a xs/\xs[i]? =some x,λi H x H'=>H'=H/\∀xs,SqL K H a xs->xs[i]? =some x,λi H=> ∃xs,SqL K H a xs/\xs.length<=i⟩
noncomputable def Itt(K:W.Frag)(a:Addr):It:=
 ⟨λi H=> ∃xs x,SqT K H a xs/\xs[i]? =some x,λi H x H'=>H'=H/\∀xs,SqT K H a xs->xs[i]? =some x,λi H=> ∃xs,SqT K H a xs/\xs.length<=i⟩
noncomputable def Itr(lo:Int)(n:Nat):It:=⟨λi _=>i<n,λi H x H'=>H'=H/\x= .int (lo+i),λi _=>n<=i⟩
def z7V{P:bm}{w:bo}{K:W.Frag}{tg:bi}(a it:Addr):zee P w K tg (Itl K a) [it] it (λi h=>h.IsListIter it a i) where
 mem:=by simp
 obj:=λi h st b hb=>by
  have e:b=it:=by simpa using hb
  subst e
  obtain⟨o,e,c,d⟩:=st
  exact⟨o,e,λv z=>by rw[d] at z;cases z⟩
 keep:=λi h h' st k=>st.at λo e=>k it (by simp) o e
 item:=by
  intro X hP hw hK hc i pins s σ H E I hf st hg
  subst hP hw hK
  obtain⟨xs,x,hq,hx⟩:=hg
  obtain⟨its,rv,p,hz⟩:=I.list hq
  obtain⟨u,hu,ru⟩:=rv.get hx
  obtain⟨f0,f1,f2,f3,f4,f5⟩:=hf it (by simp)
  refine cP st p.isList (x:=u) (by simpa using hu) λh' st' sb=> ?_
  have I1:Inv X pins σ H {s with heap:=h'}:=I.turned (t':=s.toks) (λb o hb e=>(sb.2 b hb).trans e) f0 f1 f3 f4 f5
  obtain⟨o,e,c,d⟩:=id st'
  exact⟨u,rfl,zae (s:={s with heap:=h'}) e c d (by decide) ⟨x,H,I1,ru,⟨rfl,λys hy=>by rw[I.list_inj hy hq];exact hx⟩,st',λb hb=>(hf b hb).1⟩⟩
 done:=by
  intro X hP hw hK hc i pins s σ H E I hf st hg
  subst hP hw hK
  obtain⟨xs,hq,hx⟩:=hg
  obtain⟨its,rv,p,hz⟩:=I.list hq
  obtain⟨f0,f1,f2,f3,f4,f5⟩:=hf it (by simp)
  have hl:=rv.length
  exact cZ (I.ok.hd hc) st p.isList (by simp;lia) λh' eb=>⟨rfl,I.turned (t':=s.toks) (λb o hb e=>eb b o hb e) f0 f1 f3 f4 f5⟩
 self:=λ_ _ _ _ _ st h=>wpAny_pyIter_listiter st h
def z73{P:bm}{w:bo}{K:W.Frag}{tg:bi}(a it:Addr):zee P w K tg (Itt K a) [it] it (λi h=>h.IsTupleIter it a i) where
 mem:=by simp
 obj:=λi h st b hb=>by
  have e:b=it:=by simpa using hb
  subst e
  obtain⟨o,e,c,d⟩:=st
  exact⟨o,e,λv z=>by rw[d] at z;cases z⟩
 keep:=λi h h' st k=>st.at λo e=>k it (by simp) o e
 item:=by
  intro X hP hw hK hc i pins s σ H E I hf st hg
  subst hP hw hK
  obtain⟨xs,x,hq,hx⟩:=hg
  obtain⟨its,rv,p,hz⟩:=I.tuple hq
  obtain⟨u,hu,ru⟩:=rv.get hx
  obtain⟨f0,f1,f2,f3,f4,f5⟩:=hf it (by simp)
  refine wpAny_pyNext_tuple_item st (show s.heap.IsTuple a its.toArray from p) (x:=u) (by simpa using hu) λh' st' sb=> ?_
  have I1:Inv X pins σ H {s with heap:=h'}:=I.turned (t':=s.toks) (λb o hb e=>(sb.2 b hb).trans e) f0 f1 f3 f4 f5
  obtain⟨o,e,c,d⟩:=id st'
  exact⟨u,rfl,zae (s:={s with heap:=h'}) e c d (by decide) ⟨x,H,I1,ru,⟨rfl,λys hy=>by rw[I.tuple_inj hy hq];exact hx⟩,st',λb hb=>(hf b hb).1⟩⟩
 done:=by
  intro X hP hw hK hc i pins s σ H E I hf st hg
  subst hP hw hK
  obtain⟨xs,hq,hx⟩:=hg
  obtain⟨its,rv,p,hz⟩:=I.tuple hq
  obtain⟨f0,f1,f2,f3,f4,f5⟩:=hf it (by simp)
  have hl:=rv.length
  exact wpAny_pyNext_tuple_end (I.ok.hd hc) st (show s.heap.IsTuple a its.toArray from p) (by simp;lia) λh' eb=>⟨rfl,I.turned (t':=s.toks) (λb o hb e=>eb b o hb e) f0 f1 f3 f4 f5⟩
 self:=λ_ _ _ _ _ st h=>wpAny_pyIter_tupleiter st h
def z74{P:bm}{w:bo}{K:W.Frag}{tg:bi}(it:Addr)(lo:Int)(n:Nat):zee P w K tg (Itr lo n) [it] it (λi h=>IsRangeIter h it (lo+(i:Nat)*1) ((n:Int) -(i:Nat)) 1) where
 mem:=by simp
 obj:=λi h st b hb=>by
  have e:b=it:=by simpa using hb
  subst e
  exact⟨_,st,λv z=>by
   have z':Data.fields _=Data.cell v:=z
   cases z'⟩
 keep:=λi h h' st k=>k it (by simp) _ st
 item:=by
  intro X hP hw hK hc i pins s σ H E I hf st hg
  subst hP hw hK
  obtain⟨f0,f1,f2,f3,f4,f5⟩:=hf it (by simp)
  have W:=Walks.range (prog:=X.prog) (w:=X.w) (I.ok.hd hc) it lo 1 n
  refine W.item i s _ _ hg st λv h' tk hv st' kk=> ?_
  obtain⟨t,rfl⟩:=hv
  have I1:Inv X pins σ H {s with heap:=h',toks:=tk}:=I.turned (λb o hb e=>kk b o (by simpa using hb) e) f0 f1 f3 f4 f5
  refine⟨_,rfl,zae (s:={s with heap:=h',toks:=tk}) (n:= "range_iterator") st' rfl rfl (by decide) ⟨.int (lo+i),H,I1,⟨t, ?_⟩,⟨rfl,rfl⟩,st',λb hb=>(hf b hb).1⟩⟩
  rw[Int.mul_one]
 done:=by
  intro X hP hw hK hc i pins s σ H E I hf st hg
  subst hP hw hK
  obtain⟨f0,f1,f2,f3,f4,f5⟩:=hf it (by simp)
  exact wpAny_pyNext_range_end (I.ok.hd hc) st (by have:n<=i:=hg;lia) λh' eb=>⟨rfl,I.turned (t':=s.toks) (λb o hb e=>eb b o hb e) f0 f1 f3 f4 f5⟩
 self:=λ_ _ _ _ _ st h=>wpAny_pyIter_rangeiter st h
section
variable{X:Cx}{tg:bi}
def z6m{R:It->Hp->Prop}{E:be->bf->Prop}{lo hi:Int}{t u v:Tok}{tk:Nat}(I:Inv X pins σ H s)(h1: -(2^62)<=lo)(h2:lo<2^62)(h3: -(2^62)<=hi)(h4:hi<2^62)
 (q:R (Itr lo (hi -lo).toNat) H):bj (bn X.prog X.w) X.A (fM (.ref s.heap.objs.size)) (PIE X pins σ tg R) E {s with heap:=s.heap.push {cls:= .type "range",data:= .fields #[.int lo t, .int hi u, .int 1 v]},toks:=tk}:=by
 refine wpAny_pyIter_range (IsRange.new ..) (small_one h1 h2 h3 h4) ?_
 have I1:Inv X pins σ H {s with heap:=s.heap.push {cls:= .type "range",data:= .fields #[.int lo t, .int hi u, .int 1 v]},toks:=tk}:=I.kept λb o e=>Heap.get?_push_of_some _ e
 refine⟨(s.heap.push {cls:= .type "range",data:= .fields #[.int lo t, .int hi u, .int 1 v]}).objs.size,[(s.heap.push {cls:= .type "range",data:= .fields #[.int lo t, .int hi u, .int 1 v]}).objs.size],_,_,H,rfl,
  I1.kept (t':=tk) λb o e=>Heap.get?_push_of_some _ e,z74 _ lo (hi -lo).toNat, ?_,λb hb=> ?_,q⟩
 .have e1:lo+((0:Nat):Int)*1=lo:=by simp
  have e2:(((hi -lo).toNat:Nat):Int) -((0:Nat):Int)=Builtin.Range.rangeSize lo hi 1:=by rw[rangeSize_one];split<;>lia
  show IsRangeIter _ _ (lo+((0:Nat):Int)*1) ((((hi -lo).toNat:Nat):Int) -((0:Nat):Int)) 1
  rw[e1,e2]
  exact Heap.get?_push_size _ rfl
 .have e:b=(s.heap.push {cls:= .type "range",data:= .fields #[.int lo t, .int hi u, .int 1 v]}).objs.size:=by simpa using hb
  subst e
  exact I1.fpOk (i7 _) (I1.hok.fresh (i7 _))
noncomputable def zhI(ta:TA):TI:=λ σ H R=>ta σ H λvs H1=> ∃j:Int,vs=[.int j]/\-(2^62)<=j/\j<2^62/\R (Itr 0 j.toNat) H1
noncomputable def zhJ(ta:TA):TI:=λ σ H R=>ta σ H λvs H1=> ∃i j:Int,vs=[.int i, .int j]/\(-(2^62)<=i/\i<2^62/\-(2^62)<=j/\j<2^62)/\R (Itr i (j -i).toNat) H1
def z7W{p pos:bG}(hg:Gl X "range")(hm:X.mg "range" =none)(ha:PA X [a] ta)(hs:bh [a] X.env=[(false,bB a X.env)]:=by rfl):PI X tg (.Call (.Name "range" p) [a] [] pos) (zhI ta):=by
 intro pins s σ H R I h
 refine Call_ (z4E I hg hm boot_range (PyProof.Rows.callWith_type1 (thn (ha pos pins s σ H _ I h) λus s1 ⟨vs,H1,I1,r1,q1⟩=> ?_) hs rfl))
 obtain⟨j,e,q1,q2,q⟩:=q1
 subst e
 cases r1 with
 |cons r rr=>
  cases rr
  obtain⟨t,rfl⟩:=r
  exact call_range_1 (z6m I1 (by lia) (by lia) q1 q2 (by simpa using q))
def z7X{p pos:bG}(hg:Gl X "range")(hm:X.mg "range" =none)(ha:PA X [a,b] ta)(hs:bh [a,b] X.env=[(false,bB a X.env),(false,bB b X.env)]:=by rfl)(hs2:bh [b] X.env=[(false,bB b X.env)]:=by rfl):
 PI X tg (.Call (.Name "range" p) [a,b] [] pos) (zhJ ta):=by
 intro pins s σ H R I h
 refine Call_ (z4E I hg hm boot_range (PyProof.Rows.callWith_type1 (thn (ha pos pins s σ H _ I h) λus s1 ⟨vs,H1,I1,r1,q1⟩=> ?_) (by rw[hs,hs2]) (by rw[hs2];rfl)))
 obtain⟨i,j,e,⟨q1,q2,q3,q4⟩,q⟩:=q1
 subst e
 cases r1 with
 |cons r rr=>
  cases rr with
  |cons r' rr=>
   cases rr
   obtain⟨t,rfl⟩:=r
   obtain⟨t',rfl⟩:=r'
   exact call_range_2 (z6m I1 q1 q2 q3 q4 q)
noncomputable def zjD(wi:TI)(g:TG)(tb:TS):TS:=λD σ H=>wi σ H λJ H1=> ∃W:Nat->Nat->St->Hp->Prop,(∃m,W 0 m σ H1)/\∀i m σ H,W i m σ H->
 (J.stop i H/\D.nx σ H)\/(J.go i H/\∃N:St->Hp->Prop,(∀σ' H',N σ' H'->∃m',m'<m/\W (i+1) m' σ' H')/\∀x H',J.yld i H x H'->g x σ H' λ σ2 H2=>tb {D with nx:=N,ct:=N,bk:=D.nx} σ2 H2)
noncomputable def z6n(fp:List Addr)(h:Heap):List (Addr×bK):=fp.filterMap λb=>(h.get? b).map λo=>(b,o)
def X7{h:Heap}(hb:b∈fp)(e:h.get? b=some o):(b,o)∈z6n fp h:=T1.mpr ⟨b,hb,by rw[e];rfl⟩
def z7Y{h:Heap}{p:Addr×bK}(hp:p∈z6n fp h):p.1∈fp/\h.get? p.1=some p.2:=by
 obtain⟨b,hb,e⟩:=T1.mp hp
 cases q:h.get? b with
 |none=>rw[q] at e;cases e
 |some o=>
  rw[q] at e
  have e':(b,o)=p:=Option.some.inj e
  subst e'
  exact⟨hb,q⟩
def Inv.pinned{s:bf}(I:Inv X pins σ H s)(hf: ∀b∈fp,z7K X pins H b)(ho: ∀b∈fp,∃o,s.heap.get? b=some o/\∀v,o.data≠ .cell v):Inv X (pins++z6n fp s.heap) σ H s:=
 I.pins_of λp hp=>(l4.mp hp).elim (λz=>I.pin p (i4 _ z)) λz=>by
  obtain⟨hb,e⟩:=z7Y z
  obtain⟨f0,f1,f2,_⟩:=hf p.1 hb
  obtain⟨o,e',d⟩:=ho p.1 hb
  rw[e] at e';cases e'
  exact⟨e,f0,f1,f2,d⟩
def Inv.unpinned(I:Inv X (pins++pl) σ H s):Inv X pins σ H s:=I.pins_of λp hp=>I.pin p (i4 _ (i8 _ hp))
def zbz{pos:bG}(hp:cq (bn X.prog X.w) X.A X.env X.xe)(hc:X.calm=true)(hi:PI X tg iter wi)(hg:PG X tg g)(hb:PSs X body tb)
 (hs: ∀x,bw iter X.env x=pure x:=by intro _;rfl):PS X (.For tg iter body [] pos) (zjD wi g tb):=by
 intro pins s σ H D I h
 refine wpAny_For (thn (hi pins s σ H _ I h) λv s1 h1=>thn h1 λitv s2 h2=> ?_) hs
 obtain⟨it,fp,tn,J,H2,e,I2,T,st2,f2,W,⟨m0,w0⟩,turn⟩:=h2
 subst e
 have stat: ∀{H':Hp},(∀b∈fp,H' b=none)->∀b∈fp,z7K X pins H' b:=λhn b hb=>⟨hn b hb,(f2 b hb).2⟩
 refine codeAny_forLoop_any (λn s'=> ∃i σ' H',Inv X pins σ' H' s'/\tn i s'.heap/\(∀b∈fp,H' b=none)/\W i n σ' H') ?_ m0 ⟨0,σ,H2,I2,st2,λb hb=>(f2 b hb).1,w0⟩
 rintro n s3 ⟨i,σ3,H3,I3,st3,fr3,w3⟩
 rcases turn i n σ3 H3 w3 with⟨stop,qn⟩|⟨go,N,hN,step⟩
 .refine bQ hp (thn (T.done X rfl rfl rfl hc i pins s3 σ3 H3 X.xe I3 (stat fr3) st3 stop) λr s4 ⟨hr,I4⟩=> ?_)
  subst hr
  exact cy ⟨σ3,H3,I4,qn⟩
 .refine bQ hp (thn (T.item X rfl rfl rfl hc i pins s3 σ3 H3 X.xe I3 (stat fr3) st3 go) λr s4 ⟨u,hr,h4⟩=> ?_)
  subst hr
  refine bQ hp (thn h4 λ_ s5 ⟨x,H5,I5,r5,y5,st5,fr5⟩=> ?_)
  have I5':=I5.pinned (stat fr5) (T.obj _ _ st5)
  refine bQ hp (thn (hg _ s5 σ3 H5 x u _ I5' r5 (step x H5 y5)) λ_ s6 ⟨σ6,H6,I6,q6⟩=> ?_)
  refine bQ hp (thn (hb _ s6 σ6 H6 _ I6 q6) λf s7 q7=> ?_)
  have again: ∀{σ7:St} {H7:Hp},Inv X (pins++z6n fp s5.heap) σ7 H7 s7->N σ7 H7->∃m,m<n/\∃i σ' H',Inv X pins σ' H' s7/\tn i s7.heap/\(∀b∈fp,H' b=none)/\W i m σ' H':=λ{σ7 H7} I7 n7=>by
   obtain⟨m',hm,w7⟩:=hN σ7 H7 n7
   refine⟨m',hm,i+1,σ7,H7,I7.unpinned,T.keep _ _ _ st5 λb hb o e=>(I7.pin (b,o) (i4 _ (i4 _ (X7 hb e)))).1,λb hb=> ?_,w7⟩
   obtain⟨o,e,d⟩:=T.obj _ _ st5 b hb
   exact(I7.pin (b,o) (i4 _ (i4 _ (X7 hb e)))).2.1
  cases f with
  |next=>obtain⟨σ7,H7,I7,n7⟩:=q7;exact again I7 n7
  |cont=>obtain⟨σ7,H7,I7,n7⟩:=q7;exact again I7 n7
  |brk=>obtain⟨σ7,H7,I7,q7⟩:=q7;exact⟨σ7,H7,I7.unpinned,q7⟩
  |ret v=>obtain⟨x7,σ7,H7,I7,r7,q7⟩:=q7;exact⟨x7,σ7,H7,I7.unpinned,r7,q7⟩
end
noncomputable abbrev R2:=V->V->Hp->VK->Prop
noncomputable def OpR(X:Cx)(f:be->be->Sem be)(r:R2):Prop:=
 ∀(pins:List (Addr×bK)) (s:bf) (σ:St) (H:Hp) (x y:V) (v u:be) (Q:VK),Inv X pins σ H s->RelV x v->RelV y u->r x y H Q->
  bj (bn X.prog X.w) X.A (f v u) (EP X pins σ Q) X.xe s
noncomputable def UnR(X:Cx)(f:be->Sem be)(r:V->Hp->VK->Prop):Prop:=
 ∀(pins:List (Addr×bK)) (s:bf) (σ:St) (H:Hp) (x:V) (v:be) (Q:VK),Inv X pins σ H s->RelV x v->r x H Q->
  bj (bn X.prog X.w) X.A (f v) (EP X pins σ Q) X.xe s
noncomputable def CallR(X:Cx)(f:be)(r:List V->Hp->VK->Prop):Prop:=
 ∀(pins:List (Addr×bK)) (s:bf) (σ:St) (H:Hp) (xs:List V) (us:List be) (Q:VK),Inv X pins σ H s->J4 xs us->r xs H Q->
  bj (bn X.prog X.w) X.A (call f us) (EP X pins σ Q) X.xe s
noncomputable def zjE(X:Cx)(r:V->Hp->(Bool->Hp->Prop)->Prop):Prop:=
 ∀(pins:List (Addr×bK)) (s:bf) (σ:St) (H:Hp) (x:V) (v:be) (Q:Bool->Hp->Prop),Inv X pins σ H s->RelV x v->r x H Q->
  bj (bn X.prog X.w) X.A (truthy v) (TP X pins σ Q) X.xe s
noncomputable def tOp(r:R2)(ta tb:TE):TE:=λ σ H Q=>ta σ H λx H1=>tb σ H1 λy H2=>r x y H2 Q
noncomputable def rI(C:Int->Int->Prop)(g:Int->Int->V):R2:=λx y H Q=> ∃i j,x= .int i/\y= .int j/\C i j/\Q (g i j) H
noncomputable def rI0(g:Int->Int->V):R2:=λx y H Q=> ∃i j,x= .int i/\y= .int j/\Q (g i j) H
noncomputable def rU(g:Int->V):V->Hp->VK->Prop:=λx H Q=> ∃i,x= .int i/\Q (g i) H
section
variable{X:Cx}{a b c:bi}{ta tb tc:TE}{pos:bG}
def zhK(ha:PE X a ta)(hb:PE X b tb){R:V->V->Hp->Prop}(I:Inv X pins σ H s)
 (h:ta σ H λx H1=>tb σ H1 λy H2=>R x y H2) {Q:be->bf->Prop} {f:be->be->Sem be}
 (hf: ∀v u s2 x y H2,Inv X pins σ H2 s2->RelV x v->RelV y u->R x y H2->bj (bn X.prog X.w) X.A (f v u) Q X.xe s2):
 bj (bn X.prog X.w) X.A (bB a X.env) (λv s₁=>bj (bn X.prog X.w) X.A (bB b X.env) (λu s₂=>bj (bn X.prog X.w) X.A (f v u) Q X.xe s₂) X.xe s₁) X.xe s:=by
 refine thn (ha pins s σ H _ I h) λv s1 ⟨x,H1,I1,r1,q1⟩=> ?_
 refine thn (hb pins s1 σ H1 _ I1 q1) λu s2 ⟨y,H2,I2,r2,q2⟩=> ?_
 exact hf v u s2 x y H2 I2 r1 r2 q2
def zhL(ho:OpR X (bW op) r)(ha:PE X a ta)(hb:PE X b tb):PE X (.BinOp a op b pos) (tOp r ta tb):=by
 intro pins s σ H Q I h
 exact wpAny_BinOp (zhK ha hb I h λv u s2 x y H2 I2 rx ry q=>ho pins s2 σ H2 x y v u Q I2 rx ry q)
def opI{f:be->be->Sem be}{C:Int->Int->Prop}{g:Int->Int->Int}
 (rule: ∀(i j:Int) (t u:Tok) (s:bf) (Q:be->bf->Prop) (E:be->bf->Prop),C i j->Q (.int (g i j) s.toks) {s with toks:=s.toks+1}->bj (bn X.prog X.w) X.A (f (.int i t) (.int j u)) Q E s):
 OpR X f (rI C λi j=> .int (g i j)):=by
 intro pins s σ H x y v u Q I rx ry h
 obtain⟨i,j,rfl,rfl,hc,q⟩:=h
 obtain⟨t,rfl⟩:=rx
 obtain⟨t',rfl⟩:=ry
 exact rule i j t t' s _ _ hc ⟨.int (g i j),H,I.tok _,⟨_,rfl⟩,q⟩
def zjF{f:be->be->Sem be}{g:Int->Int->Int}
 (rule: ∀(i j:Int) (t u:Tok) (s:bf) (Q:be->bf->Prop) (E:be->bf->Prop),Q (.int (g i j) s.toks) {s with toks:=s.toks+1}->bj (bn X.prog X.w) X.A (f (.int i t) (.int j u)) Q E s):
 OpR X f (rI0 λi j=> .int (g i j)):=by
 intro pins s σ H x y v u Q I rx ry h
 obtain⟨i,j,rfl,rfl,q⟩:=h
 obtain⟨t,rfl⟩:=rx
 obtain⟨t',rfl⟩:=ry
 exact rule i j t t' s _ _ ⟨.int (g i j),H,I.tok _,⟨_,rfl⟩,q⟩
def zjf{f:be->be->Sem be}{g:Int->Int->Bool}
 (rule: ∀(i j:Int) (t u:Tok) (s:bf) (Q:be->bf->Prop) (E:be->bf->Prop),Q (.bool (g i j)) s->bj (bn X.prog X.w) X.A (f (.int i t) (.int j u)) Q E s):
 OpR X f (rI0 λi j=> .bl (g i j)):=by
 intro pins s σ H x y v u Q I rx ry h
 obtain⟨i,j,rfl,rfl,q⟩:=h
 obtain⟨t,rfl⟩:=rx
 obtain⟨t',rfl⟩:=ry
 exact rule i j t t' s _ _ ⟨.bl (g i j),H,I,rfl,q⟩
noncomputable def zef(i j:Int):Prop:=0<j/\j<2^200
def zhM{x j:Int}(h1:0<j)(h2:j<2^200):Builtin.divisionGoesByPylong x j=false:=by
 refine PyProof.noPylong_of_log2 ?_
 have h3:j.natAbs.log2<200:=(Nat.log2_lt (by lia)).mpr (by lia)
 lia
noncomputable def zeg(i j:Int):Prop:=0<=j/\j<=1000000/\i.natAbs<2^64
noncomputable def zaf(i j:Int):Prop:=(-(2^64)<i/\i<2^64)\/(-(2^64)<j/\j<2^64)
def zaf.ok{i j:Int}(h:zaf i j):IntMulOk i j:=by
 rcases h with⟨h1,h2⟩|⟨h1,h2⟩
 .exact .of_left (intBits_le_64 h1 h2)
 .exact .of_right (intBits_le_64 h1 h2)
def zeJ:OpR X (bW .Add) (rI0 λi j=> .int (i+j)):=zjF λ_ _ _ _ _ _ _ q=>add_int q
def zeK:OpR X (bW .Mult) (rI zaf λi j=> .int (i*j)):=opI λ_ _ _ _ _ _ _ hc q=>mul_int q hc.ok
def zcE:OpR X (bW .FloorDiv) (rI zef λi j=> .int (i/j)):=opI λi j _ _ _ _ _ hc q=>by
 have h1:(0:Int)<j:=hc.1
 have h2:j<2^200:=hc.2
 exact floordiv_int (by lia) (by rw[Int.fdiv_eq_ediv_of_nonneg i (by lia)];exact q) (.inl (zhM h1 h2))
def zeL:OpR X (bW .Mod) (rI (λ_ j=>0<j) λi j=> .int (i %j)):=opI λi j _ _ _ _ _ hc q=>by
 have h1:(0:Int)<j:=hc
 exact mod_int' (by lia) (by rw[Int.fmod_eq_emod_of_nonneg i (by lia)];exact q)
def zeM:OpR X (bW .Pow) (rI zeg λi j=> .int (i^j.toNat)):=opI λ_ _ _ _ _ _ _ hc q=>pow_int_small hc.1 hc.2.1 hc.2.2 q
def unI{f:be->Sem be}{g:Int->Int}
 (rule: ∀(i:Int) (t:Tok) (s:bf) (Q:be->bf->Prop) (E:be->bf->Prop),Q (.int (g i) s.toks) {s with toks:=s.toks+1}->bj (bn X.prog X.w) X.A (f (.int i t)) Q E s):
 UnR X f (rU λi=> .int (g i)):=by
 intro pins s σ H x v Q I rx h
 obtain⟨i,rfl,q⟩:=h
 obtain⟨t,rfl⟩:=rx
 exact rule i t s _ _ ⟨.int (g i),H,I.tok _,⟨_,rfl⟩,q⟩
def zeN{k k':Bool}(I:Inv X pins σ H s)(q:Q (.bl k) H)(e:k=k'):EP X pins σ Q (.bool k') s:=by
 subst e
 exact⟨.bl k,H,I,rfl,q⟩
def zhN:OpR X (bX .Lt) (rI0 λi j=> .bl (decide (i<j))):=zjf λ_ _ _ _ _ _ _ q=>lt_int q
def zhO:OpR X (bX .Gt) (rI0 λi j=> .bl (decide (j<i))):=zjf λ_ _ _ _ _ _ _ q=>gt_int q
def zeO:OpR X (bX .Is) (λx y H Q=>y= .non/\Q (.bl (decide (x= .non))) H):=by
 intro pins s σ H x y v u Q I rx ry h
 obtain⟨rfl,q⟩:=h
 cases ry
 refine is_none_gen (zeN I q ?_)
 cases x<;>first
  |(cases rx;rfl)
  |(obtain⟨t,rfl⟩:=rx;rfl)
def OpR.or(h:OpR X f r)(h':OpR X f r'):OpR X f (λx y H Q=>r x y H Q\/r' x y H Q):=by
 intro pins s σ H x y v u Q I rx ry q
 rcases q with q|q
 .exact h pins s σ H x y v u Q I rx ry q
 .exact h' pins s σ H x y v u Q I rx ry q
def j8(b:bi)(h:op≠ .In:=by decide)(h2:op≠ .NotIn:=by decide):bI op b=false:=by
 have e1:(op==CmpOp.In)=false:=by cases op<;>first|rfl|exact absurd rfl h
 have e2:(op==CmpOp.NotIn)=false:=by cases op<;>first|rfl|exact absurd rfl h2
 cases b<;>simp[bI,e1,e2]
def zcF(ho:OpR X (bX op) r)(ha:PE X a ta)(hb:PE X b tb)(hm:bI op b=false):PE X (.Compare a [op] [b] pos) (tOp r ta tb):=by
 intro pins s σ H Q I h
 exact wpAny_Compare1 (zhK ha hb I h λv u s2 x y H2 I2 rx ry q=>ho pins s2 σ H2 x y v u Q I2 rx ry q) hm
noncomputable def zhP(t:TE):TT:=λ σ H Q=>t σ H λx H'=> ∃k,x= .bl k/\Q k H'
def zcG{op:dN}{r:R2}(ho:OpR X (bX op) r)(ha:PE X a ta)(hb:PE X b tb)(hm:bI op b=false):PT X (.Compare a [op] [b] pos) (zhP (tOp r ta tb)):=by
 intro pins s σ H Q I h
 refine wpAny_isTrue_Compare1 (thn (ha pins s σ H _ I h) λv s1 ⟨x,H1,I1,r1,q1⟩=>thn (hb pins s1 σ H1 _ I1 q1) λu s2 ⟨y,H2,I2,r2,q2⟩=>
  thn (ho pins s2 σ H2 x y v u _ I2 r1 r2 q2) λc s3 ⟨z,H3,I3,r3,k,e,q3⟩=> ?_) hm
 subst e
 cases r3
 exact bR ⟨H3,I3,q3⟩
noncomputable def TruV(K:W.Frag)(x:V)(H:Hp)(k:Bool):Prop:=
 match x with
 | .non=>k=false
 | .bl b=>k=b
 | .int i=>k=(i !=0)
 | .str y=>y.length<=sizeLine/\k=((y.length:Int) !=0)
 | .byt y=>y.size<=sizeLine/\k=((y.size:Int) !=0)
 | .ref p=>(∃xs,SqL K H p xs/\k= !xs.isEmpty)\/(∃xs,SqT K H p xs/\k= !xs.isEmpty)\/∃kvs,H p=some (.dK kvs)/\k= !kvs.isEmpty
 |_=>False
def z75{κ:Type}{kvs:List (κ×V)}{vs:List (κ×be)}(r:KV kvs vs):(!vs.isEmpty)= !kvs.isEmpty:=by
 cases r<;>rfl
def z3o{xs:List V}{its:List be}(r:J4 xs its):(!its.toArray.isEmpty)= !xs.isEmpty:=by
 cases r<;>simp
def z4F:(sizeLine:Nat)<2^63:=by rw[di];decide
def zeP:zjE X (λx H Q=> ∃k,TruV X.K x H k/\Q k H):=by
 intro pins s σ H x v Q I rx h
 obtain⟨k,e,q⟩:=h
 have hl:=z4F
 have hs:sizeLine=16777216:=di
 cases x with
 |non=>
  cases rx
  have e':k=false:=e
  subst e'
  exact truthy_none ⟨H,I,q⟩
 |bl b=>
  cases rx
  have e':k=b:=e
  subst e'
  exact bR ⟨H,I,q⟩
 |int i=>
  obtain⟨t,rfl⟩:=rx
  have e':k=(i !=0):=e
  subst e'
  exact PySem.P.truthy_int ⟨H,I,q⟩
 |str y=>
  obtain⟨t,rfl⟩:=rx
  obtain⟨hy,e'⟩:y.length<=sizeLine/\k=((y.length:Int) !=0):=e
  subst e'
  exact PySem.P.truthy_str (by lia) ⟨H,I.tok _,q⟩
 |byt y=>
  obtain⟨t,rfl⟩:=rx
  obtain⟨hy,e'⟩:y.size<=sizeLine/\k=((y.size:Int) !=0):=e
  subst e'
  exact W.truthy_bytes (by lia) ⟨H,I.tok _,q⟩
 |ref p=>
  cases rx
  have e':(∃xs,SqL X.K H p xs/\k= !xs.isEmpty)\/(∃xs,SqT X.K H p xs/\k= !xs.isEmpty)\/∃kvs,H p=some (.dK kvs)/\k= !kvs.isEmpty:=e
  rcases e' with⟨xs,hx,e'⟩|⟨xs,hx,e'⟩|⟨kvs,hx,e'⟩
  .subst e'
   obtain⟨its,r,pl,hz⟩:=I.list hx
   have hlen:=r.length
   exact wpAny_truthy_list pl.isList (by erw[m4];lia) ⟨H,I.tok _,by rw[z3o r];exact q⟩
  .subst e'
   obtain⟨its,r,pl,hz⟩:=I.tuple hx
   have hlen:=r.length
   exact truthy_tuple pl (by erw[m4];lia) ⟨H,I.tok _,by rw[z3o r];exact q⟩
  .subst e'
   obtain⟨hz,hS,vs,r,m⟩:kvs.length<=sizeLine/\(p==bD)=false/\∃vs,KV kvs vs/\s.heap.DictOf (Y9 X.prog X.w) p vs:=I.hok p _ hx
   have hlen:kvs.length=vs.length:=Paired.length r
   exact wpAny_truthy_dict hS m (by lia) ⟨H,I.tok _,by rw[z75 r];exact q⟩
 |_=>exact(show False from e).elim
def zag(ha:PE X a ta)(he: ∀whole,fo a X.env whole=(do let v<-whole;fK a.pos;dM [v] (truthy v))):
 PT X a (λ σ H Q=>ta σ H λx H'=> ∃k,TruV X.K x H' k/\Q k H'):=by
 intro pins s σ H Q I h
 exact isTrue_plain (thn (ha pins s σ H _ I h) λv s1 ⟨x,H1,I1,r1,q1⟩=>zeP pins s1 σ H1 x v Q I1 r1 q1) (he _)
def z76:OpR X (bW .Add) (λx y H Q=> ∃i j,x= .str i/\y= .str j/\i.length+j.length<=sizeLine/\Q (.str (i++j)) H):=by
 intro pins s σ H x y v u Q I rx ry h
 obtain⟨i,j,rfl,rfl,hz,q⟩:=h
 obtain⟨t,rfl⟩:=rx
 obtain⟨t',rfl⟩:=ry
 exact add_str (λt' tk=>⟨.str (i++j),H,I.tok _,⟨_,rfl⟩,q⟩) hz
def z3b(r:J4 [x] us): ∃u,us=[u]/\RelV x u:=by
 cases r with
 |cons r1 r2=>cases r2;exact⟨_,rfl,r1⟩
def zcH(r:J4 [x,y] us): ∃u w',us=[u,w']/\RelV x u/\RelV y w':=by
 cases r with
 |cons r1 r2=>
  cases r2 with
  |cons r3 r4=>cases r4;exact⟨_,_,rfl,r1,r3⟩
def zah:CallR X (.builtin "abs") (λxs H Q=> ∃i,xs=[.int i]/\Q (.int (if i<0 then -i else i)) H):=by
 intro pins s σ H xs us Q I r h
 obtain⟨i,rfl,q⟩:=h
 obtain⟨u,rfl,t,rfl⟩:=z3b r
 exact call_abs_int λu tk=>⟨.int (if i<0 then -i else i),H,I.tok _,⟨_,rfl⟩,q⟩
def z7Z(hc:X.calm=true):CallR X (.builtin "max") (λxs H Q=> ∃i j,xs=[.int i, .int j]/\Q (.int (if j>i then j else i)) H):=by
 intro pins s σ H xs us Q I r h
 obtain⟨i,j,rfl,q⟩:=h
 obtain⟨u,w',rfl,⟨t,rfl⟩,⟨t',rfl⟩⟩:=zcH r
 refine max_two_ints (I.ok.hd hc) λh' tk k=>⟨_,H,I.kept k, ?_,q⟩
 by_cases hj:j>i
 .rw[if_pos hj,if_pos hj];exact⟨_,rfl⟩
 .rw[if_neg hj,if_neg hj];exact⟨_,rfl⟩
def z80(hc:X.calm=true):CallR X (.builtin "min") (λxs H Q=> ∃i j,xs=[.int i, .int j]/\Q (.int (if j<i then j else i)) H):=by
 intro pins s σ H xs us Q I r h
 obtain⟨i,j,rfl,q⟩:=h
 obtain⟨u,w',rfl,⟨t,rfl⟩,⟨t',rfl⟩⟩:=zcH r
 refine min_two_ints (I.ok.hd hc) λh' tk k=>⟨_,H,I.kept k, ?_,q⟩
 by_cases hj:j<i
 .rw[if_pos hj,if_pos hj];exact⟨_,rfl⟩
 .rw[if_neg hj,if_neg hj];exact⟨_,rfl⟩
def z81:CallR X (.type "int") (λxs H Q=>(∃i,xs=[.int i]/\Q (.int i) H)\/∃k,xs=[.bl k]/\Q (.int (if k then 1 else 0)) H):=by
 intro pins s σ H xs us Q I r h
 rcases h with⟨i,rfl,q⟩|⟨k,rfl,q⟩
 .obtain⟨u,rfl,t,rfl⟩:=z3b r
  exact call_int_int ⟨.int i,H,I,⟨_,rfl⟩,q⟩
 .obtain⟨u,rfl,r1⟩:=z3b r
  cases r1
  exact call_int_bool ⟨.int (if k then 1 else 0),H,I.tok _,⟨_,rfl⟩,q⟩
end
structure zkg(h:Heap)(x dx C:Addr)(mA:Str->Option be):Prop where
 obj:h.get? x=some (W.instObj C dx)
 ns:h.Ns1 dx mA
 ne:dx≠x
noncomputable def putF(f:Str)(v:V):List (Str×V)->List (Str×V)
 |[]=>[(f,v)]
 |(g,x)::r=>if g=f then(g,v)::r else(g,x)::putF f v r
def RelO.some_of(r:RelO (some v) o): ∃u,o=some u/\RelV v u:=by
 cases o with
 |none=>exact(show False from r).elim
 |some u=>exact⟨u,rfl,r⟩
structure Cls(K:W.Frag)(C:Addr):Prop where
 pg:W.plainGet K C Str.empty=true
 hd:W.hasDictIn K C=true
 po:W.plainOver K C=true
 sa:W.findIn K (.ref C) "__setattr__" =some (some (.builtin "object.__setattr__"))
structure Con(K:W.Frag)(C:Addr)(f:Str)(v:V)(u:be):Prop where
 at_:W.findIn K (.ref C) f=some (some u)
 rel:RelV v u
 get:W.specialIn K u "__get__" =some none
 cp:W.copiedNames.contains f=false
structure zjG(K:W.Frag)(C:Addr)(m:Str)(f:Addr):Prop where
 at_:W.findIn K (.ref C) m=some (some (.ref f))
 fn:W.isFn K (.ref f)=true
 kp:W.keepIn K (.ref f)=true
section
variable{X:Cx}{pins:List (Addr×bK)}{σ:St}{H:Hp}{s:bf}{A:bq}{E:be->bf->Prop}{Q:be->bf->Prop}{c:be}{b:Bool}
inductive TyOf(K:W.Frag)(H:Hp):V->be->Prop where
 |non:TyOf K H .non (.type "NoneType")
 |bl (x:Bool):TyOf K H (.bl x) (.type "bool")
 |int (i:Int):TyOf K H (.int i) (.type "int")
 |str (x:Str):TyOf K H (.str x) (.type "str")
 |flt (x:UInt64):TyOf K H (.flt x) (.type "float")
 |lst {a:Addr} {xs:List V} (e:H a=some (.lst xs)):TyOf K H (.ref a) (.type "list")
 |frz {a:Addr} {o:bK} {xs:List V} (e:H a=some (.frz o (.lst xs))):TyOf K H (.ref a) (.type "list")
 |tup {a:Addr} {xs:List V} (e:H a=some (.tup xs)):TyOf K H (.ref a) (.type "tuple")
 |dK {a:Addr} {kvs:List (Key×V)} (e:H a=some (.dK kvs)):TyOf K H (.ref a) (.type "dict")
 |dT {a:Addr} {kvs:List (NK×V)} (e:H a=some (.dT kvs)):TyOf K H (.ref a) (.type "dict")
 |ins {a C dx:Addr} {fs:List (Str×V)} (e:H a=some (.ins C dx fs)) (cl:Cls K C) (ha:W.findIn K (.ref C) "__class__" =some (some (.builtin "object.__class__")))
  (hn:W.specialIn K (.builtin "object.__class__") "__get__" =some (some (.builtin "getset_descriptor.__get__"))) (htk:W.takesIn K (.builtin "object.__class__")=some true)
  (hm:W.mroIn K C (.type "object")=some true):TyOf K H (.ref a) (.ref C)
end
structure z29(k:Nat)(A:bq):Prop where
 hd:A.handled=none
 dp:A.depth+3*k+5<recursionLimit
 un:A.units+16*k+200<cLine
 gd:A.guards=some []
def z29.mono{j k:Nat}(r:z29 k A)(h:j<=k):z29 j A:=⟨r.hd,by have:=r.dp;lia,by have:=r.un;lia,r.gd⟩
def z29.deeper{k:Nat}{A:bq}(r:z29 (k+1) A)(env:dC):z29 k (A.deeper env):=
 ⟨r.hd,by have:=r.dp;show A.depth+1+3*k+5<_;lia,by have:=r.un;show A.units+3+16*k+200<_;lia,r.gd⟩
def z29.depth{k:Nat}{A:bq}(r:z29 k A):A.depth<recursionLimit:=by have:=r.dp;lia
def z29.units{k:Nat}{A:bq}(r:z29 k A):A.units+64<cLine:=by have:=r.un;lia
noncomputable def zjH:TA:=λ_ H Q=>Q [] H
noncomputable def zhQ(ta:TE)(tr:TA):TA:=λ σ H Q=>ta σ H λx H1=>tr σ H1 λxs H2=>Q (x::xs) H2
section
variable{X:Cx}{e:bi}{es:List bi}{te:TE}{t:TA}{pos:bG}
def zbA:PA X [] zjH:=λ_ _ _ _ H Q I h=>Calls.spliced_nil ⟨[],H,I, .nil,h⟩
def z5z(ha:PE X e te)(hr:PA X es t)(hs:bh (e::es) X.env=(false,bB e X.env)::bh es X.env:=by rfl):PA X (e::es) (zhQ te t):=by
 intro pos pins s σ H Q I h
 rw[hs]
 show bj _ _ (spliced ((false,bB e X.env)::bC pos (bh es X.env))) _ _ s
 refine Calls.spliced_cons (thn (ha pins s σ H _ I h) λu s1 ⟨x,H1,I1,r1,q1⟩=> ?_)
 exact thn (hr pos pins s1 σ H1 _ I1 q1) λus s2 ⟨xs,H2,I2,r2,q2⟩=>⟨x::xs,H2,I2, .cons r1 r2,q2⟩
noncomputable def zjI(t:TA):TE:=λ σ H Q=>t σ H λxs H1=>xs.length<=sizeLine/\∀p,H1 p=none->Q (.ref p) (upd H1 p (.tup xs))
noncomputable def zjJ(t:TA):TE:=λ σ H Q=>t σ H λxs H1=>xs.length<=sizeLine/\∀p,H1 p=none->Q (.ref p) (upd H1 p (.lst xs))
def zeQ{x1}(h:PA X es t):PE X (.Tuple es x1 pos) (zjI t):=by
 intro pins s σ H Q I hq
 refine wpAny_Tuple_spliced (thn (h pos pins s σ H _ I hq) λus s1 ⟨xs,H1,I1,r,z,q⟩=>⟨by rw[<-r.length];exact z, ?_⟩)
 have hf:H1 s1.heap.objs.size=none:=I1.hok.fresh (i7 _)
 refine⟨.ref s1.heap.objs.size,upd H1 s1.heap.objs.size (.tup xs),I1.laid (t':=s1.toks) (λb u e=>Heap.get?_push_of_some _ e) (i7 _) ?_,rfl,q _ hf⟩
 exact⟨z,us,r,⟨_,Heap.get?_push_size _ rfl,rfl,_,rfl⟩⟩
def zeR(h:PA X es t):PE X (.List es pos) (zjJ t):=by
 intro pins s σ H Q I hq
 refine wpAny_List_spliced (thn (h pos pins s σ H _ I hq) λus s1 ⟨xs,H1,I1,r,z,q⟩=>⟨by rw[<-r.length];exact z, ?_⟩)
 have hf:H1 s1.heap.objs.size=none:=I1.hok.fresh (i7 _)
 refine⟨.ref s1.heap.objs.size,upd H1 s1.heap.objs.size (.lst xs),I1.laid (t':=s1.toks) (λb u e=>Heap.get?_push_of_some _ e) (i7 _) ?_,rfl,q _ hf⟩
 exact⟨z,us,0,r,Heap.get?_push_size _ rfl⟩
end
noncomputable abbrev Sp:=List V->Hp->VK->XK->Prop
noncomputable abbrev CXT:=List dC->Hp->bf->XK->be->bf->Prop
structure zeS(P:bm)(w:bo)(K:W.Frag)(mg:Str->Option be)(base:Heap)(A:bq)(outer:List dC)(s:bf)(H:Hp):Prop where
 frames:A.frames=some outer
 mod:Mod K mg base
 bs: ∀b o,base.get? b=some o->s.heap.get? b=some o/\H b=none
 bsz:base.objs.size<=s.heap.objs.size
 funs:s.heap.FunFrames base outer
 frf: ∀b∈frs outer,H b=none
 hok:HOk P w H s.heap
 bare:cB s.gens
noncomputable def CE(outer:List dC)(P:bm)(w:bo)(H:Hp)(s:bf)(Q:VK)(u:be)(s':bf):Prop:=
 ∃v H',s'.os=s.os/\cB s'.gens/\Un (frs outer) [] H H' s.heap s'.heap/\HOk P w H' s'.heap/\RelV v u/\Q v H'
noncomputable def CR(CX:CXT)(outer:List dC)(P:bm)(w:bo)(H:Hp)(s:bf)(Q:VK)(E:XK)(r:Result)(s':bf):Prop:=
 match r with
 | .ok (.ret u)=>CE outer P w H s Q u s'
 | .ok _=>False
 | .error e=>CX outer H s E e s'
structure z0c(P:bm)(w:bo)(K:W.Frag)(mg:Str->Option be)(base:Heap)(CX:CXT)(k:Nat)(f:Addr)(fd:bA)(ps:List Str)(sp:Sp):Prop where
 len: ∀vs H Q E,sp vs H Q E->vs.length=ps.length
 run: ∀(A:bq) (outer:List dC) (s:bf) (H:Hp) (args:Args) (us:List be) (vs:List V) (Q:VK) (E:XK),z29 k A->zeS P w K mg base A outer s H->cQ s fd args (ps.zip us)->J4 vs us->sp vs H Q E->
  cR (bn P w) A (.call (.ref f) args) (CR CX outer P w H s Q E) s
def z0c.mono{P:bm}{w:bo}{K:W.Frag}{mg:Str->Option be}{base:Heap}{CX:CXT}{j k:Nat}{f:Addr}{fd:bA}{ps:List Str}{sp:Sp}(F:z0c P w K mg base CX j f fd ps sp)(h:j<=k):
 z0c P w K mg base CX k f fd ps sp:=⟨F.len,λA outer s H args us vs Q E hr=>F.run A outer s H args us vs Q E (hr.mono h)⟩
section
variable{X:Cx}{pins:List (Addr×bK)}{σ:St}{H:Hp}{s s':bf}
def Inv.env0(I:Inv X pins σ H s):zeS X.prog X.w X.K X.mg X.base X.A X.stack s H:=
 ⟨I.ok.frames,I.ok.mod,I.bs,C1 I.ok.bsz I.sz,I.stack,I.stkFree,I.hok,I.bare⟩
def Inv.after(I:Inv X pins σ H s)(h:CE X.stack X.prog X.w H s Q u s'):EP X pins σ Q u s':=by
 obtain⟨v,H',os,bare,un,hok,r,q⟩:=h
 obtain⟨hh,g,d,t,os'⟩:=s'
 obtain rfl:os'=s.os:=os
 exact⟨v,H',I.call (h':=hh) (g':=g) (d':=d) (t':=t) (ch:=[]) un hok bare (λb z=>absurd z (by simp)),r,q⟩
end
noncomputable def zhR(sp:Sp)(dvs:List V)(E:XK)(t:TA):TE:=λ σ H Q=>t σ H λvs H1=>sp (vs++dvs) H1 Q E
noncomputable def z3c(K:W.Frag)(fd:bA)(ps:List Str)(ds:List be):Prop:=
 ∀(s:bf) (us:List be),K.In s.heap->(us++ds).length=ps.length->cQ s fd ⟨us,[]⟩ (ps.zip (us++ds))
def z3c.all{K:W.Frag}{fd:bA}{ps:List Str}(h: ∀us:List be,us.length=ps.length->bindArgs fd ⟨us,[]⟩=pure (ps.zip us)):z3c K fd ps []:=λs us _ hl=>by
 rw[l0] at hl⊢
 exact .of_eq (h us hl)
noncomputable def z3p(CX:CXT)(X:Cx)(E:XK):Prop:= ∀(pins:List (Addr×bK)) (σ:St) (H:Hp) (s:bf) (e:be) (s':bf),Inv X pins σ H s->CX X.stack H s E e s'->X.xe e s'
section
variable{X:Cx}{CX:CXT}{k:Nat}{f C:Addr}{fd:bA}{ps:List Str}{sp:Sp}{dvs:List V}{ds:List be}{E:XK}{x m:Str}{p pos apos:bG}{e o:bi}{es:List bi}{ta:TE}{t:TA}
def zeT{pins:List (Addr×bK)}{σ:St}{H:Hp}{s:bf}{Q:VK}{us:List be}{vs:List V}(F:z0c X.prog X.w X.K X.mg X.base CX k f fd ps sp)(hr:z29 k X.A)(hb:z3c X.K fd ps ds)(hd:J4 dvs ds)(hx:z3p CX X E)
 (I:Inv X pins σ H s) (r:J4 vs us) (h:sp (vs++dvs) H Q E):bj (bn X.prog X.w) X.A (call (.ref f) us) (EP X pins σ Q) X.xe s:=by
 have r2:J4 (vs++dvs) (us++ds):=r.append hd
 have hl:(us++ds).length=ps.length:=by rw[<-r2.length];exact F.len _ _ _ _ h
 refine wpAny_call (cS (F.run X.A X.stack s H ⟨us,[]⟩ (us++ds) (vs++dvs) Q E hr I.env0 (hb s us I.kIn hl) r2 h) λr s' hq=> ?_)
 cases r with
 |error e=>exact hx pins σ H s e s' I hq
 |ok fl=>
  cases fl with
  |ret u=>exact I.after hq
  |next=>exact False.elim hq
  |brk=>exact False.elim hq
  |cont=>exact False.elim hq
def zcI(F:z0c X.prog X.w X.K X.mg X.base CX k f fd ps sp)(hr:z29 k X.A)(hg:Gl X x)(hm:X.mg x=some (.ref f))(hk:W.keepIn X.K (.ref f)=true)(hb:z3c X.K fd ps ds)(hd:J4 dvs ds)(hx:z3p CX X E)
 (ha:PA X (e::es) t) (hdb:(x==("__debug__" :Str))=false:=by decide) (he:bh (e::es) X.env=(false,bB e X.env)::bh es X.env:=by rfl) (hpl:(bC pos (bh es X.env)).any (·.1)=false:=by rfl):
 PE X (.Call (.Name x p) (e::es) [] pos) (zhR sp dvs E t):=by
 intro pins s σ H Q I h
 refine cG (z7U I hg hm ?_ hdb)
 refine W.callWith_K (h₀:=X.base) I.ok.mod.kin hk (thn (ha pos pins s σ H _ I h) λus s1 ⟨vs,H1,I1,r,q⟩=>⟨I1.kIn, ?_⟩) he hpl
 exact zeT F hr hb hd hx I1 r q
structure Mk(K:W.Frag)(C f:Addr):Prop where
 makes:W.makesIn K C=true
 init:W.findIn K (.ref C) "__init__" =some (some (.ref f))
 fn:W.isFn K (.ref f)=true
 kp:W.keepIn K (.ref C)=true
end
noncomputable def PK(X:Cx)(kws:List bM)(t:TA):Prop:=
 ∀(pos:bG) (pins:List (Addr×bK)) (s:bf) (σ:St) (H:Hp) (Q:List V->Hp->Prop),Inv X pins σ H s->t σ H Q->bj (bn X.prog X.w) X.A (evalAll ((cm pos (bS kws X.env)).map (·.2))) (AP X pins σ Q) X.xe s
section
variable{X:Cx}{CX:CXT}{k:Nat}{f C:Addr}{fd:bA}{ps ks:List Str}{sp:Sp}{E:XK}{x m:Str}{p pos apos kpos:bG}{e o:bi}{es:List bi}{kws:List bM}{te ta:TE}{t tk:TA}{nm:Option Str}
structure zjg(K:W.Frag)(fd:bA)(ps ks:List Str)(g:List be->List be->List be)(gV:List V->List V->List V):Prop where
 to: ∀(s:bf) (us ws:List be),K.In s.heap->(g us ws).length=ps.length->cQ s fd ⟨us,ks.zip ws⟩ (ps.zip (g us ws))
 rel: ∀{vs:List V} {us:List be} {zs:List V} {ws:List be},J4 vs us->J4 zs ws->J4 (gV vs zs) (g us ws)
variable{g:List be->List be->List be}{gV:List V->List V->List V}
end
structure w6(N P:List Str)(sc:Scope):Prop where
 kind:sc.kind= .function
 co:sc.isCoroutine=false
 gen:sc.isGenerator=false
 nd:N.Nodup
 pre:N.take P.length=P
 par: ∀x∈P,sc.names.lookup x=some .local\/sc.names.lookup x=some .cell
 nofree: ∀y∈sc.names,y.2≠ .free
theorem z4G{kindOf:Str->Option ce}{x:Str}: ∀{binds:List (Str×be)} {m:Str->Option be},(∀v,(x,v)∉binds)->fy kindOf binds m x=m x
 |[],_,_=>rfl
 |(n,v)::r,m,h=>by
  unfold fy
  rw[z4G λw hw=>h w (i5 _ hw)]
  split
  .have:x≠n:=by rintro rfl;exact h v l5
   simp[this]
  .rfl
theorem z4H{kindOf:Str->Option ce}{x:Str}: ∀{binds:List (Str×be)} {m:Str->Option be},(∀v,(x,v)∉binds)->fz kindOf binds m x=m x
 |[],_,_=>rfl
 |(n,v)::r,m,h=>by
  unfold fz
  rw[z4H λw hw=>h w (i5 _ hw)]
  split
  .rfl
  .have:x≠n:=by rintro rfl;exact h v l5
   simp[this]
theorem z4I{kindOf:Str->Option ce}{x:Str}{v:be}: ∀{P:List Str} {vs:List be} {i:Nat} {m:Str->Option be},P.Nodup->P[i]? =some x->vs[i]? =some v->kindOf x=some .local->
 fy kindOf (P.zip vs) m x=some v
 |[],_,_,_,_,h,_,_=>by simp at h
 |_::_,[],_,_,_,_,h,_=>by simp at h
 |p::P,w::vs,0,m,nd,h1,h2,hk=>by
  simp at h1 h2;subst h1;subst h2
  show fy kindOf ((p,w)::P.zip vs) m p=_
  unfold fy
  rw[z4G λv hv=>(D9.mp nd).1 (S2 hv).1,if_pos hk]
  simp
 |p::P,w::vs,i+1,m,nd,h1,h2,hk=>by
  show fy kindOf ((p,w)::P.zip vs) m x=_
  unfold fy
  exact z4I (i:=i) (D9.mp nd).2 (by simpa using h1) (by simpa using h2) hk
theorem z4J{kindOf:Str->Option ce}{x:Str}{v:be}: ∀{P:List Str} {vs:List be} {i:Nat} {m:Str->Option be},P.Nodup->P[i]? =some x->vs[i]? =some v->kindOf x≠some .local->
 fz kindOf (P.zip vs) m x=some v
 |[],_,_,_,_,h,_,_=>by simp at h
 |_::_,[],_,_,_,_,h,_=>by simp at h
 |p::P,w::vs,0,m,nd,h1,h2,hk=>by
  simp at h1 h2;subst h1;subst h2
  show fz kindOf ((p,w)::P.zip vs) m p=_
  unfold fz
  rw[z4H λv hv=>(D9.mp nd).1 (S2 hv).1,if_neg hk]
  simp
 |p::P,w::vs,i+1,m,nd,h1,h2,hk=>by
  show fz kindOf ((p,w)::P.zip vs) m x=_
  unfold fz
  exact z4J (i:=i) (D9.mp nd).2 (by simpa using h1) (by simpa using h2) hk
noncomputable def start(N:List Str)(vs:List V):St:=vs.map some++m9 (N.length -vs.length) none
noncomputable def zai(CX:CXT)(P:bm)(w:bo)(K:W.Frag)(mg:Str->Option be)(base:Heap)(N:List Str)(qual:Str)(scope:Scope)(f:Addr)(cd:be)(A:bq)(outer:List dC)(s:bf)(H:Hp)(E:XK):Cx where
 prog:=P
 w:=w
 K:=K
 mg:=mg
 base:=base
 A:=A.deeper (envOfC qual scope s.heap.objs.size f cd)
 N:=N
 s₀:=s
 H₀:=H
 env:=envOfC qual scope s.heap.objs.size f cd
 outer:=outer
 stack:=envOfC qual scope s.heap.objs.size f cd::outer
 ex:=[]
 calm:=true
 fn:=λ_=>true
 pn:=[]
 xe:=λe s'=>bj (bn P w) (A.deeper (envOfC qual scope s.heap.objs.size f cd)) (leaving (envOfC qual scope s.heap.objs.size f cd) e) (λ_ s''=>CX outer H s E e s'') (λe' s''=>CX outer H s E e' s'') s'
def z6o{sc:Scope}{n:Nat}(h:sc.names.lookup x=some .cell): ∃c,(fG n sc.names []).lookup x=some c:=by
 have q:=W.cellsFrom_some sc.names n [] (.inl h)
 exact P2.mp q
def z82{CX:CXT}{P:bm}{w:bo}{K:W.Frag}{mg:Str->Option be}{base:Heap}{N ps:List Str}{qual:Str}{scope:Scope}{f:Addr}{cd:be}{A:bq}{outer:List dC}{s s1:bf}{H:Hp}{E:XK}{us:List be}{vs:List V}
 (S:w6 N ps scope) (hd:A.handled=none) (e0:zeS P w K mg base A outer s H) (hl:vs.length=ps.length) (r:J4 vs us)
 (x:InCallC s s.heap.objs.size (fy (envOfC qual scope s.heap.objs.size f cd).kindOf (ps.zip us) λ_=>none) (fG (s.heap.objs.size+1) scope.names []) (fz (envOfC qual scope s.heap.objs.size f cd).kindOf (ps.zip us) λ_=>none) s1):
 Inv (zai CX P w K mg base N qual scope f cd A outer s H E) [] (start N vs) H s1:=by
 have hpl:ps.length<=N.length:=by have:=congrArg L9 S.pre;rw[B6] at this;lia
 obtain⟨h1,tk,rfl,hk⟩:=x.done
 have noA: ∀b:Addr,b∉(zai CX P w K mg base N qual scope f cd A outer s H E).ex:=λb z=>absurd (show b∈([]:List Addr) from z) (by simp)
 refine⟨⟨e0.mod,S.kind,rfl,rfl,i7 _,λy z c h1 h2=> ?_,λy hy=> ?_,λy c _ h=> ?_,λ_=>hd,Around.frames_deeper e0.frames, .inr ⟨rfl,rfl⟩,λb z=>absurd z (noA b),e0.bs,e0.bsz,λb _ _=>noA b,λb z=>absurd z (noA b),e0.funs,e0.frf⟩,
  rfl,e0.bare,Un.kept hk,⟨_,x.toInCall.ns,λi y v h1 h2 h3=> ?_⟩,λy c h=>⟨_,x.cell y c h⟩,e0.hok.fresh (i7 _),λy c h=> ?_,λp hp=>absurd (show p∈([]:List (Addr×bK)) from hp) (by simp),e0.hok.kept hk, ?_⟩
 .exact name_of_addr x.apart (PySem.mem_of_lookup h1) (PySem.mem_of_lookup h2)
 .have hy:scope.names.lookup y=some .cell\/scope.names.lookup y=some .free:=hy
  rcases hy with hy|hy
  .exact z6o hy
  .exact absurd rfl (S.nofree _ (PySem.mem_of_lookup hy))
 .exact O1 (x.above y c (PySem.mem_of_lookup h))
 .have hi:i<vs.length:=by
   unfold start at h2
   by_cases hi:i<vs.length
   .exact hi
   .rw[List.getElem?_append_right (by simpa using hi)] at h2
    rw[List.getElem?_replicate] at h2
    split at h2<;>cases h2
  have ha:vs[i]? =some v:=by
   unfold start at h2
   rw[List.getElem?_append_left (by simpa using hi),List.getElem?_map] at h2
   cases e:vs[i]? with
   |none=>rw[e] at h2;cases h2
   |some a=>rw[e] at h2;cases h2;rfl
  obtain⟨u,hu,rv⟩:=r.get ha
  have hp:ps[i]? =some y:=by
   rw[<-S.pre,List.getElem?_take_of_lt (by lia)];exact h1
  have ndP:ps.Nodup:=by rw[<-S.pre];exact S.nd.sublist (List.take_sublist _ _)
  refine⟨u,rv, ?_⟩
  rcases S.par y (List.mem_of_getElem? hp) with k|k
  .exact .inl ⟨k,z4I ndP hp hu k⟩
  .obtain⟨c,e⟩:=z6o (n:=s.heap.objs.size+1) k
   refine .inr ⟨.inl k,c,e, ?_⟩
   have q:=x.cell y c e
   rw[z4J ndP hp hu (by show scope.names.lookup y≠_;rw[k];decide)] at q
   exact q
 .exact e0.hok.fresh (O1 (x.above y c (PySem.mem_of_lookup h)))
 .unfold start
  show _=N.length
  rw[m5,i9,S6]
  lia
def zhS{CX:CXT}{P:bm}{w:bo}{K:W.Frag}{mg:Str->Option be}{base:Heap}{k:Nat}{f:Addr}{name qual:Str}{params:Arguments}{body:List Stmt}{scope:Scope}{dV kV doc pm cdv ct oc:be}{an od:Option Addr}
 {osl:Array (Option be)} {N ps:List Str} {sp:Sp} (lk:K.lookup f=some ⟨oc,od, .func (W.fnOf name qual params body scope dV kV doc pm an cdv ct),osl⟩) (hcd:W.codeIn K cdv qual=true) (S:w6 N ps scope)
 (len: ∀vs H Q E,sp vs H Q E->vs.length=ps.length)
 (hbody: ∀(A:bq) (outer:List dC) (s:bf) (H:Hp) (vs:List V) (Q:VK) (E:XK),z29 k (A.deeper (envOfC qual scope s.heap.objs.size f cdv))->sp vs H Q E->
  ∃t,PSs (zai CX P w K mg base N qual scope f cdv A outer s H E) body t/\t {nx:=λ_ H'=>Q .non H',rt:=Q} (start N vs) H):
 z0c P w K mg base CX (k+1) f (W.fnOf name qual params body scope dV kV doc pm an cdv ct) ps sp:=by
 refine⟨len,λA outer s H args us vs Q E hr e0 hb r hsp=> ?_⟩
 have hl:=len _ _ _ _ hsp
 have KX:K.In s.heap:=e0.mod.kin.keeps λb o e=>(e0.bs b o e).1
 have lim:s.heap.NoLimit:=e0.mod.nolimit.keeps λb o e=>(e0.bs b o e).1
 have hkind: ∀y∈ps.zip us,scope.names.lookup y.1=some .local\/(scope.names.lookup y.1=some .cell/\((fG (s.heap.objs.size+1) scope.names []).lookup y.1).isSome=true):=λ⟨n,v⟩ hy=>by
  rcases S.par n (S2 hy).1 with q|q
  .exact .inl q
  .exact .inr ⟨q,W.cellsFrom_some _ _ _ (.inl q)⟩
 refine codeAny_call_function hr.depth (KX _ _ lk) rfl S.co S.gen rfl (W.codeRec_of KX hcd) (hb _ _ _ _ ?_)
 refine wpAny_newFunctionEnv_cells S.kind hkind λenv he s1 x=> ?_
 subst he
 refine⟨lim.keeps x.toInCall.keep,codeAny_func ?_⟩
 obtain⟨t,ht,hq⟩:=hbody A outer s H vs Q E (hr.deeper _) hsp
 have I:Inv (zai CX P w K mg base N qual scope f cdv A outer s H E) [] (start N vs) H s1:=z82 S hr.hd e0 hl r x
 refine bE (ht [] s1 (start N vs) H _ I hq) (λfl s' hs=> ?_) λe s' hs=>hs
 have fin: ∀{σ':St} {H':Hp} {v:V} {u:be},Inv (zai CX P w K mg base N qual scope f cdv A outer s H E) [] σ' H' s'->RelV v u->Q v H'->CE outer P w H s Q u s':=
  λ{σ' H' v u} J rv q=>⟨v,H',J.os,J.bare,J.base,J.hok,rv,q⟩
 cases fl with
 |ret u=>
  obtain⟨v,σ',H',J,rv,q⟩:=hs
  exact fin J rv q
 |next=>
  obtain⟨σ',H',J,q⟩:=hs
  exact fin (v:=V.non) (u:=Value.none) J rfl q
 |brk=>
  obtain⟨_,_,_,q⟩:=hs
  exact False.elim q
 |cont=>
  obtain⟨_,_,_,q⟩:=hs
  exact False.elim q
section
variable{X:Cx}{x:Str}{p pos:bG}{e:bi}{es:List bi}{t:TA}{id T:String}{r:List V->Hp->VK->Prop}
noncomputable def tCB(r:List V->Hp->VK->Prop)(t:TA):TE:=λ σ H Q=>t σ H λvs H1=>r vs H1 Q
def z6p(hc:CallR X (.builtin id) r)(hg:Gl X x)(hm:X.mg x=none)(hv:bF x=some (.builtin id))(ha:PA X (e::es) t)(hn:x≠ "__name__" :=by decide)(hdb:(x==("__debug__" :Str))=false:=by decide)
 (he:bh (e::es) X.env=(false,bB e X.env)::bh es X.env:=by rfl) (hpl:(bC pos (bh es X.env)).any (·.1)=false:=by rfl):PE X (.Call (.Name x p) (e::es) [] pos) (tCB r t):=by
 intro pins s σ H Q I h
 refine cG (z4E I hg hm hv ?_ hn hdb)
 exact PyProof.Rows.callWith_builtin1 (thn (ha pos pins s σ H _ I h) λus s1 ⟨vs,H1,I1,r1,q1⟩=>hc pins s1 σ H1 vs us Q I1 r1 q1) he hpl
def z83(hc:CallR X (.type T) r)(hg:Gl X x)(hm:X.mg x=none)(hv:bF x=some (.type T))(ha:PA X (e::es) t)(hn:x≠ "__name__" :=by decide)(hdb:(x==("__debug__" :Str))=false:=by decide)
 (he:bh (e::es) X.env=(false,bB e X.env)::bh es X.env:=by rfl) (hpl:(bC pos (bh es X.env)).any (·.1)=false:=by rfl):PE X (.Call (.Name x p) (e::es) [] pos) (tCB r t):=by
 intro pins s σ H Q I h
 refine cG (z4E I hg hm hv ?_ hn hdb)
 exact PyProof.Rows.callWith_type1 (thn (ha pos pins s σ H _ I h) λus s1 ⟨vs,H1,I1,r1,q1⟩=>hc pins s1 σ H1 vs us Q I1 r1 q1) he hpl
end
end L2
namespace HT
open PySem PyProof.Rows
section
open PySem.SeqAt
open PySem.AutoSeq1 (wpAny_loadPart')
open PySem.MeetsSeq PySem.MeetsSeq2 PySem.MeetsSeq3
end
section
variable{prog:bm}{w:bo}{A:bq}{E:be->bf->Prop}{s:bf}
def cat_tup{vs ws:List be}{Q:be->bf->Prop}(ht:fP s.heap t vs.toArray)(hb:fP s.heap b ws.toArray)(hv:vs≠[])
 (h1:ws=[]->Q (.ref t) s) (h2:ws≠[]->Q (.ref s.heap.objs.size) {s with heap:=s.heap.push {cls:= .type "tuple",data:= .seq (vs++ws).toArray}})
 (hsz:vs.length+ws.length<=sizeLine):bj (bn prog w) A (bW .Add (.ref t) (.ref b)) Q E s:=by
 obtain⟨⟨cls,dd,data,sl⟩,ho,hc,n,hd⟩:=id ht
 obtain⟨⟨cls2,dd2,data2,sl2⟩,ho2,hc2,n2,hd2⟩:=id hb
 simp only at hc hd hc2 hd2
 subst hc hd hc2 hd2
 have e:vs.toArray++ws.toArray=(vs++ws).toArray:=by simp
 by_cases hw:ws=[]
 .exact dO ⟨_,ho,rfl⟩ ⟨_,ho2,rfl⟩ cO dE PySem.F.slot_tuple_add PySem.F.entry_tuple_add (PySem.F.args_tuple_add_2 _ _)
   (tuple_addW1 t b vs.toArray ws.toArray n n2 dd dd2 sl sl2 (by simpa using hv) (by simp[hw])) ⟨ho,ho2,h1 hw⟩
 .refine dO ⟨_,ho,rfl⟩ ⟨_,ho2,rfl⟩ cO dE PySem.F.slot_tuple_add PySem.F.entry_tuple_add (PySem.F.args_tuple_add_2 _ _)
   (tuple_addW2 t b vs.toArray ws.toArray n n2 dd dd2 sl sl2 (by simpa using hv) (by simpa using hw) (by rw[m4,m4];exact hsz)) ⟨ho,ho2, ?_⟩
  rw[e]
  exact h2 hw
noncomputable def sIx(n d:Nat):Option Int->Nat
 |none=>d
 |some v=>if v<0 then(v+(n:Int)).toNat else min v.toNat n
def sIx_none(n d:Nat):sIx n d none=d:=rfl
def sIx_nat(n d k:Nat):sIx n d (some (k:Int))=min k n:=by
 show(if(k:Int)<0 then((k:Int)+(n:Int)).toNat else min (k:Int).toNat n)=min k n
 rw[if_neg (by lia),L0]
def zeU(n d:Nat)(hd:d<=n)(o:Option Int):sIx n d o<=n:=by
 cases o with
 |none=>exact hd
 |some v=>
  show(if v<0 then(v+(n:Int)).toNat else min v.toNat n)<=n
  by_cases hv:v<0
  .rw[if_pos hv];lia
  .rw[if_neg hv];exact T9 _ _
def z84(v:Int)(n d:Nat):(if v<0 then max (v+(n:Int)) 0 else min v (n:Int))=((sIx n d (some v):Nat):Int):=by
 show(if v<0 then max (v+(n:Int)) 0 else min v (n:Int))=(((if v<0 then(v+(n:Int)).toNat else min v.toNat n):Nat):Int)
 by_cases hv:v<0
 .erw[if_pos hv];lia
 .erw[if_neg hv];lia
def z77(lo hi:Option Int)(n:Nat):Builtin.Slice.sliceAdjust lo hi 1 (n:Int)=(((sIx n 0 lo:Nat):Int),((sIx n n hi:Nat):Int)):=by
 have h1: ¬((1:Int)<0):=by lia
 unfold Builtin.Slice.sliceAdjust
 erw[h1,if_false]
 refine Prod.ext ?_ ?_
 .cases lo with
  |none=>rfl
  |some v=>exact z84 v n 0
 .cases hi with
  |none=>rfl
  |some v=>exact z84 v n n
def z78(i j:Nat):Builtin.Slice.slicePlaces (i:Int) (j:Int) 1=j -i:=by
 unfold Builtin.Slice.slicePlaces
 have h1:(1:Int)>0:=by lia
 erw[h1,if_true,Int.ediv_one]
 split<;>lia
def z3q{Q:Option Int->bf->Prop}(p:cT v o)(h:Q o s):bj (bn prog w) A (Builtin.Slice.slicePartIndex v) Q E s:=by
 cases p with
 |none=>exact slicePart_none h
 |int i t=>exact slicePart_int h
def z0E{sl:Addr}{vl vu:be}{lo hi:Option Int}{n:Nat}{Q:Int×Int×Nat->bf->Prop}(hs:s.heap.IsSliceOf sl vl vu .none)(pl:cT vl lo)(pu:cT vu hi)
 (h:Q (((sIx n 0 lo:Nat):Int),1,sIx n n hi -sIx n 0 lo) s):bj (bn prog w) A (Builtin.Slice.sliceApplied (.ref sl) (pure (n:Int))) Q E s:=by
 obtain⟨os,hos,hcs,hds⟩:=id hs
 unfold Builtin.Slice.sliceApplied Builtin.Slice.sliceFields
 refine bb (bb (cg hos hds (x:=vl) rfl (bb (cg hos hds (x:=vu) rfl (bb (cg hos hds (x:= .none) rfl (bg ?_)))))))
 refine bb (slicePart_none ?_)
 show bj _ _ (if((1:Int)==0)=true then _ else _) _ _ s
 rw[if_neg (by decide)]
 refine bb (z3q pl (bb (z3q pu (bb (bg ?_)))))
 show bj _ _ (match Builtin.Slice.sliceAdjust lo hi 1 (n:Int) with|(lo,hi)=>pure (lo,(1:Int),Builtin.Slice.slicePlaces lo hi 1)) _ _ s
 rw[z77 lo hi n]
 show bj _ _ (pure (((sIx n 0 lo:Nat):Int),(1:Int),Builtin.Slice.slicePlaces ((sIx n 0 lo:Nat):Int) ((sIx n n hi:Nat):Int) 1)) _ _ s
 rw[z78]
 exact bg h
def zaj(xs:Array be)(i k:Nat):((C4 k).filterMap λ(m:Nat)=>xs[((i:Int)+(m:Int)*1).toNat]?).toArray=((xs.toList.drop i).take k).toArray:=by
 have e:(λ(m:Nat)=>xs[((i:Int)+(m:Int)*1).toNat]?)=λm=>xs[i+m]? :=by
  funext m
  have:((i:Int)+(m:Int)*1).toNat=i+m:=by lia
  rw[this]
 rw[e]
 have:=pick_run xs i k
 rw[List.filterMap_map] at this
 have e2:((λx=>xs[x]?)∘λx=>i+x)=λm=>xs[i+m]? :=rfl
 rw[e2] at this
 rw[this]
def getItem_tuple_cut{t sl:Addr}{items:Array be}{vl vu:be}{lo hi:Option Int}{Q:be->bf->Prop}(ht:fP s.heap t items)(hs:s.heap.IsSliceOf sl vl vu .none)(pl:cT vl lo)(pu:cT vu hi)
 (hw: ¬(sIx items.size 0 lo=0/\sIx items.size items.size hi=items.size))
 (h:Q (.ref s.heap.objs.size) {s with heap:=s.heap.push {cls:= .type "tuple",data:= .seq ((items.toList.drop (sIx items.size 0 lo)).take (sIx items.size items.size hi -sIx items.size 0 lo)).toArray}})
 (hsz:items.size<=sizeLine):bj (bn prog w) A (cC (.ref t) (.ref sl)) Q E s:=by
 have htake:sizeOk (.seq ((items.toList.drop (sIx items.size 0 lo)).take (sIx items.size items.size hi -sIx items.size 0 lo)).toArray):=by
  show((items.toList.drop (sIx items.size 0 lo)).take (sIx items.size items.size hi -sIx items.size 0 lo)).toArray.size<=sizeLine
  rw[m4,B6,C7,Array.length_toList]
  lia
 have hj:sIx items.size items.size hi<=items.size:=zeU _ _ (i7 _) hi
 obtain⟨os,hos,hcs,hds⟩:=id hs
 have hTs:s.TypeIs (.ref sl) "slice" :=⟨os,hos,hcs⟩
 unfold cC
 try with_reducible refine br ?_
 first|refine bb (bg ?_)|skip
 refine bb (dP ht.typeIs (by decide) ?_)
 refine bb (wpAny_callSpecial?_slot (name:=Str.ofString "__getitem__") ht.typeIs PyProof.Rows.slot_tuple_getitem
  (bx PyProof.Rows.slot_tuple_getitem ht.typeIs dB ?_ (dJ _ _)))
 show bj _ _ (Builtin.Tuple.tupleItemsOf (.ref t)>>=_) _ _ s
 refine bb (tupleItemsOf_ ht ?_)
 refine bb (dQ hTs ?_)
 rw[if_pos (by decide)]
 refine bb (z0E hs pl pu ?_)
 have hno: ¬((((sIx items.size 0 lo:Nat):Int)==0&&(1:Int)==1&&(sIx items.size items.size hi -sIx items.size 0 lo)==items.size)=true):=by
  intro q
  rw[A7,A7] at q
  have q1:((sIx items.size 0 lo:Nat):Int)=0:=eq_of_beq q.1.1
  have q2:sIx items.size items.size hi -sIx items.size 0 lo=items.size:=eq_of_beq q.2
  exact hw ⟨by lia,by lia⟩
 show bj _ _ (if(((sIx items.size 0 lo:Nat):Int)==0&&(1:Int)==1&&(sIx items.size items.size hi -sIx items.size 0 lo)==items.size)=true then _ else _) _ _ s
 rw[if_neg hno,zaj]
 first
  |exact bb (m:=Builtin.Tuple.tupleExact _) (bt (bg ⟨_,rfl,bg h⟩) htake)
  |exact bb (m:=Builtin.Tuple.tupleExact _) (bt (bb (bg (bg ⟨_,rfl,bg h⟩))) htake)
  |exact bb (bb (m:=Builtin.Tuple.tupleExact _) (bt (bg (bg ⟨_,rfl,bg h⟩)) htake))
  |exact bb (bb (m:=Builtin.Tuple.tupleExact _) (bt (bg ⟨_,rfl,bg h⟩) htake))
end
end HT
namespace L2
open PySem PySem.Spec PyProof.Rows
noncomputable abbrev TO:=St->Hp->(Option Int->Hp->Prop)->Prop
noncomputable def PO(X:Cx)(e:Option bi)(t:TO):Prop:=
 ∀(pins:List (Addr×bK)) (s:bf) (σ:St) (H:Hp) (Q:Option Int->Hp->Prop),Inv X pins σ H s->t σ H Q->
  bj (bn X.prog X.w) X.A (evalPart e X.env) (λu s'=> ∃o H',Inv X pins σ H' s'/\cT u o/\Q o H') X.xe s
noncomputable def zcJ:TO:=λ_ H Q=>Q none H
noncomputable def zhT(t:TE):TO:=λ σ H Q=>t σ H λx H1=> ∃i,x= .int i/\Q (some i) H1
section
variable{X:Cx}{e:bi}{te:TE}{lo hi:Option bi}{tl th:TO}{pos p2:bG}
def zcK:PO X none zcJ:=by
 intro pins s σ H Q I h
 rw[evalPart_none]
 exact bg ⟨none,H,I, .none,h⟩
def zcL(h:PE X e te):PO X (some e) (zhT te):=by
 intro pins s σ H Q I hw
 rw[evalPart_some]
 refine thn (h pins s σ H _ I hw) λu s1 ⟨x,H1,I1,r1,q1⟩=> ?_
 obtain⟨i,rfl,q⟩:=q1
 obtain⟨t,rfl⟩:=r1
 exact⟨some i,H1,I1, .int i t,q⟩
noncomputable def SlR(X:Cx)(r:V->Option Int->Option Int->Hp->VK->Prop):Prop:=
 ∀(pins:List (Addr×bK)) (s:bf) (σ:St) (H:Hp) (x:V) (v vl vu:be) (lo hi:Option Int) (sl:Addr) (Q:VK),Inv X pins σ H s->RelV x v->s.heap.IsSliceOf sl vl vu .none->cT vl lo->cT vu hi->r x lo hi H Q->
  ∃T id,typeLookup (.type T) "__getitem__" =pure (some (.builtin id))/\s.TypeIs v T/\bj (bn X.prog X.w) X.A (cC v (.ref sl)) (EP X pins σ Q) X.xe s
def SlR.or{r r':V->Option Int->Option Int->Hp->VK->Prop}(h:SlR X r)(h':SlR X r'):SlR X (λx lo hi H Q=>r x lo hi H Q\/r' x lo hi H Q):=by
 intro pins s σ H x v vl vu lo hi sl Q I rx hs pl pu q
 rcases q with q|q
 .exact h pins s σ H x v vl vu lo hi sl Q I rx hs pl pu q
 .exact h' pins s σ H x v vl vu lo hi sl Q I rx hs pl pu q
noncomputable def tSl(r:V->Option Int->Option Int->Hp->VK->Prop)(te:TE)(tl th:TO):TE:=λ σ H Q=>te σ H λx H1=>tl σ H1 λl H2=>th σ H2 λu H3=>r x l u H3 Q
def zak{r:V->Option Int->Option Int->Hp->VK->Prop}(hr:SlR X r)(he:PE X e te)(hl:PO X lo tl)(hu:PO X hi th):PE X (.Subscript e (.Slice lo hi none p2) pos) (tSl r te tl th):=by
 intro pins s σ H Q I h
 refine fA (thn (he pins s σ H _ I h) λv s1 ⟨x,H1,I1,r1,q1⟩=> ?_)
 refine wpAny_Slice (thn (hl pins s1 σ H1 _ I1 q1) λvl s2 ⟨l,H2,I2,pl,q2⟩=>thn (hu pins s2 σ H2 _ I2 q2) λvu s3 ⟨u,H3,I3,pu,q3⟩=> ?_)
 rw[evalPart_none]
 refine bg ?_
 have I4:Inv X pins σ H3 {s3 with heap:=s3.heap.push {cls:= .type "slice",data:= .fields #[vl,vu, .none]}}:=I3.kept (t':=s3.toks) λb ob q=>Heap.get?_push_of_some _ q
 obtain⟨T,id,hT,ht,hg⟩:=hr pins {s3 with heap:=s3.heap.push {cls:= .type "slice",data:= .fields #[vl,vu, .none]}} σ H3 x v vl vu l u s3.heap.objs.size Q I4 r1 (Heap.IsSliceOf.new ..) pl pu q3
 show bj (bn X.prog X.w) X.A (dF e (.Slice lo hi none p2) v (.ref s3.heap.objs.size)) (EP X pins σ Q) X.xe {s3 with heap:=s3.heap.push {cls:= .type "slice",data:= .fields #[vl,vu, .none]}}
 exact tail_any (ops:=[.ref s3.heap.objs.size,v]) ht hT hg (by with_unfolding_all rfl)
noncomputable def z85(xs:List V)(lo hi:Option Int):List V:=(xs.drop (HT.sIx xs.length 0 lo)).take (HT.sIx xs.length xs.length hi -HT.sIx xs.length 0 lo)
def z2k(xs:List V)(lo hi:Option Int):(z85 xs lo hi).length<=xs.length:=by
 unfold z85
 rw[B6,C7]
 lia
noncomputable def zjK(K:W.Frag):V->Option Int->Option Int->Hp->VK->Prop:=λx lo hi H Q=> ∃a xs,x= .ref a/\SqT K H a xs/\
 ¬(HT.sIx xs.length 0 lo=0/\HT.sIx xs.length xs.length hi=xs.length)/\∀p,H p=none->Q (.ref p) (upd H p (.tup (z85 xs lo hi)))
def zeV:SlR X (zjK X.K):=by
 intro pins s σ H x v vl vu lo hi sl Q I rx hs pl pu h
 obtain⟨a,xs,rfl,hx,hw,q⟩:=h
 cases rx
 obtain⟨its,r,ht,hz⟩:=I.tuple hx
 have hlen:its.toArray.size=xs.length:=by rw[m4];exact r.length.symm
 refine⟨"tuple",_,PyProof.Rows.slot_tuple_getitem.lookup,ht.typeIs, ?_⟩
 refine HT.getItem_tuple_cut ht hs pl pu (by rw[hlen];exact hw) ?_ (by rw[hlen];exact hz)
 rw[hlen]
 refine⟨.ref s.heap.objs.size,_,I.laid (t':=s.toks) (o:= .tup (z85 xs lo hi)) (λb ob q=>Heap.get?_push_of_some _ q) (i7 _) ?_,rfl,q _ (I.hok.fresh (i7 _))⟩
 exact⟨C1 (z2k xs lo hi) hz,_,(r.drop (HT.sIx xs.length 0 lo)).take (HT.sIx xs.length xs.length hi -HT.sIx xs.length 0 lo),IsTup.new _ _⟩
noncomputable def zhU(K:W.Frag):R2:=λx y H Q=> ∃a b xs ys,x= .ref a/\y= .ref b/\SqT K H a xs/\SqT K H b ys/\xs≠[]/\xs.length+ys.length<=sizeLine/\
 (ys=[]->Q (.ref a) H)/\(ys≠[]->∀p,H p=none->Q (.ref p) (upd H p (.tup (xs++ys))))
def J4.nil_iff(r:J4 xs us):us=[]↔xs=[]:=by
 cases r with
 |nil=>simp
 |cons _ _=>simp
def zcM:OpR X (bW .Add) (zhU X.K):=by
 intro pins s σ H x y v u Q I rx ry h
 obtain⟨a,b,xs,ys,rfl,rfl,ha,hb,hx,hz,q1,q2⟩:=h
 cases rx
 cases ry
 obtain⟨its,r1,p1,_⟩:=I.tuple ha
 obtain⟨its2,r2,p2,_⟩:=I.tuple hb
 refine HT.cat_tup p1 p2 (λz=>hx (r1.nil_iff.mp z)) (λz=>⟨.ref a,H,I,rfl,q1 (r2.nil_iff.mp z)⟩) (λz=> ?_) (by rw[<-r1.length,<-r2.length];exact hz)
 refine⟨.ref s.heap.objs.size,_,I.laid (t':=s.toks) (o:= .tup (xs++ys)) (λb ob q=>Heap.get?_push_of_some _ q) (i7 _) ?_,rfl,q2 (λw=>z (r2.nil_iff.mpr w)) _ (I.hok.fresh (i7 _))⟩
 exact⟨by rw[m5];exact hz,_,r1.append r2,IsTup.new _ _⟩
end
noncomputable def ixN(n:Nat)(i:Int):Option Nat:=if 0<=i then(if i<n then some i.toNat else none) else if -(n:Int)<=i then some (i+n).toNat else none
noncomputable def atI{α:Type}(xs:List α)(i:Int):Option α:=(ixN xs.length i).bind λj=>xs[j]?
def z86{n:Nat}{i:Int}{j:Nat}(h:ixN n i=some j):seqIndex? i n=some j/\j<n/\-(n:Int)<=i/\i<n:=by
 unfold ixN at h
 by_cases h0:0<=i
 .rw[if_pos h0] at h
  by_cases h1:i<n
  .rw[if_pos h1] at h
   have e:i.toNat=j:=Option.some.inj h
   exact⟨by rw[ff h0 h1,e],by lia,by lia,h1⟩
  .rw[if_neg h1] at h;cases h
 .rw[if_neg h0] at h
  by_cases h1: -(n:Int)<=i
  .rw[if_pos h1] at h
   have e:(i+n).toNat=j:=Option.some.inj h
   exact⟨by rw[dR (by lia) h1,e],by lia,h1,by lia⟩
  .rw[if_neg h1] at h;cases h
def z87{α:Type}{xs:List α}{i:Int}{v:α}(h:atI xs i=some v): ∃j,seqIndex? i xs.length=some j/\xs[j]? =some v/\j<xs.length/\-(xs.length:Int)<=i/\i<xs.length:=by
 unfold atI at h
 cases e:ixN xs.length i with
 |none=>rw[e] at h;cases h
 |some j=>
  rw[e] at h
  obtain⟨h1,h2,h3,h4⟩:=z86 e
  exact⟨j,h1,h,h2,h3,h4⟩
def zcN{α:Type}{xs:List α}{j:Nat}{v:α}(h:xs[j]? =some v):atI xs (j:Int)=some v:=by
 have hj:j<xs.length:=(List.getElem?_eq_some_iff.mp h).1
 have e:ixN xs.length (j:Int)=some j:=by
  unfold ixN
  rw[if_pos (by lia),if_pos (by lia)];simp
 unfold atI;rw[e];exact h
noncomputable def z0H(b:bi):Prop:= ∀o i,dj b false o i=operate [o,i] (cC o i)
noncomputable def IxR(X:Cx)(r:R2):Prop:=
 ∀(value slice:bi) (pins:List (Addr×bK)) (s:bf) (σ:St) (H:Hp) (x y:V) (v u:be) (Q:VK),Inv X pins σ H s->RelV x v->RelV y u->r x y H Q->
  dj slice false v u=operate [v,u] (cC v u)->bj (bn X.prog X.w) X.A (dF value slice v u) (EP X pins σ Q) X.xe s
noncomputable def MtR(X:Cx)(id:String)(r:V->List V->Hp->VK->Prop):Prop:=
 ∀(pins:List (Addr×bK)) (s:bf) (σ:St) (H:Hp) (x:V) (xs:List V) (v:be) (us:List be) (Q:VK),Inv X pins σ H s->RelV x v->J4 xs us->r x xs H Q->
  bj (bn X.prog X.w) X.A (call (.builtin id) (v::us)) (EP X pins σ Q) X.xe s
section
variable{X:Cx}{a b:bi}{ta tb:TE}{pos:bG}
def IxR.or(h:IxR X r)(h':IxR X r'):IxR X (λx y H Q=>r x y H Q\/r' x y H Q):=by
 intro value slice pins s σ H x y v u Q I rx ry q hs
 rcases q with q|q
 .exact h value slice pins s σ H x y v u Q I rx ry q hs
 .exact h' value slice pins s σ H x y v u Q I rx ry q hs
def zhV(hr:IxR X r)(ha:PE X a ta)(hb:PE X b tb)(hs:z0H b):PE X (.Subscript a b pos) (tOp r ta tb):=by
 intro pins s σ H Q I h
 exact fA (zhK ha hb I h λv u s2 x y H2 I2 rx ry q=>hr a b pins s2 σ H2 x y v u Q I2 rx ry q (hs _ _))
noncomputable def zjh(K:W.Frag):R2:=λx y H Q=> ∃p xs i v,x= .ref p/\y= .int i/\SqL K H p xs/\atI xs i=some v/\Q v H
noncomputable def zji(K:W.Frag):R2:=λx y H Q=> ∃p xs i v,x= .ref p/\y= .int i/\SqT K H p xs/\atI xs i=some v/\Q v H
def zcO:IxR X (zjh X.K):=by
 intro value slice pins s σ H x y v u Q I rx ry h hs
 obtain⟨p,xs,i,z,rfl,rfl,hq,he,q⟩:=h
 cases rx
 obtain⟨t,rfl⟩:=ry
 obtain⟨its,r,pl,hz⟩:=I.list hq
 obtain⟨j,h1,h2,h3,h4,h5⟩:=z87 he
 obtain⟨w,ew,rw'⟩:=r.get h2
 have hl:=r.length
 have hn:=z4F
 have fin:EP X pins σ Q w s:=⟨z,H,I,rw',q⟩
 by_cases h0:0<=i
 .have hj:i.toNat=j:=by
   rw[ff h0 h5] at h1
   exact Option.some.inj h1
  exact item_listR pl.isList h0 (by lia) (by rw[hj];simpa using ew) fin hs
 .have hj:(i+(its.toArray.size:Int)).toNat=j:=by
   rw[dR (by lia) h4] at h1
   rw[m4,<-hl]
   exact Option.some.inj h1
  exact cU (x:=w) pl.isList.typeIs slot_list_getitem.lookup
   (wpAny_getItem_list_neg (Q:=λr s'=>r=w/\EP X pins σ Q r s') pl.isList (by lia) (by rw[m4]<;>lia) (by lia) (by rw[hj];simpa using ew) ⟨rfl,fin⟩) hs
def zeW:IxR X (zji X.K):=by
 intro value slice pins s σ H x y v u Q I rx ry h hs
 obtain⟨p,xs,i,z,rfl,rfl,hq,he,q⟩:=h
 cases rx
 obtain⟨t,rfl⟩:=ry
 obtain⟨its,r,pl,hz⟩:=I.tuple hq
 obtain⟨j,h1,h2,h3,h4,h5⟩:=z87 he
 obtain⟨w,ew,rw'⟩:=r.get h2
 have hl:=r.length
 have hn:=z4F
 have fin:EP X pins σ Q w s:=⟨z,H,I,rw',q⟩
 exact cU (x:=w) pl.typeIs slot_tuple_getitem.lookup
  (getItem_tuple (j:=j) (Q:=λr s'=>r=w/\EP X pins σ Q r s') pl (by lia) (by lia) (by rw[m4,<-hl];exact h1) (by simpa using ew) ⟨rfl,fin⟩) hs
def z79(its:List be)(n j:Nat)(u:be):Obj.mapSeq (·.setIfInBounds j u) {cls:= .type "list",data:= .seq its.toArray n}={cls:= .type "list",data:= .seq (its.set j u).toArray n}:=by
 simp[Obj.mapSeq]
def Inv.lst(I:Inv X pins σ H s)(h:H p=some (.lst xs)):
 ∃(its:List be) (n:Nat),J4 xs its/\s.heap.get? p=some {cls:= .type "list",data:= .seq its.toArray n}/\xs.length<=sizeLine:=by
 obtain⟨z,its,n,r,e⟩:=I.hok p _ h
 exact⟨its,n,r,e,z⟩
def Inv.lstUpd{xs ys:List V}{its its':List be}{n n':Nat}{f:bK->bK}(I:Inv X pins σ H s)(h:H p=some (.lst xs))
 (ho:s.heap.get? p=some {cls:= .type "list",data:= .seq its.toArray n}) (hf:f {cls:= .type "list",data:= .seq its.toArray n}={cls:= .type "list",data:= .seq its'.toArray n'}) (r:J4 ys its') (hz:ys.length<=sizeLine) (t:Nat):
 Inv X pins σ (upd H p (.lst ys)) {s with heap:=s.heap.update p f,toks:=t}:=by
 have e:(s.heap.update p f).get? p=some {cls:= .type "list",data:= .seq its'.toArray n'}:=by
  rw[Heap.get?_update_self f ho (by rw[hf]<;>rfl),hf]
 refine I.write (x:=p) (e:=p) (by rw[h];trivial) (.inl rfl) (λb u hb q=>(Heap.get?_update_other _ _ (Ne.symm hb)).trans q) ⟨_,e⟩ ?_
 exact⟨hz,its',n',r,e⟩
noncomputable def zal:V->V->V->Hp->(Hp->Prop)->Prop:=λo i v H Q=> ∃p xs k j,o= .ref p/\i= .int k/\H p=some (.lst xs)/\ixN xs.length k=some j/\Q (upd H p (.lst (xs.set j v)))
def z6q:zje X zal:=by
 intro pins s σ H o i v ov iv u Q I ro ri rv h
 obtain⟨p,xs,k,j,rfl,rfl,hp,hj,q⟩:=h
 cases ro
 obtain⟨t,rfl⟩:=ri
 obtain⟨its,n,r,ho,hz⟩:=I.lst hp
 obtain⟨h1,h2,h3,h4⟩:=z86 hj
 have hl:=r.length
 have hn:=z4F
 have I':Inv X pins σ (upd H p (.lst (xs.set j v))) {s with heap:=s.heap.update p (Obj.mapSeq (·.setIfInBounds j u))}:=
  I.lstUpd hp ho (z79 its n j u) (r.set rv j) (by rw[List.length_set];exact hz) s.toks
 by_cases h0:0<=k
 .have hk:k.toNat=j:=by
   rw[ff h0 h4] at h1
   exact Option.some.inj h1
  exact W.ki_setAt ho h0 (by lia) (by rw[m4,<-hl];exact h4) (by rw[hk];exact⟨_,I',q⟩)
 .have hk:(k+(its.toArray.size:Int)).toNat=j:=by
   rw[dR (by lia) h3] at h1
   rw[m4,<-hl]
   exact Option.some.inj h1
  exact W.ki_setBack ho (by lia) (by rw[m4,<-hl];exact h3) (by lia) (by rw[hk];exact⟨_,I',q⟩)
def z4K(lo hi:Option Int)(n:Nat):(cj lo hi none n).1=((HT.sIx n 0 lo:Nat):Int)/\(cj lo hi none n).2.1=((HT.sIx n n hi:Nat):Int)/\(cj lo hi none n).2.2=1:=by
 refine⟨?_, ?_,rfl⟩
 .cases lo with
  |none=>simp[cj,HT.sIx]
  |some i=>
   erw[cj,HT.sIx,M9,show(1:Int)>0 by decide,if_true]
   by_cases h:i<0
   .erw[h,if_true]<;>lia
   .erw[h,if_false]<;>lia
 .cases hi with
  |none=>simp[cj,HT.sIx]
  |some i=>
   erw[cj,HT.sIx,M9,show(1:Int)>0 by decide,if_true]
   by_cases h:i<0
   .erw[h,if_true]<;>lia
   .erw[h,if_false]<;>lia
def z3K(its:List be)(lo hi:Option Int):slicePick its.toArray lo hi none=((its.drop (HT.sIx its.length 0 lo)).take (HT.sIx its.length its.length hi -HT.sIx its.length 0 lo)).toArray:=by
 obtain⟨h1,h2,h3⟩:=z4K lo hi its.toArray.size
 unfold slicePick
 rw[h1,h2,h3]
 erw[sliceRange_one,pick_run,m4]<;>rfl
noncomputable def zhW(K:W.Frag):V->Option Int->Option Int->Hp->VK->Prop:=λx lo hi H Q=> ∃a xs,x= .ref a/\SqL K H a xs/\∀p,H p=none->Q (.ref p) (upd H p (.lst (z85 xs lo hi)))
def zcP:SlR X (zhW X.K):=by
 intro pins s σ H x v vl vu lo hi sl Q I rx hs pl pu h
 obtain⟨a,xs,rfl,hx,q⟩:=h
 cases rx
 obtain⟨its,r,ht,hz⟩:=I.list hx
 have hlen:=r.length
 refine⟨"list",_,slot_list_getitem.lookup,ht.isList.typeIs, ?_⟩
 refine wpAny_getItem_list_slice ht.isList hs pl pu .none (by simp) ?_ (by rw[m4]<;>lia)
 rw[z3K,<-hlen]
 refine⟨.ref s.heap.objs.size,_,I.laid (t':=s.toks) (o:= .lst (z85 xs lo hi)) (λb ob q=>Heap.get?_push_of_some _ q) (i7 _) ?_,rfl,q _ (I.hok.fresh (i7 _))⟩
 exact⟨C1 (z2k xs lo hi) hz,_,0,(r.drop (HT.sIx xs.length 0 lo)).take (HT.sIx xs.length xs.length hi -HT.sIx xs.length 0 lo),Heap.get?_push_size _ rfl⟩
def z4L:CallR X (.builtin "len") (λxs H Q=> ∃p ys,xs=[.ref p]/\(SqL X.K H p ys\/SqT X.K H p ys)/\Q (.int ys.length) H):=by
 intro pins s σ H xs us Q I r h
 obtain⟨p,ys,rfl,hq,q⟩:=h
 obtain⟨u,rfl,rx⟩:=z3b r
 cases rx
 have hn:=z4F
 rcases hq with hq|hq
 .obtain⟨its,r',pl,hz⟩:=I.list hq
  have hlen:=r'.length
  exact Calls.call_len_list pl.isList (by erw[m4]<;>lia) ⟨.int ys.length,H,I.tok _,⟨s.toks+1,by rw[m4,hlen]⟩,q⟩
 .obtain⟨its,r',pl,hz⟩:=I.tuple hq
  have hlen:=r'.length
  exact len_tuple pl (by erw[m4]<;>lia) ⟨.int ys.length,H,I.tok _,⟨s.toks+1,by rw[m4,hlen]⟩,q⟩
def z4M:CallR X (.type "list") (λxs H Q=> ∃p ys,xs=[.ref p]/\(SqL X.K H p ys\/SqT X.K H p ys)/\∀l,H l=none->Q (.ref l) (upd H l (.lst ys))):=by
 intro pins s σ H xs us Q I r h
 obtain⟨p,ys,rfl,hq,q⟩:=h
 obtain⟨u,rfl,rx⟩:=z3b r
 cases rx
 have fin: ∀(its:List be),J4 ys its->ys.length<=sizeLine->∀(h':Heap) (c':Nat),(∀b o',s.heap.get? b=some o'->h'.get? b=some o')->
  h'.get? s.heap.objs.size=some {cls:= .type "list",dict:=none,data:= .seq its.toArray c',slots:= #[]}->EP X pins σ Q (.ref s.heap.objs.size) {s with heap:=h'}:=λits r' hz h' c' kp e=>
  ⟨.ref s.heap.objs.size,_,I.laid (t':=s.toks) kp (i7 _) (show X9 X.prog X.w _ h' _ (.lst ys) from⟨hz,its,c',r',e⟩),rfl,q _ (I.hok.fresh (i7 _))⟩
 rcases hq with hq|hq
 .obtain⟨its,r',pl,hz⟩:=I.list hq
  have hlen:=r'.length
  obtain⟨o,ho,hc,n,hd⟩:=pl.isList
  exact call_list_seq p (.inl rfl) ho hc hd (λh' c' kp e=>fin its r' hz h' c' kp e) (by erw[m4]<;>lia)
 .obtain⟨its,r',pl,hz⟩:=I.tuple hq
  have hlen:=r'.length
  obtain⟨o,ho,hc,n,hd⟩:=pl
  exact call_list_seq p (.inr rfl) ho hc hd (λh' c' kp e=>fin its r' hz h' c' kp e) (by erw[m4]<;>lia)
def z3L:CallR X (.type "tuple") (λxs H Q=> ∃p ys,xs=[.ref p]/\((SqL X.K H p ys/\∀l,H l=none->Q (.ref l) (upd H l (.tup ys)))\/(SqT X.K H p ys/\Q (.ref p) H))):=by
 intro pins s σ H xs us Q I r h
 obtain⟨p,ys,rfl,h⟩:=h
 obtain⟨u,rfl,rx⟩:=z3b r
 cases rx
 rcases h with⟨hq,q⟩|⟨hq,q⟩
 .obtain⟨its,r',pl,hz⟩:=I.list hq
  have hlen:=r'.length
  refine call_tuple_list pl.isList (λh' kp=> ?_) (by erw[m4]<;>lia)
  have I1:Inv X pins σ H {s with heap:=h'}:=I.kept (t':=s.toks) kp
  have I2:Inv X pins σ (upd H h'.objs.size (.tup ys)) {s with heap:=h'.push {cls:= .type "tuple",data:= .seq its.toArray}}:=
   I1.laid (t':=s.toks) (λb o e=>Heap.get?_push_of_some _ e) (i7 _) (show X9 X.prog X.w _ _ _ (.tup ys) from⟨hz,its,r',IsTup.new _ _⟩)
  exact⟨.ref h'.objs.size,_,I2,rfl,q _ (I1.hok.fresh (i7 _))⟩
 .obtain⟨its,r',pl,hz⟩:=I.tuple hq
  exact call_tuple_same pl ⟨.ref p,H,I,rfl,q⟩
noncomputable def tyV(K:W.Frag)(T:String)(x:V)(H:Hp):Prop:=match x with
 | .str _=>T= "str"
 | .int _=>T= "int"
 | .ref p=>(T= "list" /\∃xs,SqL K H p xs)\/(T= "tuple" /\∃o,K.lookup p=some o/\o.cls= .type "tuple" /\o.dict=none)\/
  (T= "dict" /\((∃kvs,H p=some (.dK kvs))\/∃kvs,H p=some (.dT kvs)))\/(T= "set" /\∃S n,H p=some (.set S n))
 |_=>False
def zeX(I:Inv X pins σ H s)(r:RelV x v)(ty:tyV X.K T x H):
 s.TypeIs v T/\∀a,v= .ref a->∃ob,s.heap.get? a=some ob/\ob.dict=none:=by
 cases x with
 |str z=>
  obtain⟨t,rfl⟩:=r
  cases(show T= "str" from ty)
  exact⟨typeIs_str s z t,λ_ e=>nomatch e⟩
 |int i=>
  obtain⟨t,rfl⟩:=r
  cases(show T= "int" from ty)
  exact⟨cW s i t,λ_ e=>nomatch e⟩
 |ref p=>
  cases r
  rcases ty with⟨rfl,xs,hq⟩|⟨rfl,o,hk,hc,hd⟩|⟨rfl,hk⟩|⟨rfl,S,n,hk⟩
  .obtain⟨its,_,pl,_⟩:=I.list hq
   refine⟨pl.isList.typeIs,λa e=> ?_⟩
   cases e
   obtain⟨o,n,e,c,hd,_⟩:=pl
   exact⟨o,e,hd⟩
  .refine⟨⟨o,I.kIn p o hk,hc⟩,λa e=> ?_⟩
   cases e
   exact⟨o,I.kIn _ o hk,hd⟩
  .have z: ∃o,s.heap.get? p=some o/\o.ExactDict:=by
    rcases hk with⟨kvs,hk⟩|⟨kvs,hk⟩
    .obtain⟨_,_,_,_,o,_,_,e,ex,_⟩:=I.hok p _ hk
     exact⟨o,e,ex⟩
    .obtain⟨_,_,_,_,o,_,_,e,ex,_⟩:=I.hok p _ hk
     exact⟨o,e,ex⟩
   obtain⟨o,e,ex⟩:=z
   refine⟨⟨o,e,ex.1⟩,λa e2=> ?_⟩
   cases e2
   exact⟨o,e,ex.2.1⟩
  .obtain⟨o,_,_,_,e,ex,_⟩:=I.hok p _ hk
   refine⟨⟨o,e,ex.1⟩,λa e2=> ?_⟩
   cases e2
   exact⟨o,e,ex.2.1⟩
 |_=>exact False.elim ty
noncomputable def tBM(K:W.Frag)(T:String)(r:V->List V->Hp->VK->Prop)(to:TE)(t:TA):TE:=λ σ H Q=>to σ H λx H1=>tyV K T x H1/\t σ H1 λxs H2=>r x xs H2 Q
variable{o e:bi}{es:List bi}{to:TE}{t:TA}{name:Str}{apos cpos:bG}{T id:String}{r:V->List V->Hp->VK->Prop}
def zhX(pa:PlainAttrs T)(slot:Slot T name id)(hty:fN (.builtin id)=pure (.type "method_descriptor"))(hm:MtR X id r)(ho:PE X o to)(ha:PA X (e::es) t)
 (hbase:bN o name X.env (bB o X.env)=bB o X.env:=by rfl)
 (hfew:((bC cpos (bh (e::es) X.env)).all (λx=> !x.1)&&(cm cpos (bS [] X.env)).all (λx=>x.1.isSome)
  &&decide ((e::es).length+([]:List bM).length+(if([]:List bM).isEmpty then 0 else 1)<30))=true:=by rfl)
 (hline:(apos.endLine==cpos.line)=true:=by rfl) (hs:bh (e::es) X.env=(false,bB e X.env)::bh es X.env:=by rfl) (hplain:(bC cpos (bh es X.env)).any (·.1)=false:=by rfl):
 PE X (.Call (.Attribute o name apos) (e::es) [] cpos) (tBM X.K T r to t):=by
 intro pins s σ H Q I h
 refine wpAny_Call_method_late hbase hfew hline rfl (thn (ho pins s σ H _ I h) λv s1 ⟨x,H1,I1,r1,ty,q1⟩=> ?_)
 obtain⟨h1,h2⟩:=zeX I1 r1 ty
 refine⟨T,id,pa,slot,hty,h1,h2, ?_⟩
 have hA:=ha cpos pins s1 σ H1 _ I1 q1
 rw[hs] at hA⊢
 refine Calls.callWith_builtin (by show(false||(bC cpos (bh es X.env)).any (·.1))=false;rw[hplain]<;>rfl) (Calls.evalArgs_plain ?_)
 exact thn hA λus s2 ⟨vs,H2,I2,r2,q2⟩=>hm pins s2 σ H2 x vs v us Q I2 r1 r2 q2
end
noncomputable def MtM(X:Cx)(id:String)(r:V->List V->Hp->VK->Prop):Prop:=
 ∀(pins:List (Addr×bK)) (s:bf) (σ:St) (H:Hp) (x:V) (xs:List V) (v:be) (us:List be) (Q:VK),Inv X pins σ H s->RelV x v->J4 xs us->r x xs H Q->
  bj (bn X.prog X.w) X.A (call (.builtin id) (v::us)) (EP X pins σ Q) X.xe s
def J4.one: ∀{x:V} {us:List be},J4 [x] us->∃u,us=[u]/\RelV x u
 |_,_, .cons r .nil=>⟨_,rfl,r⟩
theorem J4.rep(h:J4 xs us): ∀k:Nat,J4 (m9 k xs).flatten (m9 k us).flatten
 |0=> .nil
 |k+1=>by
  rw[C9,C9,D3,D3]
  exact J4.append h (J4.rep h k)
theorem z2l(its:List be): ∀(k:Nat) (acc:List be),
 O5 (λx1 x2=>x1++x2) acc.toArray (m9 k its.toArray)=(acc++(m9 k its).flatten).toArray
 |0,acc=>by simp
 |k+1,acc=>by
  have e:acc.toArray++its.toArray=(acc++its).toArray:=by simp
  have e2:(acc++its)++(m9 k its).flatten=acc++(m9 (k+1) its).flatten:=by
   rw[C9,D3,A5]
  rw[<-e2,<-z2l its k (acc++its),<-e,C9,E8]
section
variable{X:Cx}{pins:List (Addr×bK)}{σ:St}{H:Hp}{s:bf}{l b:Addr}{xs ys zs:List V}
def Inv.lset{its its':List be}{n:Nat}{f:Array be->Array be}{t':Nat}(I:Inv X pins σ H s)(hH:H l=some (.lst xs))
 (e:s.heap.get? l=some {cls:= .type "list",data:= .seq its.toArray n}) (hf:f its.toArray=its'.toArray) (hv:J4 ys its') (hz:ys.length<=sizeLine):
 Inv X pins σ (upd H l (.lst ys)) {s with heap:=s.heap.update l (Obj.mapSeq f),toks:=t'}:=by
 have q:=PySem.IsL.update e f
 rw[hf] at q
 refine I.write (x:=l) (e:=l) (by rw[hH];exact trivial) (.inl rfl) (λb' u hb hu=>(Heap.get?_update_other s.heap (Obj.mapSeq f) (Ne.symm hb)).trans hu) ⟨_,q⟩ ?_
 exact⟨hz,its',_,hv,q⟩
def Inv.lnew{t':Nat}(I:Inv X pins σ H s)(hv:J4 ys its)(hz:ys.length<=sizeLine):
 Inv X pins σ (upd H s.heap.objs.size (.lst ys)) {s with heap:=s.heap.push {cls:= .type "list",data:= .seq its.toArray},toks:=t'}:=
 I.laid (λ_ _ q=>Heap.get?_push_of_some _ q) (i7 _) ⟨hz,its,0,hv,Heap.get?_push_size _ rfl⟩
def Inv.fresh(I:Inv X pins σ H s):H s.heap.objs.size=none:=I.hok.fresh (i7 _)
def Inv.lstM(I:Inv X pins σ H s)(hH:H l=some (.lst xs)):xs.length<=sizeLine/\∃(its:List be) (n:Nat),J4 xs its/\xs.length=its.length/\s.heap.get? l=some {cls:= .type "list",data:= .seq its.toArray n}:=by
 obtain⟨z,its,n,r,e⟩:=I.hok l _ hH
 exact⟨z,its,n,r,r.length,e⟩
def z6r{n:Nat}(h:n<=sizeLine):Builtin.List.listTooLong n=false:=by
 unfold Builtin.List.listTooLong
 exact decide_eq_false (by lia)
end
section
variable{X:Cx}
noncomputable def z88:V->List V->Hp->VK->Prop:=λx vs H Q=> ∃l xs y,x= .ref l/\vs=[y]/\H l=some (.lst xs)/\xs.length<sizeLine/\Q .non (upd H l (.lst (xs++[y])))
def z4N:MtM X "list.append" z88:=by
 intro pins s σ H x vs v us Q I rx rv h
 obtain⟨l,xs,y,rfl,rfl,hH,hz,q⟩:=h
 cases rx
 obtain⟨u,rfl,ru⟩:=rv.one
 obtain⟨z,its,n,r,hl,e⟩:=I.lstM hH
 refine cr F.slot_list_append ⟨_,e,rfl⟩ F.entry_list_append (F.args_list_append_2 _ _) (PySem.list_append l its.toArray n u (by rw[m4];lia)) ⟨e, ?_⟩
 refine⟨.non,_,I.lset (its':=its++[u]) hH e (by simp) (r.append (.cons ru .nil)) ?_,rfl,q⟩
 rw[m5,F9]
 lia
noncomputable def zhY:R2:=λx y H Q=> ∃l b xs zs,x= .ref l/\y= .ref b/\H l=some (.lst xs)/\H b=some (.lst zs)/\xs.length+zs.length<=sizeLine/\∀p,H p=none->Q (.ref p) (upd H p (.lst (xs++zs)))
def zeY:OpR X (bW .Add) zhY:=by
 intro pins s σ H x y v u Q I rx ry h
 obtain⟨l,b,xs,zs,rfl,rfl,hH,hB,hz,q⟩:=h
 cases rx
 cases ry
 obtain⟨z,its,n,r,hl,e⟩:=I.lstM hH
 obtain⟨z2,its2,n2,r2,hl2,e2⟩:=I.lstM hB
 refine PySem.P.add_list e e2 ?_ (by rw[m4,m4];lia)
 have ea:its.toArray++its2.toArray=(its++its2).toArray:=by simp
 rw[ea]
 exact⟨.ref _,_,I.lnew (t':=s.toks) (r.append r2) (by rw[m5];lia),rfl,q _ I.fresh⟩
noncomputable def zhZ:R2:=λx y H Q=> ∃l k xs,x= .ref l/\y= .int k/\H l=some (.lst xs)/\-(2^63)<=k/\k<2^63/\xs.length*k.toNat<=sizeLine/\
 ∀p,H p=none->Q (.ref p) (upd H p (.lst (m9 k.toNat xs).flatten))
def z5A{α:Type}(xs:List α)(k:Nat):(m9 k xs).flatten.length=k*xs.length:=by
 induction k with
 |zero=>simp
 |succ k ih=>rw[C9,D3,m5,ih,Nat.succ_mul,Nat.add_comm]
def zeZ:OpR X (bW .Mult) zhZ:=by
 intro pins s σ H x y v u Q I rx ry h
 obtain⟨l,k,xs,rfl,rfl,hH,h1,h2,hz,q⟩:=h
 cases rx
 obtain⟨t,rfl⟩:=ry
 obtain⟨z,its,n,r,hl,e⟩:=I.lstM hH
 have hlen:its.toArray.size*k.toNat<=sizeLine:=by rw[m4,<-hl];exact hz
 have hcap: ¬its.toArray.size*k.toNat>(2^63 - 1)/8:=by
  have:(sizeLine:Nat)<=(2^63 - 1)/8:=by decide
  lia
 have hfit: ¬(!Builtin.List.listFitsIndex k)=true:=by
  rw[fitsIndex_both h1 h2]
  exact A9
 have hlong: ¬Builtin.List.listTooLong (its.toArray.size*k.toNat)=true:=by
  rw[z6r hlen]
  exact A9
 have hnew:O5 (λx1 x2=>x1++x2) #[] (m9 (if its.toArray.isEmpty=true then 0 else k.toNat) its.toArray)=(m9 k.toNat its).flatten.toArray:=by
  have f0: ∀m:Nat,O5 (λx1 x2=>x1++x2) #[] (m9 m its.toArray)=(m9 m its).flatten.toArray:=λm=>by
   have:=z2l its m []
   rw[A6] at this
   exact this
  rw[f0]
  cases its with
  |nil=>simp
  |cons a r'=>rw[if_neg (by simp)]
 refine cI (T:= "list") (U:= "int") (by decide) ⟨_,e,rfl⟩ (λs'=>cW s' k t) noFill_list_mul F.fills_int_mul F.slot_int_rmul repeat_list F.slot_int_index.lookup
  (cr F.slot_int_rmul (cW s k t) F.entry_int_rmul (F.args_int_rmul_2 _ _) (int___rmul___int_list k t l its.toArray n)
   ⟨e,rfl,⟨_,e,rfl⟩,cr F.slot_list_mul ⟨_,e,rfl⟩ F.entry_list_mul (F.args_list_mul_2 _ _) (AutoListH.list___mul___list_int_3 l its.toArray n k t hfit hcap hlong) ⟨e, ?_⟩⟩)
 rw[hnew]
 exact⟨.ref _,_,I.lnew (t':=s.toks) (r.rep k.toNat) (by rw[z5A,T4];exact hz),rfl,q _ I.fresh⟩
end
section
variable{prog:bm}{w:bo}{A:bq}{E:be->bf->Prop}{s:bf}
set_option maxRecDepth 100000 in
end
section
variable{κ:Type}[DecidableEq κ]
noncomputable def valV(kvs:List (κ×V))(k:κ):Option V:=(kvs.find? λkv=>decide (kv.1=k)).map (·.2)
noncomputable def z2a(kvs:List (κ×V))(k:κ)(v:V):List (κ×V):=
 if(kvs.any λkv=>decide (kv.1=k))=true then kvs.map (λkv=>if kv.1=k then(kv.1,v) else kv) else kvs++[(k,v)]
def z2b{p:κ×V}(e:p.1=k):valV (p::r) k=some p.2:=by simp[valV,List.find?_cons,e]
def z1o{p:κ×V}(e: ¬p.1=k):valV (p::r) k=valV r k:=by simp[valV,List.find?_cons,e]
theorem z6s(k:κ): ∀kvs:List (κ×V),(kvs.any λkv=>decide (kv.1=k))=(valV kvs k).isSome
 |[]=>rfl
 |p::r=>by
  rw[N3]
  by_cases e:p.1=k
  .erw[z2b e,decide_eq_true e,R4,Option.isSome_some]
  .rw[z1o e,decide_eq_false e,L8];exact z6s k r
def z2m(kvs:List (κ×V))(k:κ)(v:V):(z2a kvs k v).length<=kvs.length+1:=by
 unfold z2a
 split
 .rw[i9];lia
 .rw[m5,A3,B2];lia
def RelO.isSome_eq{o:Option V}{u:Option be}(r:RelO o u):o.isSome=u.isSome:=by
 cases o with
 |none=>cases u with
  |none=>rfl
  |some _=>exact(show False from r).elim
 |some _=>cases u with
  |none=>exact(show False from r).elim
  |some _=>rfl
def KV.val(r:KV kvs vs)(k:κ):RelO (valV kvs k) (dw vs k):=by
 unfold KV at r
 induction r with
 |nil=>exact True.intro
 | @cons p q ps qs h t ih=>
  obtain⟨h1,h2⟩:=h
  by_cases e:p.1=k
  .have e':q.1=k:=h1.symm.trans e
   have b:dw (q::qs) k=some q.2:=by simp[dw,List.find?_cons,e']
   rw[z2b e,b];exact h2
  .have e': ¬q.1=k:=λz=>e (h1.trans z)
   have b:dw (q::qs) k=dw qs k:=by simp[dw,List.find?_cons,e']
   rw[z1o e,b];exact ih
def KV.any{kvs:List (κ×V)}{vs:List (κ×be)}(r:KV kvs vs)(k:κ):(kvs.any λkv=>decide (kv.1=k))=vs.any λkv=>decide (kv.1=k):=by
 unfold KV at r
 induction r with
 |nil=>rfl
 |cons h t ih=>rw[N3,N3,ih,h.1]
def KV.repl(r:KV kvs vs)(k:κ)(ry:RelV y u):
 KV (kvs.map λkv=>if kv.1=k then(kv.1,y) else kv) (vs.map λkv=>if kv.1=k then(kv.1,u) else kv):=by
 unfold KV at r⊢
 induction r with
 |nil=>exact .nil
 | @cons p q ps qs h t ih=>
  rw[i6,i6]
  refine .cons ?_ ih
  obtain⟨h1,h2⟩:=h
  by_cases e:p.1=k
  .rw[if_pos e,if_pos (h1.symm.trans e)];exact⟨h1,ry⟩
  .rw[if_neg e,if_neg (λz=>e (h1.trans z))];exact⟨h1,h2⟩
def KV.put(r:KV kvs vs)(k:κ)(ry:RelV y u):KV (z2a kvs k y) (stored vs k u):=by
 unfold z2a stored
 rw[r.any k]
 by_cases e:(vs.any λkv=>decide (kv.1=k))=true
 .rw[if_pos e,if_pos e];exact r.repl k ry
 .rw[if_neg e,if_neg e];exact Paired.snoc r ⟨rfl,ry⟩
def KV.length{kvs:List (κ×V)}{vs:List (κ×be)}(r:KV kvs vs):kvs.length=vs.length:=Paired.length r
end
def z89(r:RelV (kV k) u):(Y9 P w).is k u=true:=by
 cases k with
 |inl i=>obtain⟨t,e⟩:=(show ∃t,u=Value.int i t from r);subst e;exact z5w P w i t
 |inr x=>obtain⟨t,e⟩:=(show ∃t,u=Value.str x t from r);subst e;exact z5x P w x t
theorem z4O: ∀{ks:List Key} {us:List be},J4 (ks.map kV) us->ItemsAre (Y9 P w) ks us
 |[],_,r=>by rw[A2] at r;cases r;exact .nil
 |k::ks,_,r=>by
  rw[i6] at r
  cases r with
  |cons h t=>exact .cons (z89 h) (z4O t)
noncomputable abbrev KT(H:Hp):List (NK×V)->List (NK×Addr×be)->Prop:=bL λp q=>p.1=q.1/\TK H p.1 q.2.1/\RelV p.2 q.2.2
def KT.val(r:KT H kvs xs)(k:NK):RelO (valV kvs k) ((fg xs k).map (·.2)):=by
 induction r with
 |nil=>exact True.intro
 | @cons p q ps qs h t ih=>
  obtain⟨h1,_,h2⟩:=h
  by_cases e:p.1=k
  .have e':q.1=k:=h1.symm.trans e
   have b:fg (q::qs) k=some q.2:=by simp[fg,List.find?_cons,e']
   rw[z2b e,b];exact h2
  .have e': ¬q.1=k:=λz=>e (h1.trans z)
   have b:fg (q::qs) k=fg qs k:=by simp[fg,List.find?_cons,e']
   rw[z1o e,b];exact ih
def KT.repl(r:KT H kvs xs)(k:NK)(ry:RelV y u):
 KT H (kvs.map λkv=>if kv.1=k then(kv.1,y) else kv) (xs.map (putAt k u)):=by
 induction r with
 |nil=>exact .nil
 | @cons p q ps qs h t ih=>
  rw[i6,i6]
  refine .cons ?_ ih
  obtain⟨h1,h2,h3⟩:=h
  unfold putAt
  by_cases e:p.1=k
  .rw[if_pos e,if_pos (h1.symm.trans e)];exact⟨h1,h2,ry⟩
  .rw[if_neg e,if_neg (λz=>e (h1.trans z))];exact⟨h1,h2,h3⟩
def KT.put(r:KT H kvs xs)(k:NK)(hb:TK H k b)(ry:RelV y u):
 KT H (z2a kvs k y) (storedH xs k b u):=by
 have e:(kvs.any λkv=>decide (kv.1=k))=(fg xs k).isSome:=by
  rw[z6s,(r.val k).isSome_eq,T5]
 unfold z2a storedH
 rw[e]
 by_cases q:(fg xs k).isSome=true
 .rw[if_pos q,if_pos q];exact r.repl k ry
 .rw[if_neg q,if_neg q];exact Paired.snoc r ⟨rfl,hb,ry⟩
def KT.keeps(r:KT H kvs xs)(ht: ∀b ys,H b=some (.tup ys)->H' b=some (.tup ys)):KT H' kvs xs:=
 Paired.mapP r λ_ _ z=>⟨z.1,z.2.1.stay ht,z.2.2⟩
section
variable{P:bm}{w:bo}{H:Hp}{h:Heap}{a:Addr}
def zf0(ok:HOk P w H h)(e:Rd H a u):X9 P w H h a u:=e.ok ok
def z7a{kvs:List (Key×V)}(ok:HOk P w H h)(e:Rd H a (.dK kvs)):kvs.length<=sizeLine/\(a==bD)=false/\∃vs,KV kvs vs/\h.DictOf (Y9 P w) a vs:=
 show X9 P w H h a (.dK kvs) from zf0 ok e
def zi0{kvs:List (Key×V)}(ok:HOk P w H h)(e:H a=some (.dK kvs)):kvs.length<=sizeLine/\(a==bD)=false/\∃vs,KV kvs vs/\h.DictOf (Y9 P w) a vs:=z7a ok (.inl e)
def zcQ{ks:List Key}(ok:HOk P w H h)(e:H a=some (.tup (ks.map kV))):dH (Y9 P w) h ks a:=by
 obtain⟨_,its,r,o,h1,h2,n,h3⟩:=(show X9 P w H h a (.tup (ks.map kV)) from ok a _ e)
 exact⟨o,its.toArray,n,h1,h2,h3,by simpa using z4O r⟩
theorem z5B(ok:HOk P w H h): ∀{k:NK} {xs:List V} {us:List be},bL (TKi H) k xs->J4 xs us->bL (ItN P w h) k us
 |_,_,_, .nil, .nil=> .nil
 | .inl k::_,_,_, .cons a b, .cons c d=>by
  have e:=(show _=kV k from a)
  subst e
  exact .cons (z89 c) (z5B ok b d)
 | .inr ks::_,_,_, .cons a b, .cons c d=>by
  obtain⟨x,rfl,hx⟩:=a
  cases c
  exact .cons ⟨x,rfl,zcQ ok hx⟩ (z5B ok b d)
def z4P(ok:HOk P w H h)(e:TK H k a):(z04 P w).is h k a:=by
 obtain⟨xs,e,p⟩:=e
 obtain⟨_,its,r,o,h1,h2,n,h3⟩:=(show X9 P w H h a (.tup xs) from ok a _ e)
 exact⟨o,its.toArray,n,h1,h2,h3,by simpa using z5B ok p r⟩
def z8a{kvs:List (NK×V)}(ok:HOk P w H h)(e:Rd H a (.dT kvs)):kvs.length<=sizeLine/\(a==bD)=false/\
 ∃xs,KT H kvs xs/\h.DictOfH (z04 P w) a xs:=by
 obtain⟨z,y,xs,r,o,es,ep,h1,h2,h3,h4,h5⟩:=(show X9 P w H h a (.dT kvs) from zf0 ok e)
 refine⟨z,y,xs,r,o,es,ep,h1,h2,h3,h4,λx hx=> ?_,h5⟩
 have all: ∀{l:List (NK×V)} {m:List (NK×Addr×be)},KT H l m->∀x∈m,(z04 P w).is h x.1 x.2.1:=by
  intro l m q
  induction q with
  |nil=>intro x hx;exact nomatch hx
  | @cons p q ps qs hq t ih=>
   intro x hx
   rcases l7.mp hx with e|hx
   .subst e
    exact z4P ok (by rw[<-hq.1];exact hq.2.1)
   .exact ih x hx
 exact all r x hx
def zf1{kvs:List (NK×V)}(ok:HOk P w H h)(e:H a=some (.dT kvs)):kvs.length<=sizeLine/\(a==bD)=false/\
 ∃xs,KT H kvs xs/\h.DictOfH (z04 P w) a xs:=z8a ok (.inl e)
end
noncomputable def zcR(H:Hp)(a:Addr)(y:V)(r:Option V):Prop:=
 (∃kvs k,Rd H a (.dK kvs)/\y=kV k/\r=valV kvs k)\/∃kvs k b,Rd H a (.dT kvs)/\y= .ref b/\TK H k b/\r=valV kvs k
noncomputable def z7L(H:Hp)(a:Addr)(y v:V)(H':Hp):Prop:=
 (∃kvs k,H a=some (.dK kvs)/\y=kV k/\kvs.length<sizeLine/\H'=upd H a (.dK (z2a kvs k v)))\/
 ∃kvs k b,H a=some (.dT kvs)/\y= .ref b/\TK H k b/\kvs.length<sizeLine/\H'=upd H a (.dT (z2a kvs k v))
def z7L.k{H:Hp}{a:Addr}{kvs:List (Key×V)}{k:Key}{v:V}(e:H a=some (.dK kvs))(hl:kvs.length<sizeLine):z7L H a (kV k) v (upd H a (.dK (z2a kvs k v))):= .inl ⟨kvs,k,e,rfl,hl,rfl⟩
def z7L.t{H:Hp}{a b:Addr}{kvs:List (NK×V)}{k:NK}{v:V}(e:H a=some (.dT kvs))(eb:TK H k b)(hl:kvs.length<sizeLine):
 z7L H a (.ref b) v (upd H a (.dT (z2a kvs k v))):= .inr ⟨kvs,k,b,e,rfl,eb,hl,rfl⟩
section
variable{X:Cx}{pins:List (Addr×bK)}{σ:St}{H:Hp}{s:bf}{a:Addr}{y v:V}{u r:be}{o:Option V}{A:bq}{E:be->bf->Prop}
def Inv.big(I:Inv X pins σ H s):bD<s.heap.objs.size:=by
 have h:bp<s.heap.objs.size:=(I.mod.glob.keeps I.bk).lt
 exact u0a (by decide) h
def z8b{Q:be->bf->Prop}(hu:A.units+2<cLine)(I:Inv X pins σ H s)(g:zcR H a y (some v))(ry:RelV y u)(h: ∀w' s',Inv X pins σ H s'->RelV v w'->Q w' s'):
 bj (bn X.prog X.w) A (cC (.ref a) u) Q E s:=by
 rcases g with⟨kvs,k,e,ey,l⟩|⟨kvs,k,b,e,ey,eb,l⟩
 .subst ey
  obtain⟨z,hd,vs,rel,dd⟩:=z7a I.hok e
  obtain⟨w',hw,rw'⟩:=RelO.some_of (v:=v) (o:=dw vs k) (by rw[l];exact rel.val k)
  exact wpAny_getItem_of (z89 ry) dd.mapOf hw (h w' _ (I.tok _) rw')
 .subst ey
  cases(show u=Value.ref b from ry)
  obtain⟨z,hd,xs,rel,dd⟩:=z8a I.hok e
  obtain⟨w',hw,rw'⟩:=RelO.some_of (v:=v) (o:=(fg xs k).map (·.2)) (by rw[l];exact rel.val k)
  obtain⟨p,hp,hp2⟩:=Option.map_eq_some_iff.mp hw
  refine wpAny_getItem_heap (z2h hu) (z4P I.hok eb) dd hp ?_
  rw[hp2]
  exact h w' _ (I.tok _) rw'
def zcS{Q:be->bf->Prop}(hu:A.units+2<cLine)(I:Inv X pins σ H s)(g:zcR H a y o)(ry:RelV y u)(h: ∀s',Inv X pins σ H s'->Q (.bool (!o.isSome)) s'):
 bj (bn X.prog X.w) A (bX .NotIn u (.ref a)) Q E s:=by
 rcases g with⟨kvs,k,e,ey,l⟩|⟨kvs,k,b,e,ey,eb,l⟩
 .subst ey
  obtain⟨z,hd,vs,rel,dd⟩:=z7a I.hok e
  refine wpAny_notIn_of (z89 ry) hd dd.mapOf ?_
  rw[<-(rel.val k).isSome_eq,<-l]
  exact h _ (I.tok _)
 .subst ey
  cases(show u=Value.ref b from ry)
  obtain⟨z,hd,xs,rel,dd⟩:=z8a I.hok e
  refine wpAny_notIn_heap (z2h hu) (z4P I.hok eb) hd dd ?_
  have q:=(rel.val k).isSome_eq
  rw[T5] at q
  rw[<-q,<-l]
  exact h _ (I.tok _)
def z5C{h':Heap}{t':Nat}(I:Inv X pins σ H s)(mu:Mut (H a))(hs:Heap.SameBut a s.heap h')(he: ∃q,h'.get? a=some q)(new:X9 X.prog X.w (upd H a ob) h' a ob):
 Inv X pins σ (upd H a ob) {s with heap:=h',toks:=t'}:=
 I.write (x:=a) (e:=a) mu (.inl rfl) (λb q hb z=>(hs.2 b hb).trans z) he new
def zf2{H':Hp}{h':Heap}{kvs:List (Key×V)}(z:kvs.length<=sizeLine)(hd:(a==bD)=false)(rel:KV kvs vs)(dd:h'.DictOf (Y9 P w) a vs):
 X9 P w H' h' a (.dK kvs):=⟨z,hd,vs,rel,dd⟩
def z8c{Q:Unit->bf->Prop}(hu:A.units+2<cLine)(I:Inv X pins σ H s)(g:z7L H a y v H')(ry:RelV y u)(rv:RelV v r)(h: ∀s',Inv X pins σ H' s'->Q () s'):
 bj (bn X.prog X.w) A (setItem (.ref a) u r) Q E s:=by
 rcases g with⟨kvs,k,e,ey,l,eH⟩|⟨kvs,k,b,e,ey,eb,l,eH⟩
 .subst ey eH
  obtain⟨z,hd,vs,rel,dd⟩:=zi0 I.hok e
  have hz:vs.length<=sizeLine:=by rw[<-rel.length];exact z
  have hl:(z2a kvs k v).length<=sizeLine:=by have:=z2m kvs k v;lia
  refine wpAny_setItem_pairs (hsz:=hz) (z89 ry) dd λh' dd' hs=>h _ ?_
  have he: ∃q,h'.get? a=some q:=let⟨q,_,_,hq,_⟩:=dd';⟨q,hq⟩
  exact z5C I (by rw[e];exact True.intro) hs he (zf2 hl hd (rel.put k rv) dd')
 .subst ey eH
  cases(show u=Value.ref b from ry)
  obtain⟨z,hd,xs,rel,dd⟩:=zf1 I.hok e
  have hz:xs.length<=sizeLine:=by rw[<-Paired.length rel];exact z
  have hl:(z2a kvs k v).length<=sizeLine:=by have:=z2m kvs k v;lia
  refine wpAny_setItem_heap (hsz:=hz) (z2h hu) (z4P I.hok eb) dd λh' dd' hs=>h _ ?_
  obtain⟨q,es,ep,hq,h2,h3,h4,_,h5⟩:=dd'
  refine z5C I (by rw[e];exact True.intro) hs ⟨q,hq⟩ ⟨hl,hd,_,(rel.put k eb rv).keeps λc ys ec=> ?_,q,es,ep,hq,h2,h3,h4,h5⟩
  rw[y9 (z07 ec e (λz=>nomatch z))]
  exact ec
end
noncomputable def zjj(i:bi):Prop:= ∀ov iv,dj i false ov iv=operate [ov,iv] (cC ov iv)
def zcT{prog:bm}{w:bo}{A:bq}{E:be->bf->Prop}{s:bf}{env:dC}{value slice:bi}{pos:bG}{T id:String}{Q:be->bf->Prop}
 (hl:typeLookup (.type T) "__getitem__" =pure (some (.builtin id))) (hs:zjj slice)
 (h:bj (bn prog w) A (bB value env) (λo s₁=>bj (bn prog w) A (bB slice env) (λi s₂=>s₂.TypeIs o T/\bj (bn prog w) A (cC o i) Q E s₂) E s₁) E s):
 bj (bn prog w) A (bB (.Subscript value slice pos) env) Q E s:=by
 refine fA (bE h (λo s₁ h₁=>bE h₁ (λi s₂ h₂=> ?_) λ_ _ x=>x) λ_ _ x=>x)
 obtain⟨hT,h₂⟩:=h₂
 unfold dF
 refine bb ?_
 rw[getitemInPython_of_ne hT.not_modules]
 refine bb (cf hT hl ?_)
 have fin:bj (bn prog w) A (dj slice false o i) (λr s₃=>bj (bn prog w) A (letTemporaryGo value o r>>=λ_=>pure r) Q E s₃) E s₂:=by
  rw[hs o i]
  exact wpAny_operating (bE h₂ (λr s₃ h₃=>bb (wpAny_letTemporaryGo (bg h₃))) λ_ _ x=>x)
 first
  |exact bg (bb fin)
  |exact bb (bg (bb fin))
  |exact bb fin
def z5D{s:bf}(I:Inv X pins σ H s)(g:zcR H a y o):s.TypeIs (.ref a) "dict" :=by
 rcases g with⟨kvs,k,e,_,_⟩|⟨kvs,k,b,e,_,_,_⟩
 .obtain⟨_,_,vs,_,dd⟩:=z7a I.hok e
  exact dd.typeIs
 .obtain⟨_,_,xs,_,dd⟩:=z8a I.hok e
  exact dd.typeIs
noncomputable def zi1(td ty:TE):TE:=λ σ H Q=>td σ H λx H1=>ty σ H1 λy H2=> ∃a v,x= .ref a/\zcR H2 a y (some v)/\Q v H2
noncomputable def zi2(td ty tv:TE):TS:=λD σ H=>tv σ H λv H1=>td σ H1 λx H2=>ty σ H2 λy H3=> ∃a H4,x= .ref a/\z7L H3 a y v H4/\D.nx σ H4
section
variable{X:Cx}{o i e value:bi}{pos pos' tpos:bG}{td ty tv:TE}
def zcU(hu:X.A.units+2<cLine)(ho:PE X o td)(hi:PE X i ty)(hs:zjj i):PE X (.Subscript o i pos) (zi1 td ty):=by
 intro pins s σ H Q I h
 refine zcT PySem.F.slot_dict_getitem.lookup hs (thn (ho pins s σ H _ I h) λu s1 ⟨x,H1,I1,rx,q1⟩=>thn (hi pins s1 σ H1 _ I1 q1) λiv s2 ⟨y,H2,I2,ry,a,v,ex,g,q2⟩=> ?_)
 subst ex
 obtain rfl:u=Value.ref a:=rx
 exact⟨z5D I2 g,z8b hu I2 g ry λw' s3 I3 rw'=>⟨v,H2,I3,rw',q2⟩⟩
def z5E(hu:X.A.units+2<cLine)(ho:PE X o td)(hi:PE X i ty)(hv:PE X value tv)(hs:bO value (some (.Subscript o i pos')) pos.line X.env=pure false):
 PS X (.Assign [.Subscript o i pos'] value pos) (zi2 td ty tv):=by
 intro pins s σ H D I h
 refine wpAny_Assign_Subscript (thn (hv pins s σ H _ I h) λr s1 ⟨v,H1,I1,rv,q1⟩=>thn (ho pins s1 σ H1 _ I1 q1) λu s2 ⟨x,H2,I2,rx,q2⟩=>thn (hi pins s2 σ H2 _ I2 q2) λiv s3 ⟨y,H3,I3,ry,a,H4,ex,g,q3⟩=> ?_) hs
 subst ex
 obtain rfl:u=Value.ref a:=rx
 exact z8c hu I3 g ry rv λs4 I4=>⟨σ,H4,I4,q3⟩
end
def zam(h:Heap)(hb:bD<h.objs.size):X9 P w H (h.push {cls:= .type "dict",data:= .dict #[]}) h.objs.size (.dK []):=
 ⟨C0 _,beq_eq_false_iff_ne.mpr (Ne.symm (B1 hb)),[], .nil,Heap.DictOf.new h⟩
def z6t(h:Heap)(hb:bD<h.objs.size):X9 P w H (h.push {cls:= .type "dict",data:= .dict #[]}) h.objs.size (.dT []):=
 ⟨C0 _,beq_eq_false_iff_ne.mpr (Ne.symm (B1 hb)),[], .nil,_, #[],0,Heap.get?_push_size _ rfl,⟨rfl,rfl,rfl⟩,rfl,rfl,List.nodup_nil⟩
noncomputable def zf3:TE:=λ_ H Q=> ∀p,H p=none->Q (.ref p) (upd H p (.dK []))
noncomputable def zf4:TE:=λ_ H Q=> ∀p,H p=none->Q (.ref p) (upd H p (.dT []))
section
variable{X:Cx}{pos:bG}
def zan:PE X (.Dict [] [] pos) zf3:=λpins s σ H Q I h=>
 fc ⟨.ref s.heap.objs.size,_,I.laid (a:=s.heap.objs.size) (o:= .dK []) (t':=s.toks) (λ_ _ q=>Heap.get?_push_of_some _ q) (i7 _) (zam s.heap I.big),rfl,h _ (I.hok.fresh (i7 _))⟩
def zao:PE X (.Dict [] [] pos) zf4:=λpins s σ H Q I h=>
 fc ⟨.ref s.heap.objs.size,_,I.laid (a:=s.heap.objs.size) (o:= .dT []) (t':=s.toks) (λ_ _ q=>Heap.get?_push_of_some _ q) (i7 _) (z6t s.heap I.big),rfl,h _ (I.hok.fresh (i7 _))⟩
end
noncomputable def z8d:List (TE×TE)->St->Hp->(List (V×V)->Hp->Prop)->Prop
 |[],_,H,Q=>Q [] H
 |(tk,tv)::r,σ,H,Q=>tk σ H λx H1=>tv σ H1 λy H2=>z8d r σ H2 λps H3=>Q ((x,y)::ps) H3
noncomputable abbrev VV:List (V×V)->List (be×be)->Prop:=bL λp q=>RelV p.1 q.1/\RelV p.2 q.2
noncomputable def PPs(X:Cx)(pos:bG)(keys:List (Option bi))(values:List bi)(trs:List (TE×TE)):Prop:=
 ∀(pins:List (Addr×bK)) (s:bf) (σ:St) (H:Hp) (Q:List (V×V)->Hp->Prop),Inv X pins σ H s->z8d trs σ H Q->
  bj (bn X.prog X.w) X.A (evalPairs (pairTrees keys values X.env pos)) (λvs s'=> ∃ps H',Inv X pins σ H' s'/\VV ps vs/\Q ps H') X.xe s
def zcV:PPs X pos [] [] []:=λpins s σ H Q I h=>pairTrees_nil_walk ⟨[],H,I, .nil,h⟩
def zap(hk:PE X k tk)(hv:PE X v tv)(hr:PPs X pos ks vs trs):
 PPs X pos (some k::ks) (v::vs) ((tk,tv)::trs):=λpins s σ H Q I h=>
 pairTrees_cons_walk (thn (hk pins s σ H _ I h) λu s1 ⟨x,H1,I1,rx,q1⟩=>thn (hv pins s1 σ H1 _ I1 q1) λw2 s2 ⟨y,H2,I2,ry,q2⟩=>
  thn (hr pins s2 σ H2 _ I2 q2) λws s3 ⟨ps,H3,I3,rel,q3⟩=>⟨(x,y)::ps,H3,I3, .cons ⟨rx,ry⟩ rel,q3⟩)
structure M1(X:Cx)(o:bi)(m:Str)(apos:bG)(e:bi)(cpos:bG):Prop where
 base:bN o m X.env (bB o X.env)=bB o X.env
 few:((bC cpos (bh [e] X.env)).all (λx=> !x.1)&&(cm cpos (bS [] X.env)).all (λx=>x.1.isSome)
  &&decide (([e]:List bi).length+([]:List bM).length+(if([]:List bM).isEmpty then 0 else 1)<30))=true
 line:(apos.endLine==cpos.line)=true
 trees:bC cpos (bh [e] X.env)=[(false,bB e X.env)]
structure M2(X:Cx)(o:bi)(m:Str)(apos:bG)(e f:bi)(cpos:bG):Prop where
 base:bN o m X.env (bB o X.env)=bB o X.env
 few:((bC cpos (bh [e,f] X.env)).all (λx=> !x.1)&&(cm cpos (bS [] X.env)).all (λx=>x.1.isSome)
  &&decide (([e,f]:List bi).length+([]:List bM).length+(if([]:List bM).isEmpty then 0 else 1)<30))=true
 line:(apos.endLine==cpos.line)=true
 trees:bC cpos (bh [e,f] X.env)=[(false,bB e X.env),(false,bB f X.env)]
noncomputable def IsD(H:Hp)(a:Addr):Prop:=(∃kvs,Rd H a (.dK kvs))\/∃kvs,Rd H a (.dT kvs)
def zf5(I:Inv X pins σ H s)(d:IsD H a):
 s.TypeIs (.ref a) "dict" /\(∀b,Value.ref a= .ref b->∃ob,s.heap.get? b=some ob/\ob.dict=none)/\(a==bD)=false:=by
 rcases d with⟨kvs,e⟩|⟨kvs,e⟩
 .obtain⟨_,hd,vs,_,dd⟩:=z7a I.hok e
  refine⟨dd.typeIs,λb q=> ?_,hd⟩
  cases q
  obtain⟨ob,_,_,h1,h2,_⟩:=dd
  exact⟨ob,h1,h2.2.1⟩
 .obtain⟨_,hd,xs,_,dd⟩:=z8a I.hok e
  refine⟨dd.typeIs,λb q=> ?_,hd⟩
  cases q
  obtain⟨ob,_,_,h1,h2,_⟩:=dd
  exact⟨ob,h1,h2.2.1⟩
end L2
namespace Att
open PySem PySem.W PySem.Calls PyProof.Rows
def z2n: ∀(ns:List Int) (vs:List be),WellAll P h vs (ns.map WData.int)->fh vs ns:=by
 intro ns
 induction ns with
 |nil=>
  intro vs w
  rw[A2] at w
  cases w
  exact .nil
 |cons n ns ih=>
  intro vs w
  rw[i6] at w
  cases w with
  |cons a b=>
   cases a
   exact .cons _ _ (ih _ b)
def z8e{l:OpenLaw}{n:Nat}(hn:l.most=some n){P:Params}{h:Heap}{args:List WData}{vals:List be}
 (hpre:l.row.toRowW.claim.pre args=true) (hwl:WellAll P h vals args):
 ∃a vs ns,vals=[Value.ref a]/\args=[WData.list (ns.map WData.int)]/\h.get? a=some {cls:= .type "list",data:= .seq vs.toArray}/\fh vs ns/\ns.length<=n:=by
 have hsh:WShape.hasAll [] args [.list .int]=true:=(pre_splitW hpre).1
 have hc:l.pre.holds [] {args:=args}=true:=(pre_splitW hpre).2
 obtain⟨d,r,rfl,h1,h2⟩:=hasAllW_cons hsh
 obtain rfl:=hasAllW_nil h2
 obtain⟨xs,rfl,h3⟩:=hasW_list h1
 obtain⟨ns,rfl⟩:=items_int h3
 have hlen:ns.length<=n:=by
  unfold OpenLaw.pre at hc
  have h4:(WTm.not (.lt (.lit (.int (n:Int))) (.len (.arg 0)))).holds [] {args:=[.list (ns.map .int)]}=true:=by
   have h4:=(holds_andW hc).1
   rw[hn] at h4
   exact h4
  have h5:=condW_of h4 (w_not (w_lt w_lit (w_len_list (w_arg rfl))))
  rw[i9] at h5
  refine P8 λq=> ?_
  have q':(n:Int)<((ns.length:Nat):Int):=by lia
  first
   |(rw[decide_eq_true q'] at h5;exact absurd h5 (by decide))
   |(simp at h5;lia)
 cases hwl with
 |cons w1 w2=>
  cases w2
  cases w1 with
  |list ho hall=>exact⟨_,_,ns,rfl,rfl,ho,z2n ns _ hall,hlen⟩
def z8f(l:OpenLaw)(args:List WData):l.row.toRowW.claim.post args (.bool true) args=true:=
 postW_of (r:=l.row.toRowW) (X:=(true==true))
  (show WShape.has [] (.bool true) .bool=true by first|rfl|decide|simp[WShape.has,WShape.arms,WShape.armsAll])
  (show(WTm.eq .res (.lit (.bool true))).value [] {args:=args,res:=some (.bool true),after:=args}=some (.bool (true==true)) from w_eq_bool (w_res rfl) w_lit) rfl
def attach_call{l:OpenLaw}{n:Nat}{q:bm}{loose:List Str}{XP:(Str->Option be)->Heap->Prop}{YP:bo->Heap->Prop}{d:DefRec}
 (hn:l.most=some n) (hdf:d.params.defaults=[])
 (call: ∀(w:bo) (s₀ s₁:bf) (mg mb:Str->Option be) (fa:Addr) (o:bK) (pm cd doc:be) (a:Addr) (vs:List be) (ns:List Int),
  Ground q loose [] XP w s₀ mg mb s₁.heap->YP w s₁.heap->
  s₁.heap.get? fa=some o->o.data= .func (docDef d.name d.params d.body d.scope pm cd doc)->s₁.heap.CodeRec cd d.name->mg d.name=some (.ref fa)->
  s₁.heap.get? a=some {cls:= .type "list",data:= .seq vs.toArray}->fh vs ns->ns.length<=n->s₁.gens= #[]->
  cR (bn l.prog w) dz (.call (.ref fa) ⟨[.ref a],[]⟩) (λr s'=>r= .ok (.ret (.bool true))/\OldK s₁.heap s'.heap/\s'.os=s₁.os/\cB s'.gens) s₁):
 WalkO q loose XP YP l.row.toRowW d [] (λf vs=>PySem.call f vs):=by
 intro w s₀ s₁ mg mb G Y fa o pm cd doc dV kV ho hd hcd hD hmg hg args vals as hpre hlay hrd hwl hlo
 obtain rfl:dV= .none:=Dflts.none hD hdf
 obtain rfl:kV= .none:=Dflts.noKw hD
 obtain⟨a,vs,ns,rfl,rfl,hobj,hints,hlen⟩:=z8e hn hpre hwl
 refine enter_call (cS (call w s₀ s₁ mg mb fa o pm cd doc a vs ns G Y ho (fd_plain hd) hcd hmg hobj hints hlen hg) λr s' hq=> ?_)
 obtain⟨rfl,h2,h3,h4⟩:=hq
 exact⟨.inl ⟨.bool true, .bool true,[],rfl,λ_=>rfl, .bool true,z8f l _,λ_=>⟨List.Pairwise.nil,λ_ hm=>(nomatch hm)⟩⟩,h2,h3,h4⟩
end Att
namespace L2
open PySem PySem.Spec PyProof.Rows
theorem z4Q: ∀{vs:List be} {ns:List Int},fh vs ns->J4 (ns.map V.int) vs
 |_,_, .nil=> .nil
 |_,_, .cons n t h=> .cons ⟨t,rfl⟩ (z4Q h)
noncomputable def zhm(H:Hp):Prop:= ∀b,H b=none\/∃o xs,H b=some (.frz o (.lst xs))
def zaq{P:bm}{w:bo}{K:W.Frag}{mg mb:Str->Option be}{CX:CXT}{k:Nat}{fa a:Addr}{fd:bA}{x:Str}{sp:Sp}{s₁:bf}{vs:List be}{ns:List Int}
 (KX:K.In s₁.heap) (hns:s₁.heap.Ns bp mg) (hb:s₁.heap.Ns fm mb) (hbb: ∀x:Str,x≠ "__name__" ->mb x=bF x) (hlim:s₁.heap.NoLimit) (hg:s₁.gens= #[])
 (ha:s₁.heap.get? a=some {cls:= .type "list",data:= .seq vs.toArray}) (hi:fh vs ns) (hl:ns.length<=sizeLine) (hr:z29 k dz)
 (F: ∀base:Heap,K.In base->base.Ns bp mg->z0c P w K mg base CX k fa fd [x] sp) (hbind: ∀(s:bf) (u:be),cQ s fd ⟨[u],[]⟩ [(x,u)])
 (hsp: ∀H:Hp,zhm H->SqL K H a (ns.map V.int)->sp [.ref a] H (λv _=>v= .bl true) λ_ _ _=>False)
 (hCX: ∀H e s',CX [] H s₁ (λ_ _ _=>False) e s'->False):
 cR (bn P w) dz (.call (.ref fa) ⟨[.ref a],[]⟩) (λr s'=>r= .ok (.ret (.bool true))/\OldK s₁.heap s'.heap/\s'.os=s₁.os/\cB s'.gens) s₁:=by
 have rv:=z4Q hi
 have lenV:=hi.length
 have core: ∀H:Hp,zhm H->SqL K H a (ns.map V.int)->HOk P w H s₁.heap->(∀b,H b≠none->b=a)->(H a≠none->K.lookup a=none)->
  cR (bn P w) dz (.call (.ref fa) ⟨[.ref a],[]⟩) (λr s'=>r= .ok (.ret (.bool true))/\OldK s₁.heap s'.heap/\s'.os=s₁.os/\cB s'.gens) s₁:=by
  intro H hO hS hok hA hK
  have base_of: ∀{b:Addr} {o:bK},s₁.heap.get? b=some o->H b=none->(za9 s₁.heap H).get? b=some o:=λe n=>zaa e n
  have noA: ∀{b:Addr} {o:bK} {es:Array bV} {ep:Nat},s₁.heap.get? b=some o->o.data= .dict es ep->H b=none:=λ{b o es ep} e d=>by
   cases q:H b with
   |none=>rfl
   |some u=>
    have e':b=a:=hA b (by rw[q];simp)
    subst e'
    rw[ha] at e;cases e
    have d':Data.seq vs.toArray _=Data.dict es ep:=d
    cases d'
  have nsK: ∀{b:Addr} {m:Str->Option be},s₁.heap.Ns b m->(za9 s₁.heap H).Ns b m:=λ{b m} ⟨o,es,ep,e,d,r⟩=>⟨o,es,ep,base_of e (noA e d),d,r⟩
  have hKb:K.In (za9 s₁.heap H):=λb o e=>base_of (KX b o e) (by
   cases q:H b with
   |none=>rfl
   |some u=>
    have e':b=a:=hA b (by rw[q];simp)
    subst e'
    rw[hK (by rw[q];simp)] at e;cases e)
  have hM:Mod K mg (za9 s₁.heap H):=⟨hKb,nsK hns,⟨mb,nsK hb,hbb⟩,let⟨mc,h1,h2⟩:=hlim;⟨mc,nsK h1,h2⟩⟩
  have e0:zeS P w K mg (za9 s₁.heap H) dz [] s₁ H:=⟨rfl,hM,λb o e=>zcw e,R5 (z7S _ _),trivial,λb hb=>absurd (show b∈([]:List Addr) from hb) (by simp),hok, .of_eq hg⟩
  refine cS ((F _ hKb (nsK hns)).run dz [] s₁ H ⟨[.ref a],[]⟩ [.ref a] [.ref a] _ _ hr e0 (hbind s₁ (.ref a)) (.cons rfl .nil) (hsp H hO hS)) λr s' h=> ?_
  cases r with
  |error e=>exact(hCX H e s' h).elim
  |ok fl=>
   cases fl with
   |next=>exact False.elim h
   |brk=>exact False.elim h
   |cont=>exact False.elim h
   |ret u=>
    obtain⟨v,H',os,bare,un,hok',r',q⟩:=h
    have q':v= .bl true:=q
    subst q'
    obtain rfl:u=Value.bool true:=r'
    refine⟨rfl,OldK.of_keep λb o e=> ?_,os,bare⟩
    cases q:H b with
    |none=>exact un.keep b o e q (by intro z;exact absurd (show b∈([]:List Addr) from z) (by simp)) (by simp)
    |some u=>
     rcases hO b with z|⟨ob,xs,z⟩
     .rw[q] at z;cases z
     .have z2:=un.frzs b ob _ z
      obtain⟨e1,_⟩:=hok b _ z
      obtain⟨e2,_⟩:=hok' b _ z2
      rw[e] at e1;cases e1
      exact e2
 cases hk:K.lookup a with
 |some o=>
  have e:=KX a o hk
  rw[ha] at e
  cases e
  refine core (λ_=>none) (λ_=> .inl rfl) (.inr ⟨_,vs.toArray,_,hk,rfl,rfl,rfl,by rw[m4,lenV];exact hl,by simpa using rv⟩) (λb u z=>by have z':(none:Option HO)=some u:=z;cases z') (λb z=>absurd rfl z) λz=>absurd rfl z
 |none=>
  refine core (λb=>if b=a then some (.frz {cls:= .type "list",data:= .seq vs.toArray} (.lst (ns.map V.int))) else none) (λb=> ?_) (.inl (.inr ⟨{cls:= .type "list",data:= .seq vs.toArray},if_pos rfl⟩)) (λb u z=> ?_) (λb z=> ?_) λ_=>hk
  .by_cases hb:b=a
   .exact .inr ⟨_,_,if_pos hb⟩
   .exact .inl (if_neg hb)
  .by_cases hb:b=a
   .have z':=(if_pos hb).symm.trans z
    cases z'
    subst hb
    exact⟨ha,by rw[i9];exact hl,vs,_,rv,ha⟩
   .have z':=(if_neg hb).symm.trans z
    cases z'
  .by_cases hb:b=a
   .exact hb
   .exact absurd (if_neg hb) z
def zcW{l:W.OpenLaw}{n k:Nat}{q:bm}{loose:List Str}{XP:(Str->Option be)->Heap->Prop}{YP:bo->Heap->Prop}{d:DefRec}{K:Params->W.Frag}{CX:bo->CXT}{sp:bo->Sp}{x:Str}
 (hn:l.most=some n) (hn2:n<=sizeLine) (hdf:d.params.defaults=[]) (hr:z29 k dz)
 (hY: ∀(w:bo) (h:Heap),YP w h->(K w.params).In h)
 (F: ∀(w:bo) (mg:Str->Option be) (fa:Addr) (h:Heap),(K w.params).In h->h.Ns bp mg->mg d.name=some (.ref fa)->
  ∃fd:bA,(∀(s:bf) (u:be),cQ s fd ⟨[u],[]⟩ [(x,u)])/\
   ∀base:Heap,(K w.params).In base->base.Ns bp mg->z0c l.prog w (K w.params) mg base (CX w) k fa fd [x] (sp w))
 (hsp: ∀(w:bo) (H:Hp) (a:Addr) (ns:List Int),ns.length<=n->zhm H->SqL (K w.params) H a (ns.map V.int)->sp w [.ref a] H (λv _=>v= .bl true) λ_ _ _=>False)
 (hCX: ∀(w:bo) (H:Hp) (s:bf) (e:be) (s':bf),CX w [] H s (λ_ _ _=>False) e s'->False):
 W.WalkO q loose XP YP l.row.toRowW d [] (λf vs=>PySem.call f vs):=by
 refine Att.attach_call hn hdf λw s₀ s₁ mg mb fa o pm cd doc a vs ns G Y ho hd hcd hmg hobj hints hlen hg=> ?_
 have KX:=hY w _ Y
 obtain⟨fd,hb,hF⟩:=F w mg fa _ KX G.T.g hmg
 exact zaq KX G.T.g G.T.b G.T.builtins G.T.nolimit hg hobj hints (C1 hlen hn2) hr hF hb (λH hO hS=>hsp w H a ns hlen hO hS) λH e s'=>hCX w H s₁ e s'
noncomputable def z1c(s:Stmt):Arguments:=match s with
 | .FunctionDef _ a _ _ _ _ _ _ _ _=>a
 |_=>{posonlyargs:=[],args:=[],vararg:=none,kwonlyargs:=[],kw_defaults:=[],kwarg:=none,defaults:=[]}
noncomputable def k7(s:Stmt):List Stmt:=match s with
 | .FunctionDef _ _ b _ _ _ _ _ _ _=>b
 |_=>[]
noncomputable def y4(s:Stmt):Scope:=match s with
 | .FunctionDef _ _ _ _ _ _ sc _ _ _=>sc
 |_=>{kind:= .function,names:=[],isGenerator:=false,isCoroutine:=false}
noncomputable abbrev CX0:CXT:=λ_ _ _ _ _ _=>False
noncomputable abbrev E0:XK:=λ_ _ _=>False
def zi3:z3p CX0 X E0:=λ_ _ _ _ _ _ _ h=>h.elim
structure Fun(K:W.Frag)(x qual:Str)(st:Stmt)(f:Addr)(fd:bA):Prop where
 ex: ∃(oc:be) (od:Option Addr) (kV doc pm:be) (an:Option Addr) (cdv ct:be) (osl:Array (Option be)),
  fd=W.fnOf x qual (z1c st) (k7 st) (y4 st) .none kV doc pm an cdv ct/\K.lookup f=some ⟨oc,od, .func fd,osl⟩/\W.codeIn K cdv qual=true
 kp:W.keepIn K (.ref f)=true
section
variable{P:bm}{w:bo}{K:W.Frag}{mg:Str->Option be}{base:Heap}
def Fun.ok{x qual:Str}{st:Stmt}{f:Addr}{fd:bA}{N ps:List Str}{k:Nat}{sp:Sp}(F:Fun K x qual st f fd)(S:w6 N ps (y4 st))(len: ∀vs H Q E,sp vs H Q E->vs.length=ps.length)
 (hbody: ∀(cdv:be) (A:bq) (outer:List dC) (s:bf) (H:Hp) (vs:List V) (Q:VK) (E:XK),z29 k (A.deeper (envOfC qual (y4 st) s.heap.objs.size f cdv))->sp vs H Q E->
  ∃t,PSs (zai CX0 P w K mg base N qual (y4 st) f cdv A outer s H E).nox (k7 st) t/\t {nx:=λ_ H'=>Q .non H',rt:=Q} (start N vs) H):z0c P w K mg base CX0 (k+1) f fd ps sp:=by
 obtain⟨oc,od,kV,doc,pm,an,cdv,ct,osl,rfl,lk,hcd⟩:=F.ex
 refine zhS lk hcd S len λA outer s H vs Q E hr hsp=> ?_
 obtain⟨t,h,q⟩:=hbody cdv A outer s H vs Q E hr hsp
 exact⟨t,h.nox,q⟩
def Fun.binds{x qual:Str}{st:Stmt}{f:Addr}{fd:bA}{ps:List Str}(F:Fun K x qual st f fd)
 (h: ∀(kV doc pm:be) (an:Option Addr) (cdv ct:be) (us:List be),us.length=ps.length->bindArgs (W.fnOf x qual (z1c st) (k7 st) (y4 st) .none kV doc pm an cdv ct) ⟨us,[]⟩=pure (ps.zip us)):z3c K fd ps []:=by
 obtain⟨oc,od,kV,doc,pm,an,cdv,ct,osl,rfl,lk,hcd⟩:=F.ex
 exact .all (h kV doc pm an cdv ct)
def zf6{x qual:Str}{st:Stmt}{f:Addr}{oc:be}{od an:Option Addr}{osl:Array (Option be)}{kV doc pm cdv ct:be}(l:K.lookup f=some ⟨oc,od, .func (W.fnOf x qual (z1c st) (k7 st) (y4 st) .none kV doc pm an cdv ct),osl⟩)
 (c:W.codeIn K cdv qual=true) (k:W.keepIn K (.ref f)=true):Fun K x qual st f (W.fnOf x qual (z1c st) (k7 st) (y4 st) .none kV doc pm an cdv ct):=⟨⟨oc,od,kV,doc,pm,an,cdv,ct,osl,rfl,l,c⟩,k⟩
end
section
variable{X:Cx}
def pv(i:Nat){pos:bG}(hN:X.N[i]? =some x:=by rfl)(hv:Vis X.env.scope x:=by first|exact Or.inl rfl|exact Or.inr (Or.inl rfl)|exact Or.inr (Or.inr rfl))(hd:(x==("__debug__" :Str))=false:=by decide)
 (hcd:(x==("__classdict__" :Str))=false:=by decide):PE X (.Name x pos) (zhk i):=zex hN hv hd hcd
end
noncomputable def z39(H H':Hp):Prop:= ∀b o,H b=some o->H' b=some o
def z39.refl(H:Hp):z39 H H:=λ_ _ h=>h
end L2
namespace So
open PySem PySem.W PyProof.Rows
noncomputable abbrev En:=dk×Array Keyed
noncomputable def im(i:Nat)(e:En):Keyed:=kas_item e.2 (i %e.2.size)
noncomputable def ar(q:Array Nat)(e:En):Array Keyed:=q.map λi=>im i e
noncomputable def sst(q:Array Nat)(p:Array (Nat×Nat×Nat))(g:Nat)(e:En):SortSt:=SortSt.mk' e.1 (ar q e) p g none
noncomputable def Cmp(prog:bm)(w:bo)(A:bq)(cmp:Nat->Nat->Bool)(G:bf->Prop)(e:En):Prop:=
 ∀i j C s,G s->(∀s',G s'->C (cmp i j) s')->fj prog w A e.1 e.2 (i %e.2.size) (j %e.2.size) C s
noncomputable def Det(cmp:Nat->Nat->Bool){α:Type}(m:En->StateT SortSt Sem α)(st:En->SortSt)(P:(En->α)->(En->SortSt)->Prop):Prop:=
 ∃v st',P v st'/\∀(prog:bm) (w:bo) (A:bq) (E:be->bf->Prop) (e:En) (G:bf->Prop) (Q:α->SortSt->bf->Prop) (s:bf),Cmp prog w A cmp G e->G s->(∀s',G s'->Q (v e) (st' e) s')->kasC (bn prog w) A E (m e) Q (st e) s
variable{cmp:Nat->Nat->Bool}{α β:Type}{st:En->SortSt}
def U0{P:(En->α)->(En->SortSt)->Prop}(h:P a st):Det cmp (λe=>pure (a e)) st P:=
 ⟨a,st,h,λ_ _ _ _ _ _ _ s _ hg hq=>fH (hq s hg)⟩
def y6{m:En->StateT SortSt Sem α}{f:En->α->StateT SortSt Sem β}{P:(En->β)->(En->SortSt)->Prop}(h:Det cmp m st λv st'=>Det cmp (λe=>f e (v e)) st' P):Det cmp (λe=>m e>>=f e) st P:=by
 obtain⟨v,st1,⟨u,st2,hp,h2⟩,h1⟩:=h
 exact⟨u,st2,hp,λprog w A E e G Q s hc hg hq=>fI (h1 prog w A E e G _ s hc hg λs' hg'=>h2 prog w A E e G Q s' hc hg' hq)⟩
def z05{P P':(En->α)->(En->SortSt)->Prop}(h:Det cmp m st P)(hp: ∀v s,P v s->P' v s):Det cmp m st P':=by
 obtain⟨v,st',p,h⟩:=h
 exact⟨v,st',hp _ _ p,h⟩
def zar{P:(En->SortSt)->(En->SortSt)->Prop}(h:P st st):Det cmp (λ_=>get) st P:=
 ⟨st,st,h,λ_ _ _ _ _ _ _ s _ hg hq=>kasC_get (hq s hg)⟩
def zi4{P:(En->PUnit)->(En->SortSt)->Prop}(h:P (λ_=>⟨⟩) a):Det cmp (λe=>set (a e)) st P:=
 ⟨_,a,h,λ_ _ _ _ _ _ _ s _ hg hq=>by
  unfold kasC;rw[StateT.run_set];exact bg (hq s hg)⟩
def z0W{f:En->SortSt->SortSt}{P:(En->PUnit)->(En->SortSt)->Prop}(h:P (λ_=>⟨⟩) (λe=>f e (st e))):Det cmp (λe=>modify (f e)) st P:=
 ⟨_,_,h,λ_ _ _ _ _ _ _ s _ hg hq=>kasC_modify (hq s hg)⟩
def z8g{P:(En->Unit)->(En->SortSt)->Prop}(h:P (λ_=>()) st):Det cmp (λ_=>liftM (rule x)) st P:=
 ⟨_,st,h,λ_ _ _ _ _ _ _ s _ hg hq=>kasC_lift (dI (hq s hg))⟩
def Y6{c:Prop}{i:En->Decidable c}{m m':En->StateT SortSt Sem α}{P:(En->α)->(En->SortSt)->Prop}(h1:c->Det cmp m st P)(h2: ¬c->Det cmp m' st P):Det cmp (λe=> @ite _ c (i e) (m e) (m' e)) st P:=by
 by_cases h:c
 .erw[if_pos h];exact h1 h
 .erw[if_neg h];exact h2 h
def z3r{q:Array Nat}{i:Nat}{P:(En->Keyed)->(En->SortSt)->Prop}(hi:i<q.size)(h:P (im q[i]) st):Det cmp (λe=>elem' (ar q e) i) st P:=
 ⟨_,st,h,λ_ _ _ _ e _ _ s _ hg hq=>by
  have e1:(ar q e)[i]? =some (im q[i] e):=by simp[ar,hi]
  erw[elem'_eq,e1]
  exact fH (hq s hg)⟩
def zhn{g i j:Nat}{P:(En->Option Bool)->(En->SortSt)->Prop}(h:P (λ_=>some (cmp i j)) (sst q p g)):Det cmp (λe=>lt' (im i e) (im j e)) (sst q p g) P:=
 ⟨_,_,h,λprog w A E e G Q s hc hg hq=>by
  erw[lt'_eq]
  refine fI (kasC_get ?_)
  refine fI (kasC_lift (cx (bE (hc i j (λb s'=>b=cmp i j/\G s') s hg λs' h=>⟨rfl,h⟩) (λc s' hc'=> ?_) λ_ _ hF=>hF.elim)))
  obtain⟨rfl,hg'⟩:=hc'
  exact fH (hq s' hg')⟩
def z1X{q:Array Nat}{p:Array (Nat×Nat×Nat)}{g i j:Nat}{P:(En->Option Bool)->(En->SortSt)->Prop}(hi:i<q.size)(hj:j<q.size)(h:P (λ_=>some (cmp q[i] q[j])) (sst q p g)):Det cmp (λ_=>ltAt' i j) (sst q p g) P:=by
 erw[ltAt'_eq]
 exact y6 (zar (y6 (z3r hi (y6 (z3r hj (zhn h))))))
def z6u(u v:Nat->Nat)(l:List Nat)(q:Array Nat)(e:En):l.foldl (λa k=>a.swapIfInBounds (u k) (v k)) (ar q e)=ar (l.foldl (λa k=>a.swapIfInBounds (u k) (v k)) q) e:=kas_swaps_map _ u v l q
def z3M{g i j:Nat}{P:(En->Unit)->(En->SortSt)->Prop}(h:P (λ_=>()) (sst (cX q i j ((j -i)/2)) p g)):Det cmp (λ_=>reverseSlice' i j) (sst q p g) P:=by
 erw[reverseSlice'_eq]
 refine z0W ?_
 have e:(λe=>setArr (sst q p g e) (cX (dS (sst q p g e)) i j ((j -i)/2)))=sst (cX q i j ((j -i)/2)) p g:=by
  funext e
  show SortSt.mk' e.1 (cX (ar q e) i j ((j -i)/2)) p g none=SortSt.mk' e.1 (ar (cX q i j ((j -i)/2)) e) p g none
  rw[show cX (ar q e) i j ((j -i)/2)=ar (cX q i j ((j -i)/2)) e from z6u (λk=>i+k) (λk=>j - 1 -k) _ q e]
 rw[e];exact h
def zf7{g k l:Nat}{P:(En->Unit)->(En->SortSt)->Prop}(h:P (λ_=>()) (sst (cA q k (k -l)) p g)):Det cmp (λ_=>moveDown' k l) (sst q p g) P:=by
 erw[moveDown'_eq]
 refine z0W ?_
 have e:(λe=>setArr (sst q p g e) (cA (dS (sst q p g e)) k (k -l)))=sst (cA q k (k -l)) p g:=by
  funext e
  show SortSt.mk' e.1 (cA (ar q e) k (k -l)) p g none=SortSt.mk' e.1 (ar (cA q k (k -l)) e) p g none
  rw[show cA (ar q e) k (k -l)=ar (cA q k (k -l)) e from z6u (λi=>k -i) (λi=>k -i - 1) _ q e]
 rw[e];exact h
theorem zbB{f:En->Nat->β->StateT SortSt Sem (ForInStep β)}{I:Nat->(En->β)->(En->SortSt)->Prop}{Q:(En->β)->(En->SortSt)->Prop}(hb: ∀(x:Nat) (k:Nat) (b:En->β) (st:En->SortSt),I (k+1) b st->Det cmp (λe=>f e x (b e)) st λv st'=>(∃c,v=(λe=> .done (c e))/\Q c st')\/∃c,v=(λe=> .yield (c e))/\I k c st')(hf: ∀b st,I 0 b st->Q b st):
 ∀(l:List Nat) (b:En->β) (st:En->SortSt),I l.length b st->Det cmp (λe=>forIn l (b e) (f e)) st Q
 |[],b,st,h=>⟨b,st,hf b st h,λ_ _ _ _ _ _ _ s _ hg hq=>kasC_nil (hq s hg)⟩
 |x::l,b,st,h=>by
  obtain⟨v,st1,hp,h1⟩:=hb x l.length b st h
  rcases hp with⟨c,rfl,hp⟩|⟨c,rfl,hp⟩
  .exact⟨c,st1,hp,λprog w A E e G Q s hc hg hq=>fe (h1 prog w A E e G _ s hc hg λs' hg'=>hq s' hg')⟩
  .obtain⟨c2,st2,hp2,h2⟩:=zbB hb hf l c st1 hp
   exact⟨c2,st2,hp2,λprog w A E e G Q s hc hg hq=>fe (h1 prog w A E e G _ s hc hg λs' hg'=>h2 prog w A E e G Q s' hc hg' hq)⟩
def z1F{lo hi:Nat}{f:En->Nat->β->StateT SortSt Sem (ForInStep β)}{b:En->β}(I:Nat->(En->β)->(En->SortSt)->Prop){Q:(En->β)->(En->SortSt)->Prop}(h0:I (hi -lo) b st)(hb: ∀(x:Nat) (k:Nat) (b:En->β) (st:En->SortSt),I (k+1) b st->Det cmp (λe=>f e x (b e)) st λv st'=>(∃c,v=(λe=> .done (c e))/\Q c st')\/∃c,v=(λe=> .yield (c e))/\I k c st')(hf: ∀b st,I 0 b st->Q b st):
 Det cmp (λe=>forIn [lo:hi] (b e) (f e)) st Q:=by
 obtain⟨v,st',hp,h⟩:=zbB (cmp:=cmp) (f:=f) (I:=I) (Q:=Q) hb hf (u0c lo (hi -lo)) b st (by rw[List.length_range'];exact h0)
 exact⟨v,st',hp,λprog w A E e G Q s hc hg hq=>fB (h prog w A E e G Q s hc hg hq)⟩
def Y7{I:(En->β)->(En->SortSt)->Prop}{Q:(En->β)->(En->SortSt)->Prop}(h:Q c st):Det cmp (λe=>pure (ForInStep.done (c e))) st λv st'=>(∃c,v=(λe=> .done (c e))/\Q c st')\/∃c,v=(λe=> .yield (c e))/\I c st':=
 U0 (.inl ⟨c,rfl,h⟩)
def W0{I:(En->β)->(En->SortSt)->Prop}{Q:(En->β)->(En->SortSt)->Prop}(h:I c st):Det cmp (λe=>pure (ForInStep.yield (c e))) st λv st'=>(∃c,v=(λe=> .done (c e))/\Q c st')\/∃c,v=(λe=> .yield (c e))/\I c st':=
 U0 (.inr ⟨c,rfl,h⟩)
def zbC{c:Prop}{i:En->Decidable c}{v:En->β}{I Q:(En->β)->(En->SortSt)->Prop}(h:I v st):Det cmp (λe=> @ite _ c (i e) (pure (ForInStep.done (v e))) (pure (ForInStep.yield (v e)))) st λu st'=>(∃c,u=(λe=> .done (c e))/\(Q c st'\/I c st'))\/∃c,u=(λe=> .yield (c e))/\I c st':=
 Y6 (λ_=>Y7 (.inr h)) λ_=>W0 h
def zf8{Q:Nat->Array Nat->Prop}(R:Nat->Array Nat->Prop){G:Prop}(h:(∀a o,R a o->Q a o)->G)(k: ∀a o,R a o->Q a o):G:=h k
def zf9{Q:Nat->Prop}{G:Prop}(h:(∀mm,Q mm)->G)(k: ∀mm,Q mm):G:=h k
end So
namespace So
open PySem PySem.W PyProof.Rows
noncomputable def gal:Bool->Keyed->Array Keyed->Nat->Nat->Nat->StateT SortSt Sem (Option Nat):=sortPriv%PySem.Builtin.gallop
variable{cmp:Nat->Nat->Bool}{α β:Type}{q:Array Nat}{p:Array (Nat×Nat×Nat)}{g:Nat}
def z4R{left:Bool}{r:Array Nat}{i x:Nat}{P:(En->Option Bool)->(En->SortSt)->Prop}(hi:i<r.size)(h: ∀b,P (λ_=>some b) (sst q p g)):
 Det cmp (λe=>elem' (ar r e) i>>=λy=>if left=true then lt' y (im x e) else lt' (im x e) y>>=λo=>pure (o.map λb=> !b)) (sst q p g) P:=by
 refine y6 (z3r hi ?_)
 cases left with
 |true=>exact zhn (h _)
 |false=>exact y6 (zhn (U0 (h _)))
def z3N{left:Bool}{r:Array Nat}{x base n hint:Nat}{P:(En->Option Nat)->(En->SortSt)->Prop}(hn:base+n<=r.size)(hh:hint<n)(h: ∀k,k<=n->P (λ_=>some k) (sst q p g)):
 Det cmp (λe=>gal left (im x e) (ar r e) base n hint) (sst q p g) P:=by
 refine y6 (z4R (left:=left) (r:=r) (i:=base+hint) (x:=x) (by lia) λb=> ?_)
 cases b with
 |true=>
  refine y6 (z05 (P:=λv st'=>st'=sst q p g/\∃lo hi:Nat,v=(λ_=>(none,lo,hi))) (z1F (I:=λ_ v st'=>st'=sst q p g/\∃lo hi:Nat,v=(λ_=>(none,lo,hi))) ⟨rfl,0,1,rfl⟩ ?_ λ_ _ h=>h) ?_)
  .rintro _ k b st ⟨rfl,lo,hi,rfl⟩
   dsimp only
   refine Y6 (λ_=>Y7 ⟨rfl,lo,hi,rfl⟩) λhlt=> ?_
   refine y6 (z4R (left:=left) (r:=r) (i:=base+(hint+hi)) (x:=x) (by lia) λb=> ?_)
   cases b with
   |true=>exact W0 ⟨rfl,_,_,rfl⟩
   |false=>exact Y7 ⟨rfl,lo,hi,rfl⟩
  .rintro v st ⟨rfl,lo,hi,rfl⟩
   dsimp only
   refine y6 (z05 (P:=λv st'=>st'=sst q p g/\∃lo hi:Nat,v=(λ_=>(none,lo,hi))/\hi<=n) (z1F (I:=λ_ v st'=>st'=sst q p g/\∃lo hi:Nat,v=(λ_=>(none,lo,hi))/\hi<=n) ⟨rfl,_,_,rfl,by lia⟩ ?_ λ_ _ h=>h) ?_)
   .rintro _ k b st ⟨rfl,lo,hi,rfl,hl⟩
    dsimp only
    refine Y6 (λ_=>Y7 ⟨rfl,lo,hi,rfl,hl⟩) λhlt=> ?_
    refine y6 (z4R (left:=left) (r:=r) (x:=x) (by lia) λb=> ?_)
    cases b with
    |true=>exact W0 ⟨rfl,_,hi,rfl,hl⟩
    |false=>exact W0 ⟨rfl,lo,_,rfl,by lia⟩
   .rintro v st ⟨rfl,lo,hi,rfl,hl⟩
    exact U0 (h hi hl)
 |false=>
  refine y6 (z05 (P:=λv st'=>st'=sst q p g/\∃lo hi:Nat,v=(λ_=>(none,lo,hi))) (z1F (I:=λ_ v st'=>st'=sst q p g/\∃lo hi:Nat,v=(λ_=>(none,lo,hi))) ⟨rfl,0,1,rfl⟩ ?_ λ_ _ h=>h) ?_)
  .rintro _ k b st ⟨rfl,lo,hi,rfl⟩
   dsimp only
   refine Y6 (λ_=>Y7 ⟨rfl,lo,hi,rfl⟩) λhlt=> ?_
   refine y6 (z4R (left:=left) (r:=r) (i:=base+(hint -hi)) (x:=x) (by lia) λb=> ?_)
   cases b with
   |true=>exact Y7 ⟨rfl,lo,hi,rfl⟩
   |false=>exact W0 ⟨rfl,_,_,rfl⟩
  .rintro v st ⟨rfl,lo,hi,rfl⟩
   dsimp only
   refine y6 (z05 (P:=λv st'=>st'=sst q p g/\∃lo hi:Nat,v=(λ_=>(none,lo,hi))/\hi<=n) (z1F (I:=λ_ v st'=>st'=sst q p g/\∃lo hi:Nat,v=(λ_=>(none,lo,hi))/\hi<=n) ⟨rfl,_,_,rfl,by lia⟩ ?_ λ_ _ h=>h) ?_)
   .rintro _ k b st ⟨rfl,lo,hi,rfl,hl⟩
    dsimp only
    refine Y6 (λ_=>Y7 ⟨rfl,lo,hi,rfl,hl⟩) λhlt=> ?_
    refine y6 (z4R (left:=left) (r:=r) (x:=x) (by lia) λb=> ?_)
    cases b with
    |true=>exact W0 ⟨rfl,_,hi,rfl,hl⟩
    |false=>exact W0 ⟨rfl,lo,_,rfl,by lia⟩
   .rintro v st ⟨rfl,lo,hi,rfl,hl⟩
    exact U0 (h hi hl)
end So
set_option linter.unusedSimpArgs false
namespace So
open PySem PySem.W PyProof.Rows
noncomputable def mlo:Array Keyed->Array Keyed->StateT SortSt Sem (Array Keyed):=sortPriv%PySem.Builtin.mergeLo
def z2o{q:Array Nat}:(ar q e).size=q.size:=by simp[ar]
def zcX{q:Array Nat}{i:Nat}:(ar q e).push (im i e)=ar (q.push i) e:=by simp[ar]
def zfa:ar q e++ar r e=ar (q++r) e:=by simp[ar]
def z8h{q:Array Nat}{i j:Nat}:(ar q e).extract i j=ar (q.extract i j) e:=by simp[ar]
def zfb{q:Array Nat}:(ar q e).reverse=ar q.reverse e:=by simp[ar]
def zfc{i:Nat}: #[im i e]=ar #[i] e:=by simp[ar]
noncomputable def Al(T:Nat->Prop)(q:Array Nat):Prop:= ∀i∈q,T i
section
variable{T:Nat->Prop}{q r:Array Nat}
def zcY{i:Nat}(h:Al T q)(hi:T i):Al T (q.push i):=λj hj=>by
 rcases Array.mem_push.mp hj with hj|rfl
 .exact h j hj
 .exact hi
def zfd(h:Al T q)(h':Al T r):Al T (q++r):=λj hj=>by
 rcases Array.mem_append.mp hj with hj|hj
 .exact h j hj
 .exact h' j hj
def z4S{i j:Nat}(h:Al T q):Al T (q.extract i j):=λk hk=>h k (by
 obtain⟨n,hn,rfl⟩:=Array.mem_iff_getElem.mp hk
 rw[Array.getElem_extract]
 exact Array.getElem_mem _)
def zfe(h:Al T q):Al T q.reverse:=λk hk=>h k (Array.mem_reverse.mp hk)
def G8{i:Nat}(h:Al T q)(hi:i<q.size):T q[i]:=h _ (Array.getElem_mem hi)
def zff{i:Nat}(h:T i):Al T #[i]:=λj hj=>by
 rw[Array.mem_singleton.mp hj];exact h
end
variable{cmp:Nat->Nat->Bool}{α β:Type}{q:Array Nat}{p:Array (Nat×Nat×Nat)}{g:Nat}
theorem zfg{g':Nat}{P:(En->Unit)->(En->SortSt)->Prop}(h:P (λ_=>()) (sst q p g')):Det cmp (λ_=>(sortPriv%PySem.Builtin.setMinGallop) g') (sst q p g) P:=z0W h
def z2p{st:En->SortSt}{x:String}{f:En->Unit->StateT SortSt Sem β}{P:(En->β)->(En->SortSt)->Prop}(h:Det cmp (λe=>f e ()) st P):Det cmp (λe=>liftM (rule x)>>=f e) st P:=y6 (z8g h)
def z3s{st:En->SortSt}{f:En->SortSt->StateT SortSt Sem β}{P:(En->β)->(En->SortSt)->Prop}(h:Det cmp (λe=>f e (st e)) st P):Det cmp (λe=>get>>=f e) st P:=y6 (zar h)
def J6{st:En->SortSt}{a:Array Nat}{i:Nat}{f:En->Keyed->StateT SortSt Sem β}{P:(En->β)->(En->SortSt)->Prop}(hi:i<a.size)(h:Det cmp (λe=>f e (im a[i] e)) st P):Det cmp (λe=>elem' (ar a e) i>>=f e) st P:=y6 (z3r hi h)
def zfh{i j:Nat}{f:En->Option Bool->StateT SortSt Sem β}{P:(En->β)->(En->SortSt)->Prop}(h:Det cmp (λe=>f e (some (cmp i j))) (sst q p g) P):Det cmp (λe=>lt' (im i e) (im j e)>>=f e) (sst q p g) P:=y6 (zhn h)
noncomputable def Ar(T:Nat->Prop)(f:En->Array Keyed):Prop:= ∃q,f=ar q/\Al T q
section
variable{T:Nat->Prop}{f h:En->Array Keyed}
def zas(a:Al T q):Ar T (ar q):=⟨q,rfl,a⟩
def U1{i:Nat}(a:Ar T f)(hi:T i):Ar T λe=>(f e).push (im i e):=by
 obtain⟨q,rfl,a⟩:=a
 exact⟨q.push i,funext λe=>zcX,zcY a hi⟩
def U8(a:Ar T f)(b:Ar T h):Ar T λe=>f e++h e:=by
 obtain⟨q,rfl,a⟩:=a
 obtain⟨r,rfl,b⟩:=b
 exact⟨q++r,funext λe=>zfa,zfd a b⟩
def U9{i j:Nat}(a:Ar T f):Ar T λe=>(f e).extract i j:=by
 obtain⟨q,rfl,a⟩:=a
 exact⟨q.extract i j,funext λe=>z8h,z4S a⟩
def z3t(a:Ar T f):Ar T λe=>(f e).reverse:=by
 obtain⟨q,rfl,a⟩:=a
 exact⟨q.reverse,funext λe=>zfb,zfe a⟩
def z3u{i:Nat}(hi:T i):Ar T λe=> #[im i e]:=⟨#[i],funext λe=>zfc,zff hi⟩
end
theorem z3O{g':Nat}{f:En->Unit->StateT SortSt Sem β}{P:(En->β)->(En->SortSt)->Prop}(h:Det cmp (λe=>f e ()) (sst q p g') P):Det cmp (λe=>(sortPriv%PySem.Builtin.setMinGallop) g'>>=f e) (sst q p g) P:=y6 (zfg h)
def z1p{left:Bool}{r:Array Nat}{x base n hint:Nat}{f:En->Option Nat->StateT SortSt Sem β}{P:(En->β)->(En->SortSt)->Prop}(hn:base+n<=r.size)(hh:hint<n)(h: ∀k,k<=n->Det cmp (λe=>f e (some k)) (sst q p g) P):Det cmp (λe=>gal left (im x e) (ar r e) base n hint>>=f e) (sst q p g) P:=y6 (z3N hn hh h)
def zbD{Q:Nat->(En->Array Keyed)->Prop}(R:Nat->(En->Array Keyed)->Prop){G:Prop}(h:(∀a o,R a o->Q a o)->G)(k: ∀a o,R a o->Q a o):G:=h k
def z3v{γ:Type}{lo hi:Nat}{st:En->SortSt}{f:En->Nat->β->StateT SortSt Sem (ForInStep β)}{b:En->β}{g:En->β->StateT SortSt Sem γ}(I:Nat->(En->β)->(En->SortSt)->Prop)(Q:(En->β)->(En->SortSt)->Prop){P:(En->γ)->(En->SortSt)->Prop}(h0:I (hi -lo) b st)
 (hb: ∀(x:Nat) (k:Nat) (b:En->β) (st:En->SortSt),I (k+1) b st->Det cmp (λe=>f e x (b e)) st λv st'=>(∃c,v=(λe=> .done (c e))/\Q c st')\/∃c,v=(λe=> .yield (c e))/\I k c st')
 (hf: ∀b st,I 0 b st->Q b st) (hk: ∀v st',Q v st'->Det cmp (λe=>g e (v e)) st' P):Det cmp (λe=>forIn [lo:hi] (b e) (f e)>>=g e) st P:=y6 (z05 (z1F I h0 hb hf) hk)
noncomputable def Rt(T:Nat->Prop)(q:Array Nat)(p:Array (Nat×Nat×Nat)){β:Type}(v:En->Option (Array Keyed)×β)(st:En->SortSt):Prop:= ∃(mq:En->Array Keyed) (b:En->β) (g:Nat),v=(λe=>(some (mq e),b e))/\Ar T mq/\st=sst q p g
local macro_rules | `(tactic| walk_at "al") => `(tactic| (repeat' first | with_reducible assumption | with_reducible refine G8 ?_ _ | with_reducible refine U1 ?_ ?_ | with_reducible refine U8 ?_ ?_ | with_reducible refine U9 ?_ | with_reducible refine z3t ?_))
def zi5{T:Nat->Prop}{qa qb:Array Nat}{P:(En->Array Keyed)->(En->SortSt)->Prop}(ha:Al T qa)(hb:Al T qb)(a1:1<=qa.size)(b1:1<=qb.size)(h0: ∀mq g',Al T mq->P (ar mq) (sst q p g')):
 Det cmp (λe=>mlo (ar qa e) (ar qb e)) (sst q p g) P:=by
 have h: ∀(mq:En->Array Keyed) g',Ar T mq->P mq (sst q p g'):=λmq g' ⟨r,e,a⟩=>e▸h0 r g' a
 have fa:=zas ha
 have fb:=zas hb
 refine z2p ?_
 conv=>
  enter [2,e]
  rw[z2o,z2o]
 refine J6 (by lia) ?_
 refine Y6 (λ_=>U0 (h _ _ ?_)) λc1=>Y6 (λ_=>U0 (h _ _ ?_)) λc2=> ?_
 .exact U8 (U8 (z3u (G8 hb _)) (U9 fa)) (U9 fb)
 .exact U8 (U8 (z3u (G8 hb _)) (U9 fb)) (U9 fa)
 erw[beq_iff_eq] at c1 c2
 refine z3s ?_
 try dsimp only
 refine z3v (Q:=λv st'=>Rt T q p v st') (I:=λk v st'=> ∃(out:En->Array Keyed) (ia ib mg g':Nat),v=(λe=>(none,out e,ia,ib,mg))/\st'=sst q p g'/\Ar T out/\ia+1<qa.size/\ib<qb.size/\qa.size+qb.size+1<=ia+ib+k) ⟨_,0,1,g,g,rfl,rfl,z3u (G8 hb (by lia)),by lia,by lia,by lia⟩ ?_ ?_ ?_
 .rintro _ k b st ⟨out,ia,ib,mg,g',rfl,rfl,ho,hia,hib,hk⟩
  try dsimp only
  refine z3v (Q:=λv st'=>Rt T q p v st'\/∃(out:En->Array Keyed) (ja jb ac bc:Nat),v=(λe=>(none,out e,ja,jb,ac,bc))/\st'=sst q p g'/\Ar T out/\ja+1<qa.size/\jb<qb.size/\ia+ib+1<=ja+jb) (I:=λk v st'=> ∃(out:En->Array Keyed) (ja jb ac bc:Nat),v=(λe=>(none,out e,ja,jb,ac,bc))/\st'=sst q p g'/\Ar T out/\ja+1<qa.size/\jb<qb.size/\ia+ib+(qa.size+qb.size)<=ja+jb+k/\k<=qa.size+qb.size) ⟨out,ia,ib,0,0,rfl,rfl,ho,hia,hib,by lia,by lia⟩ ?_ ?_ ?_
  .rintro _ k b st ⟨out,ja,jb,ac,bc,rfl,rfl,ho,hja,hjb,hp,hk2⟩
   try dsimp only
   refine J6 hjb (J6 (by lia) (zfh ?_))
   try dsimp only
   cases cmp qb[jb] qa[ja] with
   |true=>
    refine J6 hjb ?_
    try dsimp only
    refine Y6 (λ_=>Y7 (.inl ⟨_,_,_,rfl,U8 (U8 (U1 ho (G8 hb _)) (U9 fa)) (U9 fb),rfl⟩)) λc=> ?_
    erw[beq_iff_eq] at c
    refine Y6 (λ_=>Y7 (.inr ⟨_,_,_,_,_,rfl,rfl,U1 ho (G8 hb _),hja,by lia,by lia⟩)) λ_=>W0 ⟨_,_,_,_,_,rfl,rfl,U1 ho (G8 hb _),hja,by lia,by lia,by lia⟩
   |false=>
    refine J6 (by lia) ?_
    try dsimp only
    refine Y6 (λ_=>Y7 (.inl ⟨_,_,_,rfl,U8 (U8 (U1 ho (G8 ha _)) (U9 fb)) (U9 fa),rfl⟩)) λc=> ?_
    erw[beq_iff_eq] at c
    refine Y6 (λ_=>Y7 (.inr ⟨_,_,_,_,_,rfl,rfl,U1 ho (G8 ha _),by lia,hjb,by lia⟩)) λ_=>W0 ⟨_,_,_,_,_,rfl,rfl,U1 ho (G8 ha _),by lia,hjb,by lia,by lia⟩
  .rintro b st ⟨out,ja,jb,ac,bc,rfl,rfl,ho,hja,hjb,hp,hk2⟩
   exact .inr ⟨_,_,_,_,_,rfl,rfl,ho,hja,hjb,by lia⟩
  .rintro v st (⟨mq,b,g2,rfl,hm,rfl⟩|⟨out,ja,jb,ac,bc,rfl,rfl,ho,hja,hjb,hp⟩)
   .exact Y7 ⟨_,_,_,rfl,hm,rfl⟩
   try dsimp only
   refine z2p ?_
   refine z3v (Q:=λv st'=>Rt T q p v st'\/∃(out:En->Array Keyed) (ka kb mg ac bc g':Nat),v=(λe=>(none,out e,ka,kb,mg,ac,bc))/\st'=sst q p g'/\Ar T out/\ka+1<qa.size/\kb<qb.size/\ja+jb<=ka+kb) (I:=λk v st'=> ∃(out:En->Array Keyed) (ka kb mg ac bc g':Nat),v=(λe=>(none,out e,ka,kb,mg,ac,bc))/\st'=sst q p g'/\Ar T out/\ka+1<qa.size/\kb<qb.size/\ja+jb<=ka+kb) ⟨out,ja,jb,_,ac,bc,_,rfl,rfl,ho,hja,hjb,by lia⟩ ?_ (λb st h=> .inr h) ?_
   .rintro _ k b st ⟨out,ka,kb,mg,ac,bc,g2,rfl,rfl,ho,hka,hkb,hp2⟩
    try dsimp only
    apply zf9
    .intro key
     refine Y6 (c:=mg>1) (λ_=> ?_) (λ_=> ?_)
     rotate_left
     .generalize mg=z
      exact key z
     .exact key _
    .intro mm
     try dsimp only
     refine z3O (J6 hkb (z1p (by lia) (by lia) λk hk=> ?_))
     try dsimp only
     obtain⟨KA,hKA⟩: ∃KA,KA=ka:=⟨_,rfl⟩
     apply zbD (λa o=>Ar T o/\a+1<qa.size/\KA<=a)
     .intro key
      refine Y6 (λk0=>Y6 (λ_=>Y7 (.inl ⟨_,_,_,rfl, ?_,rfl⟩)) λc1=>Y6 (λ_=>Y7 (.inl ⟨_,_,_,rfl, ?_,rfl⟩)) λc2=> ?_) (λk0=> ?_)
      .walk_at "al"
      .walk_at "al"
      rotate_left
      .have r:Ar T out/\ka+1<qa.size/\KA<=ka:=⟨ho,hka,by lia⟩
       revert r
       generalize out=z2
       generalize ka=z1
       intro r
       exact key z1 z2 r
      .erw[beq_iff_eq] at c1 c2
       refine key _ _ ⟨?_,by lia,by lia⟩
       walk_at "al"
     .intro ka0 out0 r0
      obtain⟨ho0,ka01,ka02⟩:=r0
      try dsimp only
      refine J6 hkb ?_
      refine Y6 (λ_=>Y7 (.inl ⟨_,_,_,rfl, ?_,rfl⟩)) λc3=> ?_
      .walk_at "al"
      erw[beq_iff_eq] at c3
      refine J6 (by lia) (z1p (by lia) (by lia) λk' hk'=> ?_)
      try dsimp only
      refine Y6 (λk1=>Y6 (λ_=>Y7 (.inl ⟨_,_,_,rfl, ?_,rfl⟩)) λc4=> ?_) (λk1=> ?_)
      .walk_at "al"
      all_goals
       try erw[beq_iff_eq] at c4
       refine J6 (by lia) ?_
       refine Y6 (λ_=>Y7 (.inl ⟨_,_,_,rfl, ?_,rfl⟩)) λc5=> ?_
       .walk_at "al"
       erw[beq_iff_eq] at c5
       refine zbC ⟨_,_,_,_,_,_,_,rfl,rfl, ?_,by lia,by lia,by lia⟩
       walk_at "al"
   .rintro v st (⟨mq,b,g2,rfl,hm,rfl⟩|⟨out,ka,kb,mg,ac,bc,g2,rfl,rfl,ho,hka,hkb,hp2⟩)
    .exact Y7 ⟨_,_,_,rfl,hm,rfl⟩
    .try dsimp only
     exact z3O (W0 ⟨_,_,_,_,_,rfl,rfl,ho,hka,hkb,by lia⟩)
 .rintro b st ⟨out,ia,ib,mg,g',rfl,rfl,ho,hia,hib,hk⟩
  lia
 .rintro v st ⟨mq,b,g',rfl,hm,rfl⟩
  exact U0 (h _ _ hm)
end So
namespace So
open PySem PySem.W PyProof.Rows
noncomputable def mhi:Array Keyed->Array Keyed->StateT SortSt Sem (Array Keyed):=sortPriv%PySem.Builtin.mergeHi
variable{cmp:Nat->Nat->Bool}{α β:Type}{q:Array Nat}{p:Array (Nat×Nat×Nat)}{g:Nat}
local macro_rules | `(tactic| walk_at "al") => `(tactic| (repeat' first | with_reducible assumption | with_reducible refine G8 ?_ _ | with_reducible refine U1 ?_ ?_ | with_reducible refine U8 ?_ ?_ | with_reducible refine U9 ?_ | with_reducible refine z3t ?_))
def zi6{T:Nat->Prop}{qa qb:Array Nat}{P:(En->Array Keyed)->(En->SortSt)->Prop}(ha:Al T qa)(hb:Al T qb)(a1:1<=qa.size)(b1:1<=qb.size)(h0: ∀mq g',Al T mq->P (ar mq) (sst q p g')):
 Det cmp (λe=>mhi (ar qa e) (ar qb e)) (sst q p g) P:=by
 have h: ∀(mq:En->Array Keyed) g',Ar T mq->P mq (sst q p g'):=λmq g' ⟨r,e,a⟩=>e▸h0 r g' a
 have fa:=zas ha
 have fb:=zas hb
 refine z2p ?_
 conv=>
  enter [2,e]
  rw[z2o,z2o]
 refine J6 (by lia) ?_
 refine Y6 (λ_=>U0 (h _ _ ?_)) λc1=>Y6 (λ_=>U0 (h _ _ ?_)) λc2=> ?_
 .exact U8 (U8 (U9 fa) (U9 fb)) (z3t (z3u (G8 ha _)))
 .exact U8 (U8 (U9 fb) (U9 fa)) (z3t (z3u (G8 ha _)))
 erw[beq_iff_eq] at c1 c2
 refine z3s ?_
 try dsimp only
 refine z3v (Q:=λv st'=>Rt T q p v st') (I:=λk v st'=> ∃(na nb:Nat) (out:En->Array Keyed) (mg g':Nat),v=(λe=>(none,na,nb,out e,mg))/\st'=sst q p g'/\Ar T out/\1<=na/\na<=qa.size/\2<=nb/\nb<=qb.size/\na+nb+1<=k) ⟨qa.size - 1,qb.size,_,g,g,rfl,rfl,z3u (G8 ha (by lia)),by lia,by lia,by lia,by lia,by lia⟩ ?_ ?_ ?_
 .rintro _ k b st ⟨na,nb,out,mg,g',rfl,rfl,ho,na1,na2,nb1,nb2,hk⟩
  try dsimp only
  refine z3v (Q:=λv st'=>Rt T q p v st'\/∃(ja jb:Nat) (out:En->Array Keyed) (ac bc:Nat),v=(λe=>(none,ja,jb,out e,ac,bc))/\st'=sst q p g'/\Ar T out/\1<=ja/\ja<=qa.size/\2<=jb/\jb<=qb.size/\ja+jb+1<=na+nb) (I:=λk v st'=> ∃(ja jb:Nat) (out:En->Array Keyed) (ac bc:Nat),v=(λe=>(none,ja,jb,out e,ac,bc))/\st'=sst q p g'/\Ar T out/\1<=ja/\ja<=qa.size/\2<=jb/\jb<=qb.size/\ja+jb+(qa.size+qb.size)<=na+nb+k/\k<=qa.size+qb.size) ⟨na,nb,out,0,0,rfl,rfl,ho,na1,na2,nb1,nb2,by lia,by lia⟩ ?_ ?_ ?_
  .rintro _ k b st ⟨ja,jb,out,ac,bc,rfl,rfl,ho,ja1,ja2,jb1,jb2,hp,hk2⟩
   try dsimp only
   refine J6 (by lia) (J6 (by lia) (zfh ?_))
   try dsimp only
   cases cmp qb[jb - 1] qa[ja - 1] with
   |true=>
    refine J6 (by lia) ?_
    try dsimp only
    refine Y6 (λ_=>Y7 (.inl ⟨_,_,_,rfl,U8 (U8 (U9 fa) (U9 fb)) (z3t (U1 ho (G8 ha _))),rfl⟩)) λc=> ?_
    erw[beq_iff_eq] at c
    refine Y6 (λ_=>Y7 (.inr ⟨_,_,_,_,_,rfl,rfl,U1 ho (G8 ha _),by lia,by lia,by lia,by lia,by lia⟩)) λ_=>W0 ⟨_,_,_,_,_,rfl,rfl,U1 ho (G8 ha _),by lia,by lia,by lia,by lia,by lia,by lia⟩
   |false=>
    refine J6 (by lia) ?_
    try dsimp only
    refine Y6 (λ_=>Y7 (.inl ⟨_,_,_,rfl,U8 (U8 (U9 fb) (U9 fa)) (z3t (U1 ho (G8 hb _))),rfl⟩)) λc=> ?_
    erw[beq_iff_eq] at c
    refine Y6 (λ_=>Y7 (.inr ⟨_,_,_,_,_,rfl,rfl,U1 ho (G8 hb _),by lia,by lia,by lia,by lia,by lia⟩)) λ_=>W0 ⟨_,_,_,_,_,rfl,rfl,U1 ho (G8 hb _),by lia,by lia,by lia,by lia,by lia,by lia⟩
  .rintro b st ⟨ja,jb,out,ac,bc,rfl,rfl,ho,ja1,ja2,jb1,jb2,hp,hk2⟩
   exact .inr ⟨_,_,_,_,_,rfl,rfl,ho,ja1,ja2,jb1,jb2,by lia⟩
  .rintro v st (⟨mq,b,g2,rfl,hm,rfl⟩|⟨ja,jb,out,ac,bc,rfl,rfl,ho,ja1,ja2,jb1,jb2,hp⟩)
   .exact Y7 ⟨_,_,_,rfl,hm,rfl⟩
   try dsimp only
   refine z2p ?_
   refine z3v (Q:=λv st'=>Rt T q p v st'\/∃(ka kb:Nat) (out:En->Array Keyed) (mg ac bc g':Nat),v=(λe=>(none,ka,kb,out e,mg,ac,bc))/\st'=sst q p g'/\Ar T out/\1<=ka/\ka<=qa.size/\2<=kb/\kb<=qb.size/\ka+kb<=ja+jb) (I:=λk v st'=> ∃(ka kb:Nat) (out:En->Array Keyed) (mg ac bc g':Nat),v=(λe=>(none,ka,kb,out e,mg,ac,bc))/\st'=sst q p g'/\Ar T out/\1<=ka/\ka<=qa.size/\2<=kb/\kb<=qb.size/\ka+kb<=ja+jb) ⟨ja,jb,out,_,ac,bc,_,rfl,rfl,ho,ja1,ja2,jb1,jb2,by lia⟩ ?_ (λb st h=> .inr h) ?_
   .rintro _ k b st ⟨ka,kb,out,mg,ac,bc,g2,rfl,rfl,ho,ka1,ka2,kb1,kb2,hp2⟩
    try dsimp only
    apply zf9
    .intro key
     refine Y6 (c:=mg>1) (λ_=> ?_) (λ_=> ?_)
     rotate_left
     .generalize mg=z
      exact key z
     .exact key _
    .intro mm
     try dsimp only
     refine z3O (J6 (by lia) (z1p (by lia) (by lia) λk hk=> ?_))
     try dsimp only
     obtain⟨W,hW⟩: ∃W,ka -k=W:=⟨_,rfl⟩
     erw[hW]
     obtain⟨KA,hKA⟩: ∃KA,KA=ka:=⟨_,rfl⟩
     apply zbD (λa o=>Ar T o/\1<=a/\a<=KA)
     .intro key
      refine Y6 (λk0=>Y6 (λ_=>Y7 (.inl ⟨_,_,_,rfl, ?_,rfl⟩)) λc1=> ?_) (λk0=> ?_)
      .walk_at "al"
      rotate_left
      .have r:Ar T out/\1<=ka/\ka<=KA:=⟨ho,ka1,by lia⟩
       revert r
       generalize out=z2
       generalize ka=z1
       intro r
       exact key z1 z2 r
      .erw[beq_iff_eq] at c1
       refine key _ _ ⟨?_,by lia,by lia⟩
       walk_at "al"
     .intro ka0 out0 r0
      obtain⟨ho0,ka01,ka02⟩:=r0
      try dsimp only
      refine J6 (by lia) ?_
      try dsimp only
      refine Y6 (λ_=>Y7 (.inl ⟨_,_,_,rfl, ?_,rfl⟩)) λc3=> ?_
      .walk_at "al"
      erw[beq_iff_eq] at c3
      refine J6 (by lia) (z1p (by lia) (by lia) λk' hk'=> ?_)
      try dsimp only
      refine Y6 (λk1=>Y6 (λ_=>Y7 (.inl ⟨_,_,_,rfl, ?_,rfl⟩)) λc4=>Y6 (λ_=>Y7 (.inl ⟨_,_,_,rfl, ?_,rfl⟩)) λc6=> ?_) (λk1=> ?_)
      .walk_at "al"
      .walk_at "al"
      all_goals
       try erw[beq_iff_eq] at c4 c6
       refine J6 (by lia) ?_
       try dsimp only
       refine Y6 (λ_=>Y7 (.inl ⟨_,_,_,rfl, ?_,rfl⟩)) λc5=> ?_
       .walk_at "al"
       erw[beq_iff_eq] at c5
       erw[A7,decide_eq_true_eq]
       refine zbC ⟨_,_,_,_,_,_,_,rfl,rfl, ?_,by lia,by lia,by lia,by lia,by lia⟩
       walk_at "al"
   .rintro v st (⟨mq,b,g2,rfl,hm,rfl⟩|⟨ka,kb,out,mg,ac,bc,g2,rfl,rfl,ho,ka1,ka2,kb1,kb2,hp2⟩)
    .exact Y7 ⟨_,_,_,rfl,hm,rfl⟩
    .try dsimp only
     exact z3O (W0 ⟨_,_,_,_,_,rfl,rfl,ho,ka1,ka2,kb1,kb2,by lia⟩)
 .rintro b st ⟨na,nb,out,mg,g',rfl,rfl,ho,na1,na2,nb1,nb2,hk⟩
  lia
 .rintro v st ⟨mq,b,g',rfl,hm,rfl⟩
  exact U0 (h _ _ hm)
end So
namespace So
open PySem PySem.W PyProof.Rows
variable{cmp:Nat->Nat->Bool}{α β:Type}{q:Array Nat}{p:Array (Nat×Nat×Nat)}{g:Nat}{T:Nat->Prop}{st:En->SortSt}
def zcZ{i j:Nat}(h:Al T q):Al T (q.swapIfInBounds i j):=by
 rw[Array.swapIfInBounds_def]
 split
 .split
  .exact λk hk=>h k ((Array.Perm.mem_iff (Array.swap_perm _ _)).mp hk)
  .exact h
 .exact h
theorem z3P(u v:Nat->Nat): ∀(l:List Nat) (q:Array Nat),Al T q->Al T (l.foldl (λa k=>a.swapIfInBounds (u k) (v k)) q)
 |[],_,h=>h
 |k::l,q,h=>z3P u v l _ (zcZ h)
theorem z3Q(u v:Nat->Nat): ∀(l:List Nat) (q:Array Nat),(l.foldl (λa k=>a.swapIfInBounds (u k) (v k)) q).size=q.size
 |[],_=>rfl
 |k::l,q=>by
  show(l.foldl _ (q.swapIfInBounds (u k) (v k))).size=_
  rw[z3Q u v l,Array.size_swapIfInBounds]
def z1q{i j k:Nat}(h:Al T q):Al T (cX q i j k):=z3P (λk=>i+k) (λk=>j - 1 -k) _ q h
def k8{i j k:Nat}:(cX q i j k).size=q.size:=z3Q (λk=>i+k) (λk=>j - 1 -k) _ q
def zfi{i k:Nat}(h:Al T q):Al T (cA q i k):=z3P (λk=>i -k) (λk=>i -k - 1) _ q h
def zfj{i k:Nat}:(cA q i k).size=q.size:=z3Q (λk=>i -k) (λk=>i -k - 1) _ q
theorem zbE{f:En->Nat->β->StateT SortSt Sem (ForInStep β)}{I:Nat->(En->β)->(En->SortSt)->Prop}{Q:(En->β)->(En->SortSt)->Prop}{hi:Nat}(hb: ∀(x:Nat) (b:En->β) (st:En->SortSt),x<hi->I x b st->Det cmp (λe=>f e x (b e)) st λv st'=>(∃c,v=(λe=> .done (c e))/\Q c st')\/∃c,v=(λe=> .yield (c e))/\I (x+1) c st')(hf: ∀x b st,I x b st->Q b st):
 ∀(n lo:Nat) (b:En->β) (st:En->SortSt),lo+n<=hi->I lo b st->Det cmp (λe=>forIn (u0c lo n) (b e) (f e)) st Q
 |0,lo,b,st,_,h=>⟨b,st,hf lo b st h,λ_ _ _ _ _ _ _ s _ hg hq=>kasC_nil (hq s hg)⟩
 |n+1,lo,b,st,hl,h=>by
  obtain⟨v,st1,hp,h1⟩:=hb lo b st (by lia) h
  rcases hp with⟨c,rfl,hp⟩|⟨c,rfl,hp⟩
  .exact⟨c,st1,hp,λprog w A E e G Q s hc hg hq=>fe (h1 prog w A E e G _ s hc hg λs' hg'=>hq s' hg')⟩
  .obtain⟨c2,st2,hp2,h2⟩:=zbE hb hf n (lo+1) c st1 (by lia) hp
   exact⟨c2,st2,hp2,λprog w A E e G Q s hc hg hq=>fe (h1 prog w A E e G _ s hc hg λs' hg'=>h2 prog w A E e G Q s' hc hg' hq)⟩
def zfk{lo hi:Nat}{f:En->Nat->β->StateT SortSt Sem (ForInStep β)}{b:En->β}(I:Nat->(En->β)->(En->SortSt)->Prop){Q:(En->β)->(En->SortSt)->Prop}(h0:I lo b st)(hb: ∀(x:Nat) (b:En->β) (st:En->SortSt),x<hi->I x b st->Det cmp (λe=>f e x (b e)) st λv st'=>(∃c,v=(λe=> .done (c e))/\Q c st')\/∃c,v=(λe=> .yield (c e))/\I (x+1) c st')(hf: ∀x b st,I x b st->Q b st):
 Det cmp (λe=>forIn [lo:hi] (b e) (f e)) st Q:=by
 by_cases hl:lo<=hi
 .obtain⟨v,st',hp,h⟩:=zbE (cmp:=cmp) (f:=f) (I:=I) (Q:=Q) hb hf (hi -lo) lo b st (by lia) h0
  exact⟨v,st',hp,λprog w A E e G Q s hc hg hq=>fB (h prog w A E e G Q s hc hg hq)⟩
 .refine⟨b,st,hf lo b st h0,λprog w A E e G Q s hc hg hq=>fB ?_⟩
  rw[show hi -lo=0 by lia]
  exact kasC_nil (hq s hg)
def z6v{lo nrem n m:Nat}{P:(En->Option Nat)->(En->SortSt)->Prop}(hf: ∀x m,f x (none,m)=ltAt' (lo+m) (lo+m - 1)>>=λo=>match o with|some b=>if b=true then pure (.done (none,m)) else pure (.yield (none,m+1))|_=>pure (.done (some none,m)))(hk: ∀m,k (none,m)=pure (some m))(hs:q.size=n)(hl:lo+nrem<=n)(m1:1<=m)(m2:m<=nrem)(h: ∀k,1<=k->k<=nrem->P (λ_=>some k) (sst q p g)):
 Det cmp (λ_=>forIn [m:nrem] ((none,m):Option (Option Nat)×Nat) f>>=k) (sst q p g) P:=by
 refine y6 (z05 (P:=λv st'=> ∃m:Nat,v=(λ_=>(none,m))/\st'=sst q p g/\1<=m/\m<=nrem) (z1F (I:=λk v st'=> ∃m:Nat,v=(λ_=>(none,m))/\st'=sst q p g/\1<=m/\m+k=nrem) ⟨m,rfl,rfl,m1,by lia⟩ ?_ ?_) ?_)
 .rintro _ k b st ⟨m,rfl,rfl,m1,hm⟩
  erw[hf]
  refine y6 (z1X (by lia) (by lia) ?_)
  try dsimp only
  exact Y6 (λ_=>Y7 ⟨m,rfl,rfl,m1,by lia⟩) λ_=>W0 ⟨m+1,rfl,rfl,by lia,by lia⟩
 .rintro b st ⟨m,rfl,rfl,m1,hm⟩
  exact⟨m,rfl,rfl,m1,by lia⟩
 .rintro v st ⟨m,rfl,rfl,m1,m2⟩
  erw[hk]
  exact U0 (h m m1 m2)
def zi7{lo nrem n:Nat}{P:(En->Option Nat)->(En->SortSt)->Prop}(ha:Al T q)(hs:q.size=n)(hl:lo+nrem<=n)(h1:1<=nrem)(h: ∀k q',1<=k->k<=nrem->Al T q'->q'.size=n->P (λ_=>some k) (sst q' p g)):
 Det cmp (λ_=>countRun' lo nrem) (sst q p g) P:=by
 refine y6 (z05 (P:=λv st'=> ∃m:Nat,v=(λ_=>(none,m))/\st'=sst q p g/\1<=m/\m<=nrem) (z1F (I:=λk v st'=> ∃m:Nat,v=(λ_=>(none,m))/\st'=sst q p g/\1<=m/\m+k=nrem) ⟨1,rfl,rfl,i7 _,by lia⟩ ?_ ?_) ?_)
 .rintro _ k b st ⟨m,rfl,rfl,m1,hm⟩
  refine y6 (z1X (by lia) (by lia) ?_)
  try dsimp only
  exact Y6 (λ_=>Y7 ⟨m,rfl,rfl,m1,by lia⟩) λ_=>W0 ⟨m+1,rfl,rfl,by lia,by lia⟩
 .rintro b st ⟨m,rfl,rfl,m1,hm⟩
  exact⟨m,rfl,rfl,m1,by lia⟩
 rintro v st ⟨m,rfl,rfl,m1,m2⟩
 try dsimp only
 refine Y6 (λ_=>U0 (h m q m1 m2 ha hs)) λc1=> ?_
 erw[beq_iff_eq] at c1
 have m3:m<nrem:=by lia
 clear c1 m2
 refine Y6 (λc2=> ?_) λc2=> ?_
 .refine y6 (z1X (by lia) (by lia) ?_)
  try dsimp only
  refine Y6 (λ_=>U0 (h m q m1 (by lia) ha hs)) λc3=> ?_
  refine y6 (z3M ?_)
  have ha:=z1q (i:=lo) (j:=lo+m) (k:=(lo+m -lo)/2) ha
  have hs:=(k8 (i:=lo) (j:=lo+m) (k:=(lo+m -lo)/2)).trans hs
  generalize cX q lo (lo+m) ((lo+m -lo)/2)=q at ha hs⊢
  refine y6 (z8g ?_)
  refine y6 (z05 (P:=λv st'=> ∃(m z:Nat) (q:Array Nat),v=(λ_=>(none,m,z))/\st'=sst q p g/\1<=m/\m<=nrem/\Al T q/\q.size=n) (z1F (I:=λk v st'=> ∃(m z:Nat) (q:Array Nat),v=(λ_=>(none,m,z))/\st'=sst q p g/\1<=m/\m+k=nrem/\Al T q/\q.size=n) ⟨m+1,0,q,rfl,rfl,by lia,by lia,ha,hs⟩ ?_ ?_) ?_)
  .rintro _ k b st ⟨m,z,q,rfl,rfl,m1,hm,ha,hs⟩
   try dsimp only
   refine y6 (z1X (by lia) (by lia) ?_)
   try dsimp only
   refine Y6 (λ_=> ?_) λ_=> ?_
   .refine Y6 (λ_=>y6 (z3M (W0 ⟨m+1,0,_,rfl,rfl,by lia,by lia,z1q ha,k8.trans hs⟩))) λ_=>W0 ⟨m+1,0,_,rfl,rfl,by lia,by lia,ha,hs⟩
   .refine y6 (z1X (by lia) (by lia) ?_)
    try dsimp only
    exact Y6 (λ_=>Y7 ⟨m,z,_,rfl,rfl,m1,by lia,ha,hs⟩) λ_=>W0 ⟨m+1,_,_,rfl,rfl,by lia,by lia,ha,hs⟩
  .rintro b st ⟨m,z,q,rfl,rfl,m1,hm,ha,hs⟩
   exact⟨m,z,q,rfl,rfl,m1,by lia,ha,hs⟩
  rintro v st ⟨m,z,q,rfl,rfl,m1,m2,ha,hs⟩
  try dsimp only
  refine Y6 (λ_=>y6 (z3M ?_)) λ_=> ?_
  .refine y6 (z3M ?_)
   exact z6v (λ_ _=>rfl) (λ_=>rfl) (k8.trans (k8.trans hs)) hl m1 m2 λk k1 k2=>h k _ k1 k2 (z1q (z1q ha)) (k8.trans (k8.trans hs))
  .refine y6 (z3M ?_)
   exact z6v (λ_ _=>rfl) (λ_=>rfl) (k8.trans hs) hl m1 m2 λk k1 k2=>h k _ k1 k2 (z1q ha) (k8.trans hs)
 .refine y6 (z8g ?_)
  refine y6 (z05 (P:=λv st'=> ∃(m z:Nat) (q:Array Nat),v=(λ_=>(none,m,z))/\st'=sst q p g/\1<=m/\m<=nrem/\Al T q/\q.size=n) (z1F (I:=λk v st'=> ∃(m z:Nat) (q:Array Nat),v=(λ_=>(none,m,z))/\st'=sst q p g/\1<=m/\m+k=nrem/\Al T q/\q.size=n) ⟨m+1,0,q,rfl,rfl,by lia,by lia,ha,hs⟩ ?_ ?_) ?_)
  .rintro _ k b st ⟨m,z,q,rfl,rfl,m1,hm,ha,hs⟩
   try dsimp only
   refine y6 (z1X (by lia) (by lia) ?_)
   try dsimp only
   refine Y6 (λ_=> ?_) λ_=> ?_
   .refine Y6 (λ_=>y6 (z3M (W0 ⟨m+1,0,_,rfl,rfl,by lia,by lia,z1q ha,k8.trans hs⟩))) λ_=>W0 ⟨m+1,0,_,rfl,rfl,by lia,by lia,ha,hs⟩
   .refine y6 (z1X (by lia) (by lia) ?_)
    try dsimp only
    exact Y6 (λ_=>Y7 ⟨m,z,_,rfl,rfl,m1,by lia,ha,hs⟩) λ_=>W0 ⟨m+1,_,_,rfl,rfl,by lia,by lia,ha,hs⟩
  .rintro b st ⟨m,z,q,rfl,rfl,m1,hm,ha,hs⟩
   exact⟨m,z,q,rfl,rfl,m1,by lia,ha,hs⟩
  rintro v st ⟨m,z,q,rfl,rfl,m1,m2,ha,hs⟩
  try dsimp only
  refine Y6 (λ_=>y6 (z3M ?_)) λ_=> ?_
  .refine y6 (z3M ?_)
   exact z6v (λ_ _=>rfl) (λ_=>rfl) (k8.trans (k8.trans hs)) hl m1 m2 λk k1 k2=>h k _ k1 k2 (z1q (z1q ha)) (k8.trans (k8.trans hs))
  .refine y6 (z3M ?_)
   exact z6v (λ_ _=>rfl) (λ_=>rfl) (k8.trans hs) hl m1 m2 λk k1 k2=>h k _ k1 k2 (z1q ha) (k8.trans hs)
end So
set_option linter.unusedVariables false
namespace So
open PySem PySem.W PyProof.Rows
variable{cmp:Nat->Nat->Bool}{α β:Type}{q:Array Nat}{p:Array (Nat×Nat×Nat)}{g:Nat}{T:Nat->Prop}{st:En->SortSt}
def zi8{lo n ok N:Nat}{P:(En->Bool)->(En->SortSt)->Prop}(ha:Al T q)(hs:q.size=N)(hl:lo+n<=N)(h: ∀q',Al T q'->q'.size=N->P (λ_=>true) (sst q' p g)):
 Det cmp (λ_=>binarySort' lo n ok) (sst q p g) P:=by
 refine y6 (z05 (P:=λv st'=> ∃q:Array Nat,v=(λ_=>(none,()))/\st'=sst q p g/\Al T q/\q.size=N) (zfk (I:=λk v st'=> ∃q:Array Nat,v=(λ_=>(none,()))/\st'=sst q p g/\Al T q/\q.size=N) ⟨q,rfl,rfl,ha,hs⟩ ?_ λ_ _ _ h=>h) ?_)
 .rintro k b st hk ⟨q,rfl,rfl,ha,hs⟩
  try dsimp only
  refine y6 (z05 (P:=λv st'=> ∃l r:Nat,v=(λ_=>(none,l,r))/\st'=sst q p g) (z1F (I:=λ_ v st'=> ∃l r:Nat,v=(λ_=>(none,l,r))/\st'=sst q p g/\r<=k) ⟨0,k,rfl,rfl,i7 _⟩ ?_ ?_) ?_)
  .rintro _ _ b st ⟨l,r,rfl,rfl,hr⟩
   try dsimp only
   refine Y6 (λ_=>Y7 ⟨l,r,rfl,rfl⟩) λc=>y6 (z1X (by lia) (by lia) ?_)
   try dsimp only
   exact Y6 (λ_=>W0 ⟨_,_,rfl,rfl,by lia⟩) λ_=>W0 ⟨_,_,rfl,rfl,hr⟩
  .rintro b st ⟨l,r,rfl,rfl,_⟩
   exact⟨l,r,rfl,rfl⟩
  .rintro v st ⟨l,r,rfl,rfl⟩
   try dsimp only
   exact y6 (zf7 (W0 ⟨_,rfl,rfl,zfi ha,zfj.trans hs⟩))
 .rintro v st ⟨q,rfl,rfl,ha,hs⟩
  exact U0 (h q ha hs)
noncomputable def Ch:Nat->List (Nat×Nat×Nat)->Nat->Prop
 |a,[],b=>a=b
 |a,r::l,b=>r.1=a/\1<=r.2.1/\Ch (a+r.2.1) l b
theorem zfl: ∀{l:List (Nat×Nat×Nat)} {a b:Nat},Ch a l b->a<=b
 |[],_,_,h=>R5 h
 |r::l,a,b,h=>C1 (u00 _ _) (zfl h.2.2)
theorem z8i: ∀{l:List (Nat×Nat×Nat)} {a b n w:Nat},Ch a l b->1<=n->Ch a (l++[(b,n,w)]) (b+n)
 |[],a,b,n,w,h,hn=>by cases(show a=b from h);exact⟨rfl,hn,rfl⟩
 |r::l,a,b,n,w,h,hn=>⟨h.1,h.2.1,z8i h.2.2 hn⟩
theorem zbF: ∀{l:List (Nat×Nat×Nat)} {a b i:Nat} {x y:Nat×Nat×Nat},Ch a l b->l[i]? =some x->l[i+1]? =some y->y.1=x.1+x.2.1/\1<=x.2.1/\1<=y.2.1/\y.1+y.2.1<=b/\∀w,Ch a ((l.set i (x.1,x.2.1+y.2.1,w)).eraseIdx (i+1)) b
 |[],_,_,_,_,_,_,h,_=>by simp at h
 |[_],_,_,0,_,_,_,_,h=>by simp at h
 |[_],_,_,_+1,_,_,_,h,_=>by simp at h
 |u::v::l,a,b,0,x,y,hc,hx,hy=>by
  erw[List.getElem?_cons_zero,Option.some.injEq] at hx
  erw[F6,List.getElem?_cons_succ,List.getElem?_cons_zero,Option.some.injEq] at hy
  subst hx hy
  obtain⟨h1,h2,h3,h4,h5⟩:=hc
  refine⟨by lia,h2,h4,by have:=zfl h5;lia,λw=> ?_⟩
  erw[D0,F6,P9,List.eraseIdx_cons_zero]
  refine⟨h1,by show 1<=_+_;lia, ?_⟩
  show Ch (a+(u.2.1+v.2.1)) l b
  rw[<-N2];exact h5
 |u::v::l,a,b,i+1,x,y,hc,hx,hy=>by
  erw[List.getElem?_cons_succ] at hx hy
  obtain⟨q1,q2,q3,q4,q5⟩:=zbF hc.2.2 hx hy
  refine⟨q1,q2,q3,q4,λw=> ?_⟩
  rw[D6,P9]
  exact⟨hc.1,hc.2.1,q5 w⟩
theorem zbG(hf: ∀x,(f x).1=x.1/\(f x).2.1=x.2.1): ∀{l:List (Nat×Nat×Nat)} {a b:Nat} (i:Nat),Ch a l b->Ch a (l.modify i f) b
 |[],_,_,i,h=>by rw[List.modify_nil];exact h
 |r::l,a,b,0,h=>by
  rw[List.modify_zero_cons]
  exact⟨(hf r).1.trans h.1,by rw[(hf r).2];exact h.2.1,by rw[(hf r).2];exact h.2.2⟩
 |r::l,a,b,i+1,h=>by
  rw[List.modify_succ_cons]
  exact⟨h.1,h.2.1,zbG hf i h.2.2⟩
theorem z8j(sa:Nat)(e:En): ∀(m:List Nat) (j:Nat) (q:Array Nat),((m.map λi=>im i e).zipIdx j).foldl (λa x=>match x with|(p,j)=>a.setIfInBounds (sa+j) p) (ar q e)=ar ((m.zipIdx j).foldl (λa x=>match x with|(p,j)=>a.setIfInBounds (sa+j) p) q) e
 |[],_,_=>rfl
 |i::m,j,q=>by
  rw[i6,R0,R0,E8,E8]
  have:(ar q e).setIfInBounds (sa+j) (im i e)=ar (q.setIfInBounds (sa+j) i) e:=by simp[ar,Array.map_setIfInBounds]
  dsimp only
  rw[this]
  exact z8j sa e m (j+1) _
def zfm{i x:Nat}(h:Al T q)(hx:T x):Al T (q.setIfInBounds i x):=λk hk=>by
 rcases Array.mem_or_eq_of_mem_setIfInBounds hk with hk|rfl
 .exact h k hk
 .exact hx
theorem z8k(sa:Nat): ∀(m:List Nat) (j:Nat) (q:Array Nat),(∀i∈m,T i)->Al T q->Al T ((m.zipIdx j).foldl (λa x=>match x with|(p,j)=>a.setIfInBounds (sa+j) p) q)/\((m.zipIdx j).foldl (λa x=>match x with|(p,j)=>a.setIfInBounds (sa+j) p) q).size=q.size
 |[],_,_,_,h=>⟨h,rfl⟩
 |i::m,j,q,hm,h=>by
  rw[R0,E8]
  obtain⟨h1,h2⟩:=z8k sa m (j+1) (q.setIfInBounds (sa+j) i) (λk hk=>hm k (i5 _ hk)) (zfm h (hm i l5))
  exact⟨h1,h2.trans Array.size_setIfInBounds⟩
end So
namespace So
open PySem PySem.W PyProof.Rows
variable{cmp:Nat->Nat->Bool}{α β:Type}{q:Array Nat}{p:Array (Nat×Nat×Nat)}{g:Nat}{T:Nat->Prop}{st:En->SortSt}
def z3R:fJ (sst q p g e)=p:=rfl
def zfn{i lo N:Nat}{P:(En->Bool)->(En->SortSt)->Prop}(ha:Al T q)(hs:q.size=N)(hc:Ch 0 p.toList lo)(hl:lo<=N)(hi:i+1<p.size)(h: ∀q' p' g',Al T q'->q'.size=N->Ch 0 p'.toList lo->P (λ_=>true) (sst q' p' g')):
 Det cmp (λ_=>mergeAt' i) (sst q p g) P:=by
 refine y6 (zar ?_)
 obtain⟨x,hx⟩: ∃x,p[i]? =some x:=⟨p[i],Array.getElem?_eq_getElem (by lia)⟩
 obtain⟨y,hy⟩: ∃y,p[i+1]? =some y:=⟨p[i+1],Array.getElem?_eq_getElem hi⟩
 obtain⟨sa,na,pw⟩:=x
 obtain⟨sb,nb,pw'⟩:=y
 obtain⟨c1,c2,c3,c4,c5⟩:=zbF hc (by rw[Array.getElem?_toList];exact hx) (by rw[Array.getElem?_toList];exact hy)
 dsimp only at c1 c2 c3 c4 c5
 have hp':Ch 0 ((p.setIfInBounds i (sa,na+nb,pw)).eraseIdxIfInBounds (i+1)).toList lo:=by
  have e:((p.setIfInBounds i (sa,na+nb,pw)).eraseIdxIfInBounds (i+1)).toList=(p.toList.set i (sa,na+nb,pw)).eraseIdx (i+1):=by simp
  rw[e];exact c5 pw
 have e1: ∀e,(fJ (sst q p g e))[i]? =some (sa,na,pw):=λ_=>hx
 have e2: ∀e,(fJ (sst q p g e))[i+1]? =some (sb,nb,pw'):=λ_=>hy
 erw[e1,e2]
 refine y6 (zi4 (a:=sst q ((p.setIfInBounds i (sa,na+nb,pw)).eraseIdxIfInBounds (i+1)) g) ?_)
 generalize (p.setIfInBounds i (sa,na+nb,pw)).eraseIdxIfInBounds (i+1)=p' at hp'⊢
 refine y6 (z3r (q:=q) (by lia) ?_)
 refine y6 (z3N (r:=q) (by lia) (by lia) λk hk=> ?_)
 try dsimp only
 refine Y6 (λ_=>U0 (h _ _ _ ha hs hp')) λc6=> ?_
 erw[beq_iff_eq] at c6
 refine y6 (z3r (q:=q) (by lia) ?_)
 refine y6 (z3N (r:=q) (by lia) (by lia) λk2 hk2=> ?_)
 try dsimp only
 refine Y6 (λ_=>U0 (h _ _ _ ha hs hp')) λc7=> ?_
 erw[beq_iff_eq] at c7
 have sx:(q.extract (sa+k) sb).size=na -k:=by rw[Array.size_extract];lia
 have sy:(q.extract sb (sb+k2)).size=k2:=by rw[Array.size_extract];lia
 have ex: ∀e,(dS (sst q p g e)).extract (sa+k) sb=ar (q.extract (sa+k) sb) e:=λe=>z8h
 have ey: ∀e,(dS (sst q p g e)).extract sb (sb+k2)=ar (q.extract sb (sb+k2)) e:=λe=>z8h
 erw[ex,ey]
 have fin: ∀(mq:Array Nat) (g':Nat),Al T mq->∀(f:En->SortSt->SortSt),(∀e,f e (sst q p' g' e)=SortSt.mk' e.1 ((ar mq e).toList.zipIdx.foldl (λa x=>match x with|(p,j)=>a.setIfInBounds (sa+k+j) p) (ar q e)) p' g' none)->Det cmp (λe=>(modify (f e):StateT SortSt Sem PUnit)>>=λ_=>get>>=λs=>pure (dl s).isNone) (sst q p' g') P:=by
  intro mq g' hm f hf
  obtain⟨h1,h2⟩:=z8k (T:=T) (sa+k) mq.toList 0 q (λi hi=>hm i (by simpa using hi)) ha
  refine y6 (z0W ?_)
  have e3:(λe=>f e (sst q p' g' e))=sst ((mq.toList.zipIdx 0).foldl (λa x=>match x with|(p,j)=>a.setIfInBounds (sa+k+j) p) q) p' g':=by
   funext e
   rw[hf]
   unfold sst
   have:(ar mq e).toList=mq.toList.map λi=>im i e:=by simp[ar]
   rw[this,z8j]
  rw[e3]
  exact y6 (zar (U0 (h _ _ _ h1 (h2.trans hs) hp')))
 refine Y6 (λ_=> ?_) λ_=> ?_
 .refine y6 (zi5 (T:=T) (z4S ha) (z4S ha) (by lia) (by lia) λmq g' hm=> ?_)
  exact fin mq g' hm _ λe=>rfl
 .refine y6 (zi6 (T:=T) (z4S ha) (z4S ha) (by lia) (by lia) λmq g' hm=> ?_)
  exact fin mq g' hm _ λe=>rfl
end So
namespace So
open PySem PySem.W PyProof.Rows
variable{cmp:Nat->Nat->Bool}{α β:Type}{q:Array Nat}{p:Array (Nat×Nat×Nat)}{g:Nat}{T:Nat->Prop}{st:En->SortSt}
def zfo{c:Prop}{i:Decidable c}{n:Nat}(h:2<=n): @ite Nat c i (n - 2 - 1) (n - 2)+1<n:=by
 by_cases hc:c
 .rw[if_pos hc];lia
 .rw[if_neg hc];lia
def zfp{i:En->Nat}{lo N:Nat}{P:(En->Bool)->(En->SortSt)->Prop}(hE: ∀e e',i e=i e')(ha:Al T q)(hs:q.size=N)(hc:Ch 0 p.toList lo)(hl:lo<=N)(hi: ∀e,i e+1<p.size)(h: ∀q' p' g',Al T q'->q'.size=N->Ch 0 p'.toList lo->P (λ_=>true) (sst q' p' g')):
 Det cmp (λe=>mergeAt' (i e)) (sst q p g) P:=by
 have e0:i=λ_=>i (general', #[]):=funext λe=>hE e _
 rw[e0]
 exact zfn ha hs hc hl (hi _) h
def zfq{N:Nat}{P:(En->Unit)->(En->SortSt)->Prop}(ha:Al T q)(hs:q.size=N)(h: ∀q' p' g',Al T q'->q'.size=N->P (λ_=>()) (sst q' p' g')):
 Det cmp (λ_=>sortRuns') (sst q #[] g) P:=by
 refine z3s ?_
 have e0: ∀e,(dS (sst q #[] g e)).size=N:=λe=>z2o.trans hs
 erw[e0]
 refine y6 (z05 (P:=λv st'=> ∃(lo:Nat) (q:Array Nat) (p:Array (Nat×Nat×Nat)) (g:Nat),v=(λ_=>(none,lo))/\st'=sst q p g/\Al T q/\q.size=N/\Ch 0 p.toList lo/\lo<=N) (z1F (I:=λ_ v st'=> ∃(lo:Nat) (q:Array Nat) (p:Array (Nat×Nat×Nat)) (g:Nat),v=(λ_=>(none,lo))/\st'=sst q p g/\Al T q/\q.size=N/\Ch 0 p.toList lo/\lo<=N) ⟨0,q, #[],g,rfl,rfl,ha,hs,rfl,C0 _⟩ ?_ λ_ _ h=>h) ?_)
 .rintro _ _ b st ⟨lo,q,p,g,rfl,rfl,ha,hs,hc,hl⟩
  try dsimp only
  refine Y6 (λ_=>Y7 ⟨lo,q,p,g,rfl,rfl,ha,hs,hc,hl⟩) λc1=> ?_
  refine y6 (zi7 (T:=T) (n:=N) ha hs (by lia) (by lia) λk q k1 k2 ha hs=> ?_)
  try dsimp only
  have tail: ∀(n:Nat) (q:Array Nat) (p:Array (Nat×Nat×Nat)) (g:Nat),1<=n->lo+n<=N->Al T q->q.size=N->Ch 0 p.toList lo->∀(f:SortSt->SortSt),(∀e,f (sst q p g e)=SortSt.mk' e.1 (ar q e) (p.push (lo,n,0)) g none)->Det cmp (λ_=>(modify f:StateT SortSt Sem PUnit)>>=λ_=>pure (ForInStep.yield ((none,lo+n):Option Unit×Nat))) (sst q p g) λv st'=>(∃c,v=(λe=> .done (c e))/\∃(lo:Nat) (q:Array Nat) (p:Array (Nat×Nat×Nat)) (g:Nat),c=(λ_=>(none,lo))/\st'=sst q p g/\Al T q/\q.size=N/\Ch 0 p.toList lo/\lo<=N)\/∃c,v=(λe=> .yield (c e))/\∃(lo:Nat) (q:Array Nat) (p:Array (Nat×Nat×Nat)) (g:Nat),c=(λ_=>(none,lo))/\st'=sst q p g/\Al T q/\q.size=N/\Ch 0 p.toList lo/\lo<=N:=by
   intro n q p g n1 n2 ha hs hc f hf
   refine y6 (z0W ?_)
   erw[hf]
   exact W0 ⟨lo+n,q,p.push (lo,n,0),g,rfl,rfl,ha,hs,by rw[Array.toList_push];exact z8i hc n1,n2⟩
  apply zf8 (λn q=>1<=n/\lo+n<=N/\Al T q/\q.size=N)
  .intro key
   refine Y6 (λc2=> ?_) λc2=> ?_
   rotate_left
   .have r:1<=k/\lo+k<=N/\Al T q/\q.size=N:=⟨by lia,by lia,ha,hs⟩
    revert r
    generalize q=z2
    generalize k=z1
    intro r
    exact key z1 z2 r
   .refine z2p ?_
    refine y6 (zi8 (T:=T) (N:=N) ha hs (by lia) λq ha hs=> ?_)
    try dsimp only
    refine Y6 (λc=>by cases c) λ_=> ?_
    exact key _ _ ⟨by lia,by lia,ha,hs⟩
  .intro n q r
   obtain⟨n1,n2,ha,hs⟩:=r
   refine z3s ?_
   erw[z3R]
   cases hb:p.back? with
   |none=>exact tail _ q p g (by lia) (by lia) ha hs hc _ λe=>rfl
   |some x=>
    obtain⟨s1,n1,w⟩:=x
    try dsimp only
    refine y6 (z05 (P:=λv st'=> ∃(q:Array Nat) (p:Array (Nat×Nat×Nat)) (g:Nat),v=(λ_=>(none,()))/\st'=sst q p g/\Al T q/\q.size=N/\Ch 0 p.toList lo) (z1F (I:=λ_ v st'=> ∃(q:Array Nat) (p:Array (Nat×Nat×Nat)) (g:Nat),v=(λ_=>(none,()))/\st'=sst q p g/\Al T q/\q.size=N/\Ch 0 p.toList lo) ⟨q,p,g,rfl,rfl,ha,hs,hc⟩ ?_ λ_ _ h=>h) ?_)
    .rintro _ _ b st ⟨q,p,g,rfl,rfl,ha,hs,hc⟩
     refine z3s ?_
     erw[z3R]
     by_cases hp:p.size>1
     .have hp':(p.size>1)=True:=eq_true hp
      erw[hp',if_true]
      obtain⟨x,hx⟩: ∃x,p[p.size - 2]? =some x:=⟨p[p.size - 2],Array.getElem?_eq_getElem (by lia)⟩
      obtain⟨s1,n1,w⟩:=x
      erw[hx]
      refine Y6 (λ_=>Y7 ⟨q,p,g,rfl,rfl,ha,hs,hc⟩) λ_=> ?_
      refine y6 (zfn (T:=T) (N:=N) ha hs hc hl (by lia) λq p g ha hs hc=> ?_)
      try dsimp only
      exact Y6 (λc=>by cases c) λ_=>W0 ⟨q,p,g,rfl,rfl,ha,hs,hc⟩
     .have hp':(p.size>1)=False:=eq_false hp
      erw[hp',if_false]
      exact Y7 ⟨q,p,g,rfl,rfl,ha,hs,hc⟩
    .rintro v st ⟨q,p,g,rfl,rfl,ha,hs,hc⟩
     try dsimp only
     refine y6 (z0W ?_)
     exact tail _ q (p.modify (p.size - 1) λx=>(x.1,x.2.1,_)) g (by lia) (by lia) ha hs (by rw[Array.toList_modify];refine zbG ?_ _ hc;exact λx=>⟨rfl,rfl⟩) _ λe=>rfl
 .rintro v st ⟨lo,q,p,g,rfl,rfl,ha,hs,hc,hl⟩
  try dsimp only
  refine y6 (z05 (P:=λv st'=> ∃(q:Array Nat) (p:Array (Nat×Nat×Nat)) (g:Nat),v=(λ_=>(none,()))/\st'=sst q p g/\Al T q/\q.size=N/\Ch 0 p.toList lo) (z1F (I:=λ_ v st'=> ∃(q:Array Nat) (p:Array (Nat×Nat×Nat)) (g:Nat),v=(λ_=>(none,()))/\st'=sst q p g/\Al T q/\q.size=N/\Ch 0 p.toList lo) ⟨q,p,g,rfl,rfl,ha,hs,hc⟩ ?_ λ_ _ h=>h) ?_)
  .rintro _ _ b st ⟨q,p,g,rfl,rfl,ha,hs,hc⟩
   refine z3s ?_
   erw[z3R]
   refine Y6 (λ_=>Y7 ⟨q,p,g,rfl,rfl,ha,hs,hc⟩) λc1=> ?_
   refine y6 (zfp (T:=T) (N:=N) (λ_ _=>rfl) ha hs hc hl (λe=> ?_) λq p g ha hs hc=> ?_)
   .exact zfo (by lia)
   try dsimp only
   exact Y6 (λc=>by cases c) λ_=>W0 ⟨q,p,g,rfl,rfl,ha,hs,hc⟩
  .rintro v st ⟨q,p,g,rfl,rfl,ha,hs,hc⟩
   exact U0 (h q p g ha hs)
end So
namespace So
open PySem PySem.W PyProof.Rows PySem.SeqAt
open AutoSeq1 (wpAny_loadPart')
noncomputable def zbH(A:bq)(s:bf)(y x:be)(b:Bool):Prop:=
 ∀(prog:bm) (w:bo) (E:be->bf->Prop) (Q:be->bf->Prop),Q (.bool b) s->bj (bn prog w) A (richCompare .Lt y x) Q E s
noncomputable def z5F(A:bq)(s:bf):List be->List be->Bool->Prop
 |v::vs,u::us,r=> ∃e,EqAt A s v u e/\if e=true then z5F A s vs us r else zbH A s v u r
 |[],us,r=>r=decide (0<us.length)
 |_::_,[],r=>r=false
def zd0: ∀{vs us:List be} {r:Bool},vs.zip us=[]->z5F A s vs us r->r=decide (vs.length<us.length)
 |[],us,r,_,h=>h
 |v::vs,[],r,_,h=>by rw[show r=false from h];simp
def z7b(l b:Addr)(items items2:Array be)(n n2:Nat)(dd dd2:Option Addr)(sl sl2:Array (Option be))(r:Bool):
 Meets (Builtin.«tuple.__lt__» ⟨[.ref l, .ref b],[]⟩)
  (λA R s=>s.heap.get? l=some {cls:= .type "tuple",dict:=dd,data:= .seq items n,slots:=sl}/\s.heap.get? b=some {cls:= .type "tuple",dict:=dd2,data:= .seq items2 n2,slots:=sl2}/\
   z5F A.in1 s items.toList items2.toList r/\R (.ok (.ret (.bool r))) s):=
 .of_wp λprog w A R s h=>by
  obtain⟨hp,g,d,tk,os⟩:=s;obtain⟨hl,hb,he,h⟩:=h
  have f2:=AutoSeq1.sub_tuple_tuple
  wp_walk using wpAny_loadPart' hl,wpAny_loadPart' hb,cN _ (λrest b s'=>b.1=none/\s'=⟨hp,g,d,tk,os⟩/\∃vs us,rest=vs.zip us/\z5F A.in1 ⟨hp,g,d,tk,os⟩ vs us r/\(vs.length<us.length↔items.size<items2.size)) _
  case turn=>
   rintro ⟨y,x⟩ rest b s' ⟨hb',rfl,vs,us,hz,hR,hs⟩
   match vs,us,hz,hR with
   |v::vs,u::us,hz,hR=>
    rw[O6] at hz
    injection hz with h1 h2
    injection h1 with h3 h4
    subst h2 h3 h4
    obtain⟨e,q1,q2⟩:=hR
    refine bb (q1 prog w _ _ ?_)
    cases e with
    |true=>
     wp_walk
     exact⟨rfl,rfl,vs,us,rfl,q2,by simpa using hs⟩
    |false=>
     erw[A4,if_false] at q2
     erw[F4,if_true]
     refine bb (dI (bb (q2 prog w _ _ ?_)))
     exact bb (bg (bg (bg ⟨_,rfl,h⟩)))
   |[],_,hz,_=>simp at hz
   |_::_,[],hz,_=>simp at hz
  case fin=>
   rintro ⟨b1,b2⟩ s' ⟨hb',rfl,vs,us,hz,hR,hs⟩
   simp only at hb'
   subst hb'
   have:=zd0 hz.symm hR
   wp_walk
   refine⟨_,rfl, ?_⟩
   have e:r=decide (items.size<items2.size):=by rw[this];exact decide_eq_decide.mpr hs
   rw[e] at h
   exact h
  case h=>
   exact⟨rfl,rfl,_,_,rfl,he,by simp⟩
def zbH.int(a b:Int)(t u:Tok):zbH A s (.int a t) (.int b u) (decide (a<b)):=λprog w E Q h=>wpAny_lt_int h
def zbH.tuples{A:bq}{s:bf}{items items2:Array be}{r:Bool}(hl:s.heap.IsTuple l items)(hb:s.heap.IsTuple b items2)(hu:A.units<cLine)(he:z5F A.in1 s items.toList items2.toList r):zbH A s (.ref l) (.ref b) r:=λprog w E Q h=>by
 obtain⟨⟨cls,dd,data,sl⟩,ho,hc,n,hd⟩:=id hl
 obtain⟨⟨cls2,dd2,data2,sl2⟩,ho2,hc2,n2,hd2⟩:=id hb
 simp only at hc hd hc2 hd2
 subst hc hd hc2 hd2
 exact richCompare_meets_room (op:= .Lt) ⟨_,ho,rfl⟩ ⟨_,ho2,rfl⟩ F.slot_tuple_lt F.entry_tuple_lt (F.args_tuple_lt_2 _ _) (z7b l b items items2 n n2 dd dd2 sl sl2 r)
  ⟨ho,ho2,he,show Value.bool r≠Value.notImplemented/\Q (.bool r) s from⟨(λx=>nomatch x),h⟩⟩ hu
mutual
noncomputable def ltD:PyData->PyData->Option Bool
 | .int a, .int b=>some (decide (a<b))
 | .tuple xs, .tuple ys=>ltL xs ys
 |_,_=>none
noncomputable def ltL:List PyData->List PyData->Option Bool
 |x::xs,y::ys=>if PyData.eqv x y=true then ltL xs ys else ltD x y
 |[],ys=>some (decide (0<ys.length))
 |_::_,[]=>some false
end
end So
namespace So
open PySem PySem.W PyProof.Rows PySem.SeqAt
mutual
theorem zat: ∀(da db:PyData) (A:bq) (s:bf) (a b:be) (as bs:List Addr) (r:Bool),fQ s.heap a da as->fQ s.heap b db bs->da.canLay0=true->db.canLay0=true->A.units+min da.depth db.depth<cLine->ltD da db=some r->zbH A s a b r
 | .int x,_,A,s,_,_,_,_,r,ra,rb,_,_,_,h=>by
  cases ra with
  |int _ t=>
   cases rb with
   |int y u=>
    erw[ltD,Option.some.injEq] at h
    subst h
    exact zbH.int _ _ _ _
   |_=>simp[ltD] at h
 | .tuple xs,_,A,s,_,_,_,_,r,ra,rb,ha,hb,hu,h=>by
  cases ra with
  | @tuple l o vs n _ as₁ h1 h2 h3 h4=>
   cases rb with
   | @tuple l' o' vs' n' ys as' k1 k2 k3 k4=>
    have ha:PyData.canLayAll0 xs=true:=by simpa[PyData.canLay0] using ha
    have hb:PyData.canLayAll0 ys=true:=by simpa[PyData.canLay0] using hb
    erw[ltD] at h
    exact zbH.tuples ⟨_,h1,h2,_,h3⟩ ⟨_,k1,k2,_,k3⟩ (room_here hu) (lex_reads xs ys A.in1 s _ _ _ _ r h4 k4 ha hb (room_in hu) h)
   |_=>simp[ltD] at h
 | .none,_,A,s,_,_,_,_,r,ra,rb,ha,hb,hu,h=>by simp[ltD] at h
 | .bool _,_,A,s,_,_,_,_,r,ra,rb,ha,hb,hu,h=>by simp[ltD] at h
 | .str _,_,A,s,_,_,_,_,r,ra,rb,ha,hb,hu,h=>by simp[ltD] at h
 | .list _,_,A,s,_,_,_,_,r,ra,rb,ha,hb,hu,h=>by simp[ltD] at h
 | .dict _,_,A,s,_,_,_,_,r,ra,rb,ha,hb,hu,h=>by simp[ltD] at h
theorem lex_reads: ∀(xs ys:List PyData) (A:bq) (s:bf) (vs ws:List be) (as bs:List Addr) (r:Bool),dm s.heap vs xs as->dm s.heap ws ys bs->PyData.canLayAll0 xs=true->PyData.canLayAll0 ys=true->
 A.units+min (PyData.depthAll xs) (PyData.depthAll ys)<cLine->ltL xs ys=some r->z5F A s vs ws r
 |[],ys,A,s,vs,ws,_,_,r,ra,rb,_,_,_,h=>by
  cases ra
  erw[ltL,Option.some.injEq] at h
  subst h
  show _=decide (0<ws.length)
  have e: ∀{ws:List be} {ys:List PyData} {bs:List Addr},dm s.heap ws ys bs->ws.length=ys.length:=λ{ws}=>by
   induction ws with
   |nil=>intro ys bs q;cases q;rfl
   |cons v vs ih=>intro ys bs q;cases q with|cons q1 q2=>rw[A3,A3,ih q2]
  rw[e rb]
 |_::_,[],A,s,vs,ws,_,_,r,ra,rb,_,_,_,h=>by
  cases rb
  cases ra
  erw[ltL,Option.some.injEq] at h
  exact h.symm
 |x::xs,y::ys,A,s,_,_,_,_,r,ra,rb,ha,hb,hu,h=>by
  have ha':x.canLay0=true/\PyData.canLayAll0 xs=true:=by simpa[PyData.canLayAll0] using ha
  have hb':y.canLay0=true/\PyData.canLayAll0 ys=true:=by simpa[PyData.canLayAll0] using hb
  cases ra with
  |cons r1 rs=>
  cases rb with
  |cons r1' rs'=>
   refine⟨PyData.eqv x y,eqAt_reads x y A s _ _ _ _ r1 r1' ha'.1 hb'.1 (room_head hu), ?_⟩
   rw[ltL] at h
   split
   .rename_i e
    rw[if_pos e] at h
    exact lex_reads xs ys A s _ _ _ _ r rs rs' ha'.2 hb'.2 (room_tail hu) h
   .rename_i e
    rw[if_neg e] at h
    exact zat x y A s _ _ _ _ r r1 r1' ha'.1 hb'.1 (room_head hu) h
end
noncomputable def hdI:PyData->Bool
 | .tuple (.int _::_)=>true
 |_=>false
def hd_int(h:hdI d=true): ∃i xs,d= .tuple (.int i::xs):=by
 cases d with
 |tuple xs=>
  cases xs with
  |nil=>simp[hdI] at h
  |cons x xs=>cases x<;>first|exact⟨_,_,rfl⟩|simp[hdI] at h
 |_=>simp[hdI] at h
theorem zbI{b fin:Bool}{Q:Bool->bf->Prop}: ∀(vs us:List be) (i:Nat) (r:Bool),0<i->z5F A s vs us r->fin=decide (vs.length<us.length)->Q r s->KatLex prog w A b fin Q (vs.zip us) i s
 |[],us,i,r,hi,h,hf,q=>by
  have:r=decide (0<us.length):=h
  subst hf
  rw[List.zip_nil_left]
  exact kat_nil (by rw[this] at q;exact q)
 |_::_,[],i,r,hi,h,hf,q=>by
  have:r=false:=h
  subst hf
  rw[List.zip_nil_right]
  exact kat_nil (by rw[this] at q;simpa using q)
 |v::vs,u::us,i,r,hi,h,hf,q=>by
  rw[O6]
  obtain⟨e,h1,h2⟩:=h
  refine kat_cons (h1 prog w _ _ ?_)
  cases e with
  |true=>exact kat_yes (zbI vs us (i+1) r (by lia) h2 (by simpa using hf) q)
  |false=>
   refine kat_no ?_
   rw[show(b&&i==0)=false by simp;lia]
   exact kat_one v u (h2 prog w _ _ q)
def key_lt{prog:bm}{w:bo}{A:bq}{E:be->bf->Prop}{Q:Bool->bf->Prop}{s:bf}{dx dy:PyData}{r:Bool}(rx:fQ s.heap x dx as)(ry:fQ s.heap y dy bs)(hx:dx.canLay0=true)(hy:dy.canLay0=true)(ix:hdI dx=true)(iy:hdI dy=true)(hu:A.units+min dx.depth dy.depth<cLine)(hr:ltD dx dy=some r)(q:Q r s):
 bj (bn prog w) A (fO (tuples' true) x y) Q E s:=by
 obtain⟨i,xs,rfl⟩:=hd_int ix
 obtain⟨j,ys,rfl⟩:=hd_int iy
 .skip
  cases rx with
  | @tuple l o vs n _ as₁ h1 h2 h3 h4=>
  cases ry with
  | @tuple l' o' vs' n' _ as' k1 k2 k3 k4=>
   have ha:PyData.canLayAll0 (.int i::xs)=true:=by simpa[PyData.canLay0] using hx
   have hb:PyData.canLayAll0 (.int j::ys)=true:=by simpa[PyData.canLay0] using hy
   refine kat_lt h1 h3 k1 k3 ?_
   generalize hv:vs.toList=us at h4
   generalize hv':vs'.toList=us' at k4
   have sz:decide (vs.size<vs'.size)=decide (us.length<us'.length):=by rw[<-hv,<-hv'];simp
   rw[sz]
   erw[ltD] at hr
   cases h4 with
   |cons r1 r2=>
   cases k4 with
   |cons q1 q2=>
    cases r1 with|int _ t=>
    cases q1 with|int _ t'=>
    rw[O6]
    refine kat_cons ((eqAt_reads (.int i) (.int j) A s _ _ _ _ (.int i t) (.int j t') rfl rfl (room_here hu)) prog w _ _ ?_)
    rw[ltL] at hr
    split at hr
    .rename_i e
     rw[e]
     refine kat_yes (zbI _ _ 1 r (by lia) (lex_reads xs ys A s _ _ _ _ r r2 q2 (by simpa[PyData.canLayAll0,PyData.canLay0] using ha) (by simpa[PyData.canLayAll0,PyData.canLay0] using hb) ?_ hr) (by simp) q)
     erw[PyData.depth,PyData.depthAll] at hu
     lia
    .rename_i e
     rw[Bool.not_eq_true] at e
     rw[e]
     refine kat_no ?_
     erw[F3,beq_self_eq_true]
     erw[ltD,Option.some.injEq] at hr
     subst hr
     exact oneLt_int q
end So
namespace So
open PySem PySem.W PyProof.Rows
variable{cmp:Nat->Nat->Bool}{n:Nat}{α β:Type}
noncomputable def ev(cmp:Nat->Nat->Bool):KasT α->α
 | .ret a=>a
 | .ask i j k=>ev cmp (k (cmp i j))
noncomputable def KW(cmp:Nat->Nat->Bool)(n:Nat):KasT α->(α->Prop)->Prop
 | .ret a,P=>P a
 | .ask i j k,P=>i<n/\j<n/\KW cmp n (k (cmp i j)) P
theorem KW.ev{P:α->Prop}: ∀{t:KasT α},KW cmp n t P->P (So.ev cmp t)
 | .ret _,h=>h
 | .ask i j k,h=>KW.ev (t:=k (cmp i j)) h.2.2
theorem KW.bind{P:β->Prop}: ∀{t:KasT α},KW cmp n t (λa=>KW cmp n (f a) P)->KW cmp n (t.bind f) P
 | .ret _,h=>h
 | .ask i j k,h=>⟨h.1,h.2.1,KW.bind (t:=k (cmp i j)) h.2.2⟩
theorem KW.mono{P P':α->Prop}(hp: ∀a,P a->P' a): ∀{t:KasT α},KW cmp n t P->KW cmp n t P'
 | .ret _,h=>hp _ h
 | .ask i j k,h=>⟨h.1,h.2.1,KW.mono hp (t:=k (cmp i j)) h.2.2⟩
noncomputable def Pm(n:Nat)(p:Array Nat):Prop:=p.Perm (C4 n).toArray
def Pm.size{p:Array Nat}(h:Pm n p):p.size=n:=by have:=h.size_eq;simpa using this
def Pm.lt{p:Array Nat}(h:Pm n p){i:Nat}(hi:i<n):p.getD i 0<n:=by
 have hs:=h.size
 have hi':i<p.size:=by lia
 have e:p.getD i 0=p[i]:=by simp[Array.getD,hi']
 rw[e]
 have:=(h.mem_iff (a:=p[i])).mp (Array.getElem_mem hi')
 simpa using this
def Pm.rev(h:Pm n p)(i j:Nat):Pm n (cD p i j):=(mirror_perm _ _ _ _).trans h
def Pm.bub(h:Pm n p)(i j:Nat):Pm n (cA p i j):=(bubble_perm _ _ _).trans h
def gd{p:Array Nat}{i:Nat}:p.getD i 0=(p[i]?).getD 0:=by simp[Array.getD_eq_getD_getElem?]
def z4T{p:Array Nat}{i j k:Nat}(hj:j<=p.size):(cD p i j).getD k 0=if i<=k/\k<j then p.getD (i+j - 1 -k) 0 else p.getD k 0:=by
 rw[gd,cD,getElem?_mirror_all hj]
 split<;>exact gd.symm
def zi9{p:Array Nat}{s d k:Nat}(hs:s<p.size)(hd:d<=s):(cA p s d).getD k 0=if k=s -d then p.getD s 0 else if s -d<k/\k<=s then p.getD (k - 1) 0 else p.getD k 0:=by
 rw[gd,getElem?_bubble hs d hd]
 by_cases h1:k=s -d
 .rw[if_pos h1,if_pos h1,gd]
 .rw[if_neg h1,if_neg h1]
  split<;>exact gd.symm
structure Od(cmp:Nat->Nat->Bool)(n:Nat):Prop where
 a: ∀i j,i<n->j<n->cmp i j=true->cmp j i=false
 t: ∀i j k,i<n->j<n->k<n->cmp i j=false->cmp j k=false->cmp i k=false
def Od.r(h:Od cmp n){i:Nat}(hi:i<n):cmp i i=false:=by
 cases e:cmp i i with
 |false=>rfl
 |true=>rw[<-e];exact h.a i i hi hi e
noncomputable def Srt(cmp:Nat->Nat->Bool)(p:Array Nat)(m:Nat):Prop:= ∀i j,i<=j->j<m->cmp (p.getD j 0) (p.getD i 0)=false
noncomputable def Dsc(cmp:Nat->Nat->Bool)(p:Array Nat)(m:Nat):Prop:= ∀i j,i<=j->j<m->cmp (p.getD i 0) (p.getD j 0)=false
noncomputable def Eqt(cmp:Nat->Nat->Bool)(p:Array Nat)(m q:Nat):Prop:= ∀i,m -(q+1)<=i->i<m->cmp (p.getD i 0) (p.getD (m - 1) 0)=false/\cmp (p.getD (m - 1) 0) (p.getD i 0)=false
def Srt.up{p:Array Nat}{m:Nat}(o:Od cmp n)(hp:Pm n p)(h:Srt cmp p m)(h1:1<=m)(hm:m<n)(e:cmp (p.getD m 0) (p.getD (m - 1) 0)=false):Srt cmp p (m+1):=by
 intro i j hij hj
 by_cases hjm:j<m
 .exact h i j hij hjm
 .obtain rfl:j=m:=by lia
  by_cases hi:i=j
  .subst hi;exact o.r (hp.lt hm)
  .exact o.t _ _ _ (hp.lt hm) (hp.lt (show j - 1<n by lia)) (hp.lt (show i<n by lia)) e (h i (j - 1) (by lia) (by lia))
theorem zd1{p:Array Nat}(hp:Pm n p): ∀(f m:Nat),1<=m->m+f<=n->KW cmp n (kas_asc p f m) λr=>m<=r/\r<=m+f/\(Od cmp n->Srt cmp p m->Srt cmp p r)/\(r<m+f->cmp (p.getD r 0) (p.getD (r - 1) 0)=true)
 |0,m,_,_=>⟨i7 _,i7 _,λ_ h=>h,λh=>absurd h (by lia)⟩
 |f+1,m,h1,h2=>by
  refine⟨hp.lt (by lia),hp.lt (by lia), ?_⟩
  cases e:cmp (p.getD m 0) (p.getD (m - 1) 0) with
  |true=>exact⟨i7 _,by lia,λ_ h=>h,λ_=>e⟩
  |false=>
   refine KW.mono (λr hr=> ?_) (zd1 hp f (m+1) (by lia) (by lia))
   obtain⟨a,b,c,d⟩:=hr
   exact⟨by lia,by lia,λo h=>c o (h.up o hp h1 (by lia) e),λh=>d (by lia)⟩
def Dsc.eqrev{p:Array Nat}{m q:Nat}(o:Od cmp n)(hp:Pm n p)(h:Dsc cmp p m)(he:Eqt cmp p m q)(hq:q+1<=m)(hm:m<=n):Dsc cmp (cD p (m -(q+1)) m) m/\∀i,i<m->cmp ((cD p (m -(q+1)) m).getD i 0) (p.getD (m - 1) 0)=false:=by
 have hz:m<=p.size:=by rw[hp.size];exact hm
 have le: ∀i,i<m->p.getD i 0<n:=λi hi=>hp.lt (by lia)
 refine⟨λi j hij hj=> ?_,λi hi=> ?_⟩
 .rw[z4T hz,z4T hz]
  by_cases hi:m -(q+1)<=i/\i<m
  .rw[if_pos hi,if_pos (by lia)]
   exact o.t _ _ _ (le _ (by lia)) (le (m - 1) (by lia)) (le _ (by lia)) (he _ (by lia) (by lia)).1 (he _ (by lia) (by lia)).2
  .rw[if_neg hi]
   split
   .exact h _ _ (by lia) (by lia)
   .exact h _ _ hij hj
 .rw[z4T hz]
  split
  .exact(he _ (by lia) (by lia)).1
  .exact h _ _ (by lia) (by lia)
theorem z6w: ∀(f:Nat) (p:Array Nat) (m q:Nat),Pm n p->q+1<=m->m+f<=n->(Od cmp n->Dsc cmp p m/\Eqt cmp p m q)->
 KW cmp n (kas_desc f p m q) λr=>Pm n r.1/\m<=r.2.1/\r.2.1<=m+f/\r.2.2+1<=r.2.1/\(Od cmp n->Dsc cmp r.1 r.2.1/\Eqt cmp r.1 r.2.1 r.2.2)
 |0,p,m,q,hp,hq,hm,h=>⟨hp,i7 _,i7 _,hq,h⟩
 |f+1,p,m,q,hp,hq,hm,h=>by
  have hz:m<=p.size:=by rw[hp.size];lia
  refine⟨hp.lt (by lia),hp.lt (by lia), ?_⟩
  have e1: ∀(p':Array Nat),Od cmp n->(Eqt cmp p' (m+1) 0↔cmp (p'.getD m 0) (p'.getD m 0)=false):=λp' o=>by
   constructor
   .intro z;exact(z m (by lia) (by lia)).1
   .intro z i hi hi'
    obtain rfl:i=m:=by lia
    exact⟨z,z⟩
  cases e:cmp (p.getD m 0) (p.getD (m - 1) 0) with
  |true=>
   erw[if_true]
   by_cases h0:q>0
   .erw[if_pos h0]
    refine KW.mono (λr hr=>⟨hr.1,by lia,by lia,hr.2.2.2⟩) (z6w f (cD p (m -(q+1)) m) (m+1) 0 (hp.rev _ _) (by lia) (by lia) λo=> ?_)
    obtain⟨d,t⟩:=h o
    obtain⟨d',u⟩:=d.eqrev o hp t hq (by lia)
    have gm:(cD p (m -(q+1)) m).getD m 0=p.getD m 0:=by rw[z4T hz,if_neg (by lia)]
    have lt: ∀i,i<n->(cD p (m -(q+1)) m).getD i 0<n:=λi hi=>(hp.rev _ _).lt hi
    refine⟨λi j hij hj=> ?_,(e1 _ o).mpr (o.r (lt m (by lia)))⟩
    by_cases hjm:j<m
    .exact d' i j hij hjm
    .obtain rfl:j=m:=by lia
     by_cases hi:i=j
     .subst hi;exact o.r (lt _ (by lia))
     .rw[gm]
      exact o.t _ _ _ (lt _ (by lia)) (hp.lt (show j - 1<n by lia)) (hp.lt (by lia)) (u i (by lia)) (o.a _ _ (hp.lt (by lia)) (hp.lt (by lia)) e)
   .erw[if_neg h0]
    refine KW.mono (λr hr=>⟨hr.1,by lia,by lia,hr.2.2.2⟩) (z6w f p (m+1) 0 hp (by lia) (by lia) λo=> ?_)
    obtain⟨d,t⟩:=h o
    refine⟨λi j hij hj=> ?_,(e1 _ o).mpr (o.r (hp.lt (by lia)))⟩
    by_cases hjm:j<m
    .exact d i j hij hjm
    .obtain rfl:j=m:=by lia
     by_cases hi:i=j
     .subst hi;exact o.r (hp.lt (by lia))
     .exact o.t _ _ _ (hp.lt (by lia)) (hp.lt (show j - 1<n by lia)) (hp.lt (by lia)) (d i (j - 1) (by lia) (by lia)) (o.a _ _ (hp.lt (by lia)) (hp.lt (by lia)) e)
  |false=>
   erw[A4,if_false]
   refine⟨hp.lt (by lia),hp.lt (by lia), ?_⟩
   cases e':cmp (p.getD (m - 1) 0) (p.getD m 0) with
   |true=>exact⟨hp,i7 _,u00 _ _,hq,h⟩
   |false=>
    erw[A4,if_false]
    refine KW.mono (λr hr=>⟨hr.1,by lia,by lia,hr.2.2.2⟩) (z6w f p (m+1) (q+1) hp (by lia) (by lia) λo=> ?_)
    obtain⟨d,t⟩:=h o
    refine⟨λi j hij hj=> ?_,λi hi hi'=> ?_⟩
    .by_cases hjm:j<m
     .exact d i j hij hjm
     .obtain rfl:j=m:=by lia
      by_cases hi:i=j
      .subst hi;exact o.r (hp.lt (by lia))
      .exact o.t _ _ _ (hp.lt (by lia)) (hp.lt (show j - 1<n by lia)) (hp.lt (by lia)) (d i (j - 1) (by lia) (by lia)) e'
    .rw[Nat.add_sub_cancel]
     by_cases him:i=m
     .subst him;exact⟨o.r (hp.lt (by lia)),o.r (hp.lt (by lia))⟩
     .obtain⟨t1,t2⟩:=t i (by lia) (by lia)
      exact⟨o.t _ _ _ (hp.lt (by lia)) (hp.lt (show m - 1<n by lia)) (hp.lt (by lia)) t1 e',o.t _ _ _ (hp.lt (by lia)) (hp.lt (show m - 1<n by lia)) (hp.lt (by lia)) e t2⟩
noncomputable def Cnt(cmp:Nat->Nat->Bool)(n:Nat)(r:Nat×Array Nat):Prop:=Pm n r.2/\1<=r.1/\r.1<=n/\(Od cmp n->Srt cmp r.2 r.1)
def zbJ{m:Nat}(hp:Pm n p)(h1:1<=m)(hm:m<=n)(h:Od cmp n->Dsc cmp p m):KW cmp n (kas_tail3 m n p) (Cnt cmp n):=by
 have hz:m<=p.size:=by rw[hp.size];exact hm
 refine KW.bind (KW.mono (λr hr=> ?_) (zd1 (hp.rev 0 m) (n -m) m h1 (by lia)))
 obtain⟨a,b,c,_⟩:=hr
 refine⟨hp.rev _ _,by show 1<=r;lia,by show r<=n;lia,λo=>c o λi j hij hj=> ?_⟩
 rw[z4T hz,z4T hz,if_pos (by lia),if_pos (by lia)]
 exact h o _ _ (by lia) (by lia)
def z8l{m:Nat}(hp:Pm n p)(h1:1<=m)(hm:m+1<=n)(h:Od cmp n->Dsc cmp p (m+1)):KW cmp n (kas_descPart m n p) (Cnt cmp n):=by
 refine KW.bind (KW.mono (λr hr=> ?_) (z6w (n -(m+1)) p (m+1) 0 hp (by lia) (by lia) λo=>⟨h o,λi hi hi'=> ?_⟩))
 .obtain⟨a,b,c,d,e⟩:=hr
  split
  .exact zbJ (a.rev _ _) (by lia) (by lia) λo=>((e o).1.eqrev o a (e o).2 d (by lia)).1
  .exact zbJ a (by lia) (by lia) λo=>(e o).1
 .obtain rfl:i=m:=by lia
  exact⟨h o i i (i7 _) (by lia),h o i i (i7 _) (by lia)⟩
def zd2(hp:Pm n p)(h1:1<=n):KW cmp n (kas_count n p) (Cnt cmp n):=by
 refine KW.bind (KW.mono (λr hr=> ?_) (zd1 hp (n - 1) 1 (i7 _) (by lia)))
 obtain⟨a,b,c,d⟩:=hr
 have s1:Od cmp n->Srt cmp p r:=λo=>c o λi j hij hj=>by
  obtain rfl:j=0:=by lia
  obtain rfl:i=0:=by lia
  exact o.r (hp.lt (by lia))
 have hz:r<=p.size:=by rw[hp.size];lia
 by_cases hn:r=n
 .rw[if_pos (by simpa using hn)]
  exact⟨hp,a,by lia,s1⟩
 .rw[if_neg (by simpa using hn)]
  have hd:cmp (p.getD r 0) (p.getD (r - 1) 0)=true:=d (by lia)
  by_cases h2:r>1
  .rw[if_pos h2]
   refine⟨hp.lt (by lia),hp.lt (by lia), ?_⟩
   cases e:cmp (p.getD 0 0) (p.getD (r - 1) 0) with
   |true=>exact⟨hp,a,by lia,s1⟩
   |false=>
    refine z8l (hp.rev _ _) a (by lia) λo i j hij hj=> ?_
    have s:=s1 o
    have all: ∀i j,i<r->j<r->cmp (p.getD i 0) (p.getD j 0)=false:=λi j hi hj=>by
     have q1:cmp (p.getD i 0) (p.getD 0 0)=false:=s 0 i (C0 _) hi
     have q2:cmp (p.getD (r - 1) 0) (p.getD j 0)=false:=s j (r - 1) (by lia) (by lia)
     exact o.t _ _ _ (hp.lt (by lia)) (hp.lt (show 0<n by lia)) (hp.lt (by lia)) q1 (o.t _ _ _ (hp.lt (by lia)) (hp.lt (show r - 1<n by lia)) (hp.lt (by lia)) e q2)
    have al: ∀i,i<r->(cD p 0 r).getD i 0=p.getD (r - 1 -i) 0:=λi hi=>by rw[z4T hz,if_pos (by lia)];congr 1;lia
    by_cases hjr:j<r
    .rw[al i (by lia),al j hjr];exact all _ _ (by lia) (by lia)
    .obtain rfl:j=r:=by lia
     have er:(cD p 0 j).getD j 0=p.getD j 0:=by rw[z4T hz,if_neg (by lia)]
     by_cases hi:i=j
     .subst hi;exact o.r ((hp.rev _ _).lt (by lia))
     .rw[al i (by lia),er]
      exact o.t _ _ _ (hp.lt (by lia)) (hp.lt (show j - 1<n by lia)) (hp.lt (by lia)) (all _ _ (by lia) (by lia)) (o.a _ _ (hp.lt (by lia)) (hp.lt (by lia)) hd)
  .rw[if_neg h2]
   refine z8l hp a (by lia) λo i j hij hj=> ?_
   obtain rfl:r=1:=by lia
   by_cases hi:i=j
   .subst hi;exact o.r (hp.lt (by lia))
   .obtain rfl:i=0:=by lia
    obtain rfl:j=1:=by lia
    exact o.a _ _ (hp.lt (by lia)) (hp.lt (by lia)) hd
theorem z5G{k:Nat}(hp:Pm n p)(hk:k<n): ∀(f l r:Nat),r -l<=f->l<=r->r<=k->KW cmp n (kas_place p k f l r) λx=>l<=x/\x<=r/\(Od cmp n->Srt cmp p k->
 (∀i,i<l->cmp (p.getD k 0) (p.getD i 0)=false)->(∀i,r<=i->i<k->cmp (p.getD i 0) (p.getD k 0)=false)->(∀i,i<x->cmp (p.getD k 0) (p.getD i 0)=false)/\∀i,x<=i->i<k->cmp (p.getD i 0) (p.getD k 0)=false)
 |0,l,r,hf,hlr,hrk=>⟨i7 _,hlr,λ_ _ h1 h2=>⟨h1,λi hi hi'=>h2 i (by lia) hi'⟩⟩
 |f+1,l,r,hf,hlr,hrk=>by
  unfold kas_place
  by_cases h:l≥r
  .rw[if_pos h]
   exact⟨i7 _,hlr,λ_ _ h1 h2=>⟨h1,λi hi hi'=>h2 i (by lia) hi'⟩⟩
  .rw[if_neg h]
   refine⟨hp.lt hk,hp.lt (by lia), ?_⟩
   cases e:cmp (p.getD k 0) (p.getD ((l+r)/2) 0) with
   |true=>
    erw[if_true]
    refine KW.mono (λx hx=> ?_) (z5G hp hk f l ((l+r)/2) (by lia) (by lia) (by lia))
    obtain⟨a,b,c⟩:=hx
    refine⟨a,by lia,λo s h1 h2=>c o s h1 λi hi hi'=> ?_⟩
    exact o.t _ _ _ (hp.lt (by lia)) (hp.lt (show(l+r)/2<n by lia)) (hp.lt hk) (s _ _ hi hi') (o.a _ _ (hp.lt hk) (hp.lt (by lia)) e)
   |false=>
    erw[A4,if_false]
    refine KW.mono (λx hx=> ?_) (z5G hp hk f ((l+r)/2+1) r (by lia) (by lia) hrk)
    obtain⟨a,b,c⟩:=hx
    refine⟨by lia,b,λo s h1 h2=>c o s (λi hi=> ?_) h2⟩
    exact o.t _ _ _ (hp.lt hk) (hp.lt (show(l+r)/2<n by lia)) (hp.lt (by lia)) e (s _ _ (by lia) (by lia))
theorem zfr: ∀(f:Nat) (p:Array Nat) (k:Nat),Pm n p->k+f<=n->(Od cmp n->Srt cmp p k)->KW cmp n (kas_bin f p k) λq=>Pm n q/\(Od cmp n->Srt cmp q (k+f))
 |0,p,k,hp,_,h=>⟨hp,h⟩
 |f+1,p,k,hp,hk,h=>by
  have hz:k<p.size:=by rw[hp.size];lia
  refine KW.bind (KW.mono (λx hx=> ?_) (z5G hp (by lia) k 0 k (by lia) (C0 _) (i7 _)))
  obtain⟨_,b,c⟩:=hx
  refine KW.mono (λq hq=>⟨hq.1,λo=>by have:=hq.2 o;rw[show k+(f+1)=k+1+f by lia];exact this⟩) (zfr f (cA p k (k -x)) (k+1) (hp.bub _ _) (by lia) λo=> ?_)
  have s:=h o
  obtain⟨c1,c2⟩:=c o s (λi hi=>absurd hi (by lia)) λi hi hi'=>absurd hi' (by lia)
  have g: ∀i,(cA p k (k -x)).getD i 0=if i=x then p.getD k 0 else if x<i/\i<=k then p.getD (i - 1) 0 else p.getD i 0:=λi=>by
   rw[zi9 hz (by lia),show k -(k -x)=x by lia]
  intro i j hij hj
  by_cases hi:i=j
  .subst hi;exact o.r ((hp.bub _ _).lt (by lia))
  .rw[g,g]
   by_cases hjx:j=x
   .rw[if_pos hjx,if_neg (by lia),if_neg (by lia)]
    exact c1 i (by lia)
   .rw[if_neg hjx]
    by_cases hjk:x<j/\j<=k
    .rw[if_pos hjk]
     by_cases hix:i=x
     .rw[if_pos hix];exact c2 _ (by lia) (by lia)
     .rw[if_neg hix]
      split
      .exact s _ _ (by lia) (by lia)
      .exact s _ _ (by lia) (by lia)
    .rw[if_neg hjk]
     rw[if_neg (by lia),if_neg (by lia)]
     exact s _ _ hij (by lia)
def z8m(h:1<=n):KW cmp n (dn n) λq=>Pm n q/\(Od cmp n->Srt cmp q n):=by
 refine KW.bind (KW.mono (λr hr=> ?_) (zd2 (Array.Perm.refl _) h))
 obtain⟨a,b,c,d⟩:=hr
 by_cases hl:r.1<n
 .rw[if_pos hl]
  have e:max r.1 1=r.1:=by lia
  rw[e]
  refine KW.mono (λq hq=>⟨hq.1,λo=>by have:=hq.2 o;rw[show r.1+(n -r.1)=n by lia] at this;exact this⟩) (zfr (n -r.1) r.2 r.1 a (by lia) d)
 .rw[if_neg hl]
  obtain e:r.1=n:=by lia
  rw[e] at d
  exact⟨a,d⟩
end So
namespace So
open PySem PySem.W PyProof.Rows PySem.SeqAt
def z1d(n:Nat)(cmp:Nat->Nat->Bool): ∃q:Array Nat,(q.size=n/\Al (· <n) q)/\∃p g,∀(prog:bm) (w:bo) (A:bq) (E:be->bf->Prop) (e:En) (G:bf->Prop) (Q:Unit->SortSt->bf->Prop) (s:bf),Cmp prog w A cmp G e->G s->(∀s',G s'->Q () (sst q p g e) s')->kasC (bn prog w) A E sortRuns' Q (sst (C4 n).toArray #[] 7 e) s:=by
 obtain⟨v,st',⟨q,p,g,rfl,h1,h2⟩,h⟩:=zfq (cmp:=cmp) (T:=(· <n)) (q:=(C4 n).toArray) (g:=7) (N:=n) (P:=λ_ st'=> ∃q p g,st'=sst q p g/\q.size=n/\Al (· <n) q) (λi hi=>by simpa using hi) (by simp) λq' p' g' a b=>⟨q',p',g',rfl,b,a⟩
 exact⟨q,⟨h1,h2⟩,p,g,h⟩
open Classical in
noncomputable def perm(n:Nat)(cmp:Nat->Nat->Bool):List Nat:=if n<2 then C4 n else(z1d n λi j=>cmp (i %n) (j %n)).choose.toList
def perm_len{n:Nat}:(perm n cmp).length=n:=by
 unfold perm
 split
 .simp
 .rw[Array.length_toList];exact(z1d n λi j=>cmp (i %n) (j %n)).choose_spec.1.1
def perm_lt{n:Nat}: ∀i∈perm n cmp,i<n:=by
 unfold perm
 split
 .intro i hi;simpa using hi
 .intro i hi;exact(z1d n λi j=>cmp (i %n) (j %n)).choose_spec.1.2 i (by simpa using hi)
def zd3{vs:List be}:(vs.toArray.zip vs.toArray).map (·.2)=vs.toArray:=by
 apply Array.ext_getElem?
 intro i
 by_cases hi:i<vs.length<;>simp[hi]
def z7c{vs:List be}:(C4 vs.length).map (λi=>vs.getD i Value.none)=vs:=by
 apply List.ext_getElem?
 intro i
 by_cases hi:i<vs.length<;>simp[hi]
section
variable{prog:bm}{w:bo}{A:bq}{E:be->bf->Prop}{s:bf}
theorem z3S{vs:List be}{n:Nat}{cmp:Nat->Nat->Bool}{P:PySem.Fin->bf->Prop}(ho:s.heap.get? a=some (bz "list" vs.toArray n))(hz:vs.length<=sizeLine)
 (hk: ∀h',(∀b o,b≠a->s.heap.get? b=some o->h'.get? b=some o)->2<=vs.length->∃κ,(∀(Q:dk->bf->Prop) E,Q κ {s with heap:=h'}->bj (bn prog w) A (fC vs.toArray) Q E {s with heap:=h'})/\
  ∀i j (hi:i<vs.length) (hj:j<vs.length) (C:Bool->bf->Prop),C (cmp i j) {s with heap:=h'}->bj (bn prog w) A (fO κ vs[i] vs[j]) C (λ_ _=>False) {s with heap:=h'})
 (h: ∀h' e1,(∀b o,b≠a->s.heap.get? b=some o->h'.get? b=some o)->h'.get? a=some (bz "list" ((perm vs.length cmp).map λi=>vs.getD i Value.none).toArray e1)->P (.done (.ret .none)) {s with heap:=h'}):
 bj (bn prog w) A (Builtin.«list.sort» ⟨[.ref a],[]⟩) P E s:=by
 have ha:a<s.heap.objs.size:=Heap.lt_size ho
 obtain⟨e1,ho1⟩: ∃e1,(s.heap.update a (Obj.mapSeq λ_=>(#[]:Array be))).get? a=some (bz "list" #[] e1):=⟨_,get?_update_seq ho λ_=> #[]⟩
 have ho3:(((s.heap.update a (Obj.mapSeq λ_=>(#[]:Array be))).push (bz "tuple" vs.toArray 0)).push (bz "list" #[] 0)).get? a=some (bz "list" #[] e1):=Heap.get?_push_of_some _ (Heap.get?_push_of_some _ ho1)
 have kept: ∀b o,b≠a->s.heap.get? b=some o->(((s.heap.update a (Obj.mapSeq λ_=>(#[]:Array be))).push (bz "tuple" vs.toArray 0)).push (bz "list" #[] 0)).get? b=some o:=λb o hb q=>
  Heap.get?_push_of_some _ (Heap.get?_push_of_some _ ((Heap.get?_update_ne _ _ _ _ hb).trans q))
 rw[list_sort_plain]
 refine bb (listItems_at ho rfl ?_)
 refine bb (cK ho rfl ?_ (by rw[m4];exact hz) (C0 _))
 refine bb (dq ho1 rfl ?_)
 refine bb (du ?_ (by show vs.length<=_;exact hz))
 refine bb (cL ?_ (C0 _))
 refine br ?_
 show bj (bn prog w) A _ P E {s with heap:=((s.heap.update a (Obj.mapSeq λ_=>(#[]:Array be))).push (bz "tuple" vs.toArray 0)).push (bz "list" #[] 0)}
 dsimp only
 generalize ((s.heap.update a (Obj.mapSeq λ_=>(#[]:Array be))).push (bz "tuple" vs.toArray 0)).push (bz "list" #[] 0)=h1 at ho3 kept⊢
 have fin: ∀st':SortSt,(dS st').map (·.2)=((perm vs.length cmp).map λi=>vs.getD i Value.none).toArray->dl st'=none->bj (bn prog w) A (do
  let touched<-seqEpoch a
  Builtin.List.listUpdate (.ref a) λ_=>(dS st').map (·.2)
  if let some e:=dl st' then rule "list.sort.comparison-raised";throw e
  if(touched !=e1)=true then rule "list.sort.modified";raiseError "ValueError" "list modified during sort"
  ret .none) P E {s with heap:=h1}:=by
  intro st' har hf
  refine bb (dq ho3 rfl ?_)
  rw[har]
  have hsz:((perm vs.length cmp).map λi=>vs.getD i Value.none).toArray.size=vs.length:=by rw[m4,i9,perm_len]
  refine bb (cK ho3 rfl ?_ (C0 _) (C1 (R5 hsz) (by lia)))
  rw[hf]
  erw[bne_self_eq_false,A4,if_false]
  obtain⟨c2,hc2⟩: ∃c2,(h1.update a (Obj.mapSeq λ_=>((perm vs.length cmp).map λi=>vs.getD i Value.none).toArray)).get? a=some (bz "list" ((perm vs.length cmp).map λi=>vs.getD i Value.none).toArray c2):=⟨_,get?_update_seq ho3 λ_=>_⟩
  exact bg (h _ c2 (λb o hb q=>(Heap.get?_update_ne _ _ _ _ hb).trans (kept b o hb q)) hc2)
 by_cases h2:vs.length<2
 .have h2':vs.toArray.size<2:=by simpa using h2
  rw[if_pos h2',if_pos h2']
  refine bb (bg ?_)
  rw[StateT.run_pure]
  refine bb (bg ?_)
  refine fin _ ?_ rfl
  show(vs.toArray.zip vs.toArray).map (·.2)=_
  unfold perm
  rw[if_pos h2,zd3,z7c]
 .have h2': ¬vs.toArray.size<2:=by simpa using h2
  rw[if_neg h2',if_neg h2']
  obtain⟨κ,k1,k2⟩:=hk h1 kept (by lia)
  refine bb (k1 _ _ ?_)
  have sz:(vs.toArray.zip vs.toArray).size=vs.length:=by simp
  have im_eq: ∀i,i<vs.length->im i (κ,vs.toArray.zip vs.toArray)=(vs.getD i Value.none,vs.getD i Value.none):=λi hi=>by
   unfold im
   rw[sz,Nat.mod_eq_of_lt hi,dU rfl]
  have est:SortSt.mk' κ (vs.toArray.zip vs.toArray) #[] 7 none=sst (C4 vs.length).toArray #[] 7 (κ,vs.toArray.zip vs.toArray):=by
   unfold sst ar
   have e:(C4 vs.length).toArray.map (λi=>im i (κ,vs.toArray.zip vs.toArray))=vs.toArray.zip vs.toArray:=by
    apply Array.ext_getElem?
    intro i
    by_cases hi:i<vs.length
    .rw[Array.getElem?_map]
     have:=im_eq i hi
     erw[List.getElem?_toArray,List.getElem?_range hi,l6,this]
     simp[hi]
    .simp[hi]
   rw[e]
  obtain⟨p,g,run⟩:=(z1d vs.length λi j=>cmp (i %vs.length) (j %vs.length)).choose_spec.2
  have hpe:perm vs.length cmp=(z1d vs.length λi j=>cmp (i %vs.length) (j %vs.length)).choose.toList:=by unfold perm;rw[if_neg h2]
  have hlt:=(z1d vs.length λi j=>cmp (i %vs.length) (j %vs.length)).choose_spec.1.2
  generalize (z1d vs.length λi j=>cmp (i %vs.length) (j %vs.length)).choose=q at run hpe hlt
  rw[est]
  have go:=run prog w A E (κ,vs.toArray.zip vs.toArray) (λs'=>s'={s with heap:=h1}) (λ_ st' s'=>st'=sst q p g (κ,vs.toArray.zip vs.toArray)/\s'={s with heap:=h1}) {s with heap:=h1} (λi j C s' hs hc=>by
   subst hs
   have l1:i %vs.length<vs.length:=Nat.mod_lt _ (by lia)
   have l2:j %vs.length<vs.length:=Nat.mod_lt _ (by lia)
   have hq:=k2 (i %vs.length) (j %vs.length) l1 l2 C (hc _ rfl)
   unfold fj
   erw[sz,dU rfl]
   rw[show vs.getD (i %vs.length) Value.none=vs[i %vs.length] by simp[l1],show vs.getD (j %vs.length) Value.none=vs[j %vs.length] by simp[l2]]
   exact hq) rfl λs' hs=>⟨rfl,hs⟩
  refine bb (bE go ?_ λ_ _ e=>e)
  rintro ⟨⟨⟩,st'⟩ s' ⟨hst,hs⟩
  dsimp only at hst⊢
  subst hst hs
  refine fin _ ?_ rfl
  rw[hpe]
  apply Array.toList_inj.mp
  show((ar q (κ,vs.toArray.zip vs.toArray)).map (·.2)).toList=_
  unfold ar
  rw[Array.map_map,Array.toList_map]
  exact D2 λi hi=>by show(im i (κ,vs.toArray.zip vs.toArray)).2=_;rw[im_eq i (hlt i (by simpa using hi))]
def call_sorted{vs:List be}{cmp:Nat->Nat->Bool}{Q:be->bf->Prop}(hl:s.heap.IsList l vs.toArray)(hz:vs.length<=sizeLine)
 (hk: ∀h',(∀b o,s.heap.get? b=some o->h'.get? b=some o)->2<=vs.length->∃κ,(∀(Q:dk->bf->Prop) E,Q κ {s with heap:=h'}->bj (bn prog w) A.in1.in1 (fC vs.toArray) Q E {s with heap:=h'})/\
  ∀i j (hi:i<vs.length) (hj:j<vs.length) (C:Bool->bf->Prop),C (cmp i j) {s with heap:=h'}->bj (bn prog w) A.in1.in1 (fO κ vs[i] vs[j]) C (λ_ _=>False) {s with heap:=h'})
 (h: ∀h' D e1,(∀b o,s.heap.get? b=some o->h'.get? b=some o)->s.heap.objs.size<=D->h'.get? D=some (bz "list" ((perm vs.length cmp).map λi=>vs.getD i Value.none).toArray e1)->Q (.ref D) {s with heap:=h'}):
 bj (bn prog w) A (call (.builtin "sorted") [.ref l]) Q E s:=by
 refine Calls.call_function_entry kind_sorted plain_sorted entry_sorted (args_sorted1 _) ?_
 unfold Builtin.«sorted»
 refine bb (m:=checkCount "sorted" 1 1 _) (bg ?_)
 refine bb (collect_list hl ?_ hz)
 refine bb (cL ?_ hz)
 have hsz:((s.heap.push (bz "list" #[] 0)).update s.heap.objs.size (Obj.mapSeq (· ++vs.toArray))).objs.size=s.heap.objs.size+1:=by
  rw[Heap.size_update,size_push']
 have hoL:(((s.heap.push (bz "list" #[] 0)).update s.heap.objs.size (Obj.mapSeq (· ++vs.toArray))).push (bz "list" vs.toArray 0)).get? (s.heap.objs.size+1)=some (bz "list" vs.toArray 0):=by
  rw[<-hsz];exact Heap.get?_push_size _ rfl
 have keep: ∀b o,s.heap.get? b=some o->(((s.heap.push (bz "list" #[] 0)).update s.heap.objs.size (Obj.mapSeq (· ++vs.toArray))).push (bz "list" vs.toArray 0)).get? b=some o:=λb o q=>by
  have hlt:b<s.heap.objs.size:=Heap.lt_size q
  rw[Heap.get?_push_ne _ _ _ (by rw[hsz];exact B1 (E9 hlt)),Heap.get?_update_ne _ _ _ _ (B1 hlt),Heap.get?_push_ne _ _ _ (B1 hlt)]
  exact q
 show bj _ _ _ _ _ {s with heap:=((s.heap.push (bz "list" #[] 0)).update s.heap.objs.size (Obj.mapSeq (· ++vs.toArray))).push (bz "list" vs.toArray 0)}
 rw[hsz]
 have ne: ∀{b o},s.heap.get? b=some o->b≠s.heap.objs.size+1:=λq=>B1 (E9 (Heap.lt_size q))
 refine bb (br (bx slot_list_sort ⟨_,hoL,rfl⟩ entry_list_sort ?body (args_list_sort _)))
 case body=>
  refine z3S (s:={s with heap:=((s.heap.push (bz "list" #[] 0)).update s.heap.objs.size (Obj.mapSeq (· ++vs.toArray))).push (bz "list" vs.toArray 0)}) (cmp:=cmp) hoL hz (λh' kp h2=> ?_) λh' e1 kp hD=> ?_
  .exact hk h' (λb o q=>kp b o (ne q) (keep b o q)) h2
  .exact⟨_,rfl,bg ⟨_,rfl,h h' _ e1 (λb o q=>kp b o (ne q) (keep b o q)) (Nat.le_succ _) hD⟩⟩
end
noncomputable def permS(n:Nat)(cmp:Nat->Nat->Bool):List Nat:=if n<2 then C4 n else(ev cmp (dn n)).toList
def permS_pm{n:Nat}:(permS n cmp).Perm (C4 n):=by
 unfold permS
 by_cases h2:n<2
 .rw[if_pos h2]
 .rw[if_neg h2]
  have:=(z8m (cmp:=cmp) (n:=n) (by lia)).ev.1.toList
  simpa using this
def permS_len{n:Nat}:(permS n cmp).length=n:=by rw[permS_pm.length_eq];simp
def permS_lt{n:Nat}: ∀i∈permS n cmp,i<n:=λi hi=>by have:=permS_pm.mem_iff.mp hi;simpa using this
def permS_srt{n:Nat}(o:Od cmp n): ∀i j,i<=j->j<n->cmp ((permS n cmp).getD j 0) ((permS n cmp).getD i 0)=false:=by
 intro i j hij hj
 by_cases h2:n<2
 .obtain rfl:i=j:=by lia
  refine o.r ?_
  have hl:i<(permS n cmp).length:=by rw[permS_len];exact hj
  rw[show(permS n cmp).getD i 0=(permS n cmp)[i] by simp[hl]]
  exact permS_lt _ (B3 hl)
 .have s:=(z8m (cmp:=cmp) (n:=n) (by lia)).ev.2 o i j hij hj
  have e: ∀i,(permS n cmp).getD i 0=(ev cmp (dn n)).getD i 0:=λi=>by
   unfold permS;rw[if_neg h2,gd];simp
  rw[e,e];exact s
theorem zjk{α:Type}{n:Nat}{G:bf->Prop}{P:α->Prop}(hc: ∀i j C s,i<n->j<n->G s->(∀s',G s'->C (cmp i j) s')->fj prog w A κ it i j C s): ∀{t:KasT α} {s:bf},KW cmp n t P->G s->t.kasWp (fj prog w A κ it) (λa s'=>a=ev cmp t/\G s') s
 | .ret _,_,_,hs=>⟨rfl,hs⟩
 | .ask i j k,s,hw,hs=>hc i j _ s hw.1 hw.2.1 hs λs' h'=>zjk hc (t:=k (cmp i j)) hw.2.2 h'
def zau{vs:List be}:(vs.toArray.zip vs.toArray).map (·.2)=vs.toArray:=by
 apply Array.ext_getElem?
 intro i
 by_cases hi:i<vs.length<;>simp[hi]
def z5H{vs:List be}:(C4 vs.length).map (λi=>vs.getD i Value.none)=vs:=by
 apply List.ext_getElem?
 intro i
 by_cases hi:i<vs.length<;>simp[hi]
section
variable{prog:bm}{w:bo}{A:bq}{E:be->bf->Prop}{s:bf}
theorem z5I{vs:List be}{n:Nat}{cmp:Nat->Nat->Bool}{P:PySem.Fin->bf->Prop}(ho:s.heap.get? a=some (bz "list" vs.toArray n))(h64:vs.length<64)
 (hk: ∀h',(∀b o,b≠a->s.heap.get? b=some o->h'.get? b=some o)->2<=vs.length->∃κ,(∀(Q:dk->bf->Prop) E,Q κ {s with heap:=h'}->bj (bn prog w) A (fC vs.toArray) Q E {s with heap:=h'})/\
  ∀i j (hi:i<vs.length) (hj:j<vs.length) (C:Bool->bf->Prop),C (cmp i j) {s with heap:=h'}->bj (bn prog w) A (fO κ vs[i] vs[j]) C (λ_ _=>False) {s with heap:=h'})
 (h: ∀h' e1,(∀b o,b≠a->s.heap.get? b=some o->h'.get? b=some o)->h'.get? a=some (bz "list" ((permS vs.length cmp).map λi=>vs.getD i Value.none).toArray e1)->P (.done (.ret .none)) {s with heap:=h'}):
 bj (bn prog w) A (Builtin.«list.sort» ⟨[.ref a],[]⟩) P E s:=by
 have hz:vs.length<=sizeLine:=by have:sizeLine=16777216:=rfl;lia
 obtain⟨e1,ho1⟩: ∃e1,(s.heap.update a (Obj.mapSeq λ_=>(#[]:Array be))).get? a=some (bz "list" #[] e1):=⟨_,get?_update_seq ho λ_=> #[]⟩
 have ho3:(((s.heap.update a (Obj.mapSeq λ_=>(#[]:Array be))).push (bz "tuple" vs.toArray 0)).push (bz "list" #[] 0)).get? a=some (bz "list" #[] e1):=Heap.get?_push_of_some _ (Heap.get?_push_of_some _ ho1)
 have kept: ∀b o,b≠a->s.heap.get? b=some o->(((s.heap.update a (Obj.mapSeq λ_=>(#[]:Array be))).push (bz "tuple" vs.toArray 0)).push (bz "list" #[] 0)).get? b=some o:=λb o hb q=>
  Heap.get?_push_of_some _ (Heap.get?_push_of_some _ ((Heap.get?_update_ne _ _ _ _ hb).trans q))
 rw[list_sort_plain]
 refine bb (listItems_at ho rfl ?_)
 refine bb (cK ho rfl ?_ (by rw[m4];exact hz) (C0 _))
 refine bb (dq ho1 rfl ?_)
 refine bb (du ?_ (by show vs.length<=_;exact hz))
 refine bb (cL ?_ (C0 _))
 refine br ?_
 show bj (bn prog w) A _ P E {s with heap:=((s.heap.update a (Obj.mapSeq λ_=>(#[]:Array be))).push (bz "tuple" vs.toArray 0)).push (bz "list" #[] 0)}
 dsimp only
 generalize ((s.heap.update a (Obj.mapSeq λ_=>(#[]:Array be))).push (bz "tuple" vs.toArray 0)).push (bz "list" #[] 0)=h1 at ho3 kept⊢
 have fin: ∀st':SortSt,(dS st').map (·.2)=((permS vs.length cmp).map λi=>vs.getD i Value.none).toArray->dl st'=none->bj (bn prog w) A (do
  let touched<-seqEpoch a
  Builtin.List.listUpdate (.ref a) λ_=>(dS st').map (·.2)
  if let some e:=dl st' then rule "list.sort.comparison-raised";throw e
  if(touched !=e1)=true then rule "list.sort.modified";raiseError "ValueError" "list modified during sort"
  ret .none) P E {s with heap:=h1}:=by
  intro st' har hf
  refine bb (dq ho3 rfl ?_)
  rw[har]
  have hsz:((permS vs.length cmp).map λi=>vs.getD i Value.none).toArray.size=vs.length:=by rw[m4,i9,permS_len]
  refine bb (cK ho3 rfl ?_ (C0 _) (C1 (R5 hsz) (by lia)))
  rw[hf]
  erw[bne_self_eq_false,A4,if_false]
  obtain⟨c2,hc2⟩: ∃c2,(h1.update a (Obj.mapSeq λ_=>((permS vs.length cmp).map λi=>vs.getD i Value.none).toArray)).get? a=some (bz "list" ((permS vs.length cmp).map λi=>vs.getD i Value.none).toArray c2):=⟨_,get?_update_seq ho3 λ_=>_⟩
  exact bg (h _ c2 (λb o hb q=>(Heap.get?_update_ne _ _ _ _ hb).trans (kept b o hb q)) hc2)
 by_cases h2:vs.length<2
 .have h2':vs.toArray.size<2:=by simpa using h2
  rw[if_pos h2',if_pos h2']
  refine bb (bg ?_)
  rw[StateT.run_pure]
  refine bb (bg ?_)
  refine fin _ ?_ rfl
  show(vs.toArray.zip vs.toArray).map (·.2)=_
  unfold permS
  rw[if_pos h2,zau,z5H]
 .have h2': ¬vs.toArray.size<2:=by simpa using h2
  rw[if_neg h2',if_neg h2']
  obtain⟨κ,k1,k2⟩:=hk h1 kept (by lia)
  refine bb (k1 _ _ ?_)
  have sz:(vs.toArray.zip vs.toArray).size=vs.length:=by simp
  have rr:((C4 vs.length).toArray.map (kas_item (vs.toArray.zip vs.toArray)))=vs.toArray.zip vs.toArray:=by
   have:=kas_range (vs.toArray.zip vs.toArray)
   rw[sz] at this
   exact this
  have est:SortSt.mk' κ (vs.toArray.zip vs.toArray) #[] 7 none=kas_st κ (vs.toArray.zip vs.toArray) (C4 vs.length).toArray:=by
   unfold kas_st
   rw[rr]
  have hpe:permS vs.length cmp=(ev cmp (dn vs.length)).toList:=by unfold permS;rw[if_neg h2]
  have hw:=z8m (cmp:=cmp) (n:=vs.length) (by lia)
  rw[est]
  have go:=kas_runs (prog:=prog) (w:=w) (A:=A) (E:=E) (κ:=κ) (it:=vs.toArray.zip vs.toArray) (n:=vs.length) (Q:=λ_ st' s'=>dS st'=(ev cmp (dn vs.length)).map (kas_item (vs.toArray.zip vs.toArray))/\dl st'=none/\s'={s with heap:=h1}) (G:=λp' s'=>p'=ev cmp (dn vs.length)/\s'={s with heap:=h1}) (s:={s with heap:=h1}) (by lia) h64 (λp' st' s' z1 z2 z3 z4=>⟨by rw[z2,z4.1],z3,z4.2⟩) (zjk (G:=λs'=>s'={s with heap:=h1}) (λi j C s' hi hj hs hC=>by
   subst hs
   have hq:=k2 i j hi hj C (hC _ rfl)
   unfold fj
   rw[dU rfl,dU rfl]
   rw[show vs.getD i Value.none=vs[i] by simp[hi],show vs.getD j Value.none=vs[j] by simp[hj]]
   exact hq) hw rfl)
  refine bb (bE go ?_ λ_ _ e=>e)
  rintro ⟨⟨⟩,st'⟩ s' ⟨hst,hfa,hs⟩
  dsimp only at hst hfa⊢
  subst hs
  refine fin _ ?_ hfa
  rw[hpe,hst]
  apply Array.toList_inj.mp
  rw[Array.map_map,Array.toList_map]
  exact D2 λi hi=>by erw[Function.comp];rw[dU rfl]
end
end So
namespace L2
open PySem PySem.Spec PyProof.Rows
mutual
noncomputable def Dp(K:W.Frag)(H:Hp):PyData->V->Prop
 | .none,v=>v= .non
 | .bool b,v=>v= .bl b
 | .int i,v=>v= .int i
 | .str x,v=>v= .str x
 | .list ds,v=> ∃a xs,v= .ref a/\SqL K H a xs/\DpAll K H ds xs
 | .tuple ds,v=> ∃a xs,v= .ref a/\SqT K H a xs/\DpAll K H ds xs
 | .dict _,_=>False
noncomputable def DpAll(K:W.Frag)(H:Hp):List PyData->List V->Prop
 |[],xs=>xs=[]
 |d::ds,xs=> ∃x r,xs=x::r/\Dp K H d x/\DpAll K H ds r
end
section
variable{X:Cx}{pins:List (Addr×bK)}{σ:St}{H:Hp}{s:bf}
mutual
theorem Dp.reads(I:Inv X pins σ H s): ∀(d:PyData) (v:V) (u:be),Dp X.K H d v->RelV v u->∃as,fQ s.heap u d as
 | .none,v,u,h,r=>by
  erw[Dp] at h;subst h;cases r;exact⟨_, .none⟩
 | .bool b,v,u,h,r=>by
  erw[Dp] at h;subst h;cases r;exact⟨_, .bool b⟩
 | .int i,v,u,h,r=>by
  erw[Dp] at h;subst h;obtain⟨t,rfl⟩:=r;exact⟨_, .int i t⟩
 | .str x,v,u,h,r=>by
  erw[Dp] at h;subst h;obtain⟨t,rfl⟩:=r;exact⟨_, .str x t⟩
 | .list ds,v,u,h,r=>by
  erw[Dp] at h
  obtain⟨a,xs,rfl,hs,hd⟩:=h
  cases r
  obtain⟨its,rv,⟨o,n,e,c,_,dd⟩,_⟩:=I.list hs
  obtain⟨as,ra⟩:=DpAll.reads I ds xs its hd rv
  exact⟨_, .list e c dd (by simpa using ra)⟩
 | .tuple ds,v,u,h,r=>by
  erw[Dp] at h
  obtain⟨a,xs,rfl,hs,hd⟩:=h
  cases r
  obtain⟨its,rv,⟨o,e,c,n,dd⟩,_⟩:=I.tuple hs
  obtain⟨as,ra⟩:=DpAll.reads I ds xs its hd rv
  exact⟨_, .tuple e c dd (by simpa using ra)⟩
 | .dict _,v,u,h,r=>by
  erw[Dp] at h
theorem DpAll.reads(I:Inv X pins σ H s): ∀(ds:List PyData) (vs:List V) (us:List be),DpAll X.K H ds vs->J4 vs us->∃as,dm s.heap us ds as
 |[],vs,us,h,r=>by
  erw[DpAll] at h;subst h
  cases r
  exact⟨_, .nil⟩
 |d::ds,vs,us,h,r=>by
  erw[DpAll] at h
  obtain⟨x,q,rfl,h1,h2⟩:=h
  cases r with
  |cons r1 r2=>
   obtain⟨as,ra⟩:=Dp.reads I d _ _ h1 r1
   obtain⟨bs,rb⟩:=DpAll.reads I ds _ _ h2 r2
   exact⟨_, .cons ra rb⟩
end
noncomputable def zho(K:W.Frag)(neg:Bool):R2:=λx y H Q=> ∃d e,Dp K H d x/\Dp K H e y/\d.canLay0=true/\e.canLay0=true/\min d.depth e.depth<=60/\
 Q (.bl (if neg then !PyData.eqv d e else PyData.eqv d e)) H
def zfs(hu:X.A.units+64<cLine):OpR X (bX .Eq) (zho X.K false):=by
 intro pins s σ H x y v u Q I rx ry h
 obtain⟨d,e,hx,hy,c1,c2,hd,q⟩:=h
 obtain⟨as,ra⟩:=hx.reads I _ _ _ rx
 obtain⟨bs,rb⟩:=hy.reads I _ _ _ ry
 exact SeqAt.compareEq_reads ra rb c1 c2 (by lia) ⟨.bl _,H,I,rfl,q⟩
def zft(hu:X.A.units+64<cLine):OpR X (bX .NotEq) (zho X.K true):=by
 intro pins s σ H x y v u Q I rx ry h
 obtain⟨d,e,hx,hy,c1,c2,hd,q⟩:=h
 obtain⟨as,ra⟩:=hx.reads I _ _ _ rx
 obtain⟨bs,rb⟩:=hy.reads I _ _ _ ry
 exact SeqAt.compareNe_reads ra rb c1 c2 (by lia) ⟨.bl _,H,I,rfl,q⟩
noncomputable def zjl(K:W.Frag)(H:Hp)(T:String)(r:Bool):V->Prop
 | .non=>r=false
 | .bl _=>r=(T== "int" ||T== "bool")
 | .int _=>r=(T== "int")
 | .str _=>r=(T== "str")
 | .ref a=>(∃xs,SqT K H a xs/\r=(T== "tuple"))\/(∃xs,SqL K H a xs/\r=(T== "list"))
 |_=>False
noncomputable def zjL(K:W.Frag):List V->Hp->VK->Prop:=λxs H Q=> ∃x T r,xs=[x, .ty T]/\(T= "int" \/T= "bool" \/T= "tuple" \/T= "list" \/T= "str")/\zjl K H T r x/\Q (.bl r) H
def zav:CallR X (.builtin "isinstance") (zjL X.K):=by
 intro pins s σ H xs us Q I r h
 obtain⟨x,T,b,rfl,hT,hx,q⟩:=h
 obtain⟨u,u',rfl,ru,ru'⟩:=zcH r
 cases ru'
 have fin: ∀t,EP X pins σ Q (.bool b) {s with toks:=t}:=λt=>⟨.bl b,H,I.tok t,rfl,q⟩
 have fin0:EP X pins σ Q (.bool b) s:=⟨.bl b,H,I,rfl,q⟩
 cases x with
 |non=>
  cases ru
  have hx:b=false:=hx
  subst hx
  rcases hT with rfl|rfl|rfl|rfl|rfl
  .exact IsiPair.NoneType_int (fin _)
  .exact IsiPair.NoneType_bool (fin _)
  .exact IsiPair.NoneType_tuple (fin _)
  .exact IsiPair.NoneType_list (fin _)
  .exact IsiPair.NoneType_str (fin _)
 |bl k=>
  cases ru
  rcases hT with rfl|rfl|rfl|rfl|rfl
  .have hx:b=true:=hx
   subst hx;exact IsiPair.bool_int fin0
  .have hx:b=true:=hx
   subst hx;exact IsiPair.bool_bool fin0
  .have hx:b=false:=hx
   subst hx;exact IsiPair.bool_tuple (fin _)
  .have hx:b=false:=hx
   subst hx;exact IsiPair.bool_list (fin _)
  .have hx:b=false:=hx
   subst hx;exact IsiPair.bool_str (fin _)
 |int k=>
  obtain⟨t,rfl⟩:=ru
  rcases hT with rfl|rfl|rfl|rfl|rfl
  .have hx:b=true:=hx
   subst hx;exact IsiPair.int_int fin0
  .have hx:b=false:=hx
   subst hx;exact IsiPair.int_bool (fin _)
  .have hx:b=false:=hx
   subst hx;exact IsiPair.int_tuple (fin _)
  .have hx:b=false:=hx
   subst hx;exact IsiPair.int_list (fin _)
  .have hx:b=false:=hx
   subst hx;exact IsiPair.int_str (fin _)
 |str k=>
  obtain⟨t,rfl⟩:=ru
  rcases hT with rfl|rfl|rfl|rfl|rfl
  .have hx:b=false:=hx
   subst hx;exact IsiPair.str_int (fin _)
  .have hx:b=false:=hx
   subst hx;exact IsiPair.str_bool (fin _)
  .have hx:b=false:=hx
   subst hx;exact IsiPair.str_tuple (fin _)
  .have hx:b=false:=hx
   subst hx;exact IsiPair.str_list (fin _)
  .have hx:b=true:=hx
   subst hx;exact IsiPair.str_str fin0
 |ref a=>
  cases ru
  rcases hx with⟨ys,hs,hb⟩|⟨ys,hs,hb⟩
  .obtain⟨its,rv,⟨o,e,c,n,dd⟩,_⟩:=I.tuple hs
   rcases hT with rfl|rfl|rfl|rfl|rfl
   .have hx:b=false:=hb
    subst hx;exact IsiPair.tuple_int e c (fin _)
   .have hx:b=false:=hb
    subst hx;exact IsiPair.tuple_bool e c (fin _)
   .have hx:b=true:=hb
    subst hx;exact IsiPair.tuple_tuple e c fin0
   .have hx:b=false:=hb
    subst hx;exact IsiPair.tuple_list e c (fin _)
   .have hx:b=false:=hb
    subst hx;exact IsiPair.tuple_str e c (fin _)
  .obtain⟨its,rv,⟨o,n,e,c,_,dd⟩,_⟩:=I.list hs
   rcases hT with rfl|rfl|rfl|rfl|rfl
   .have hx:b=false:=hb
    subst hx;exact IsiPair.list_int e c (fin _)
   .have hx:b=false:=hb
    subst hx;exact IsiPair.list_bool e c (fin _)
   .have hx:b=false:=hb
    subst hx;exact IsiPair.list_tuple e c (fin _)
   .have hx:b=true:=hb
    subst hx;exact IsiPair.list_list e c fin0
   .have hx:b=false:=hb
    subst hx;exact IsiPair.list_str e c (fin _)
 |byt _=>exact hx.elim
 |flt _=>exact hx.elim
 |ty _=>exact hx.elim
theorem z1e: ∀{bs:List Bool} {us:List be},J4 (bs.map V.bl) us->LSm.BoolsAre us bs
 |[],_, .nil=> .nil
 |b::bs,_, .cons r t=>by
  cases r
  exact .cons b (z1e t)
def z8n(hc:X.A.handled=none):CallR X (.builtin "all") (λxs H Q=> ∃(p:Addr) (bs:List Bool),xs=[.ref p]/\SqL X.K H p (bs.map V.bl)/\Q (.bl (bs.all id)) H):=by
 intro pins s σ H xs us Q I r h
 obtain⟨p,bs,rfl,hs,q⟩:=h
 obtain⟨u,rfl,ru⟩:=z3b r
 cases ru
 obtain⟨its,rv,pl,_⟩:=I.list hs
 have hb:=z1e rv
 have hl:=pl.isList
 have hlt:p<s.heap.objs.size:=by obtain⟨_,e,_⟩:=hl;exact Heap.lt_size e
 refine call_all_walk (cn hl ?_)
 refine⟨s.heap.objs.size,[s.heap.objs.size,p],[s.heap.objs.size],its.toArray.size,_,_,λi=>(bs[i]?).getD true,rfl,Walks.list (A:=X.A.in1) hc _ p (B1 hlt) its.toArray,
  ⟨⟨_,Heap.get?_push_size _ rfl,rfl,rfl⟩,hl.push _⟩,λi v s' Q' E' hP hQ=> ?_,λh' tk hk=> ?_⟩
 .obtain⟨b,e,rfl⟩:=hb.get i v (by simpa using hP)
  erw[e,B5] at hQ
  exact bR hQ
 .have e:((C4 its.toArray.size).all λi=>(bs[i]?).getD true)=bs.all id:=by
   rw[m4,hb.length];exact LSm.range_all bs
  rw[e]
  exact⟨.bl _,H,I.kept (LSm.kept_iter hk),rfl,q⟩
def z8o(hc:X.A.handled=none):CallR X (.builtin "any") (λxs H Q=> ∃(p:Addr) (bs:List Bool),xs=[.ref p]/\SqL X.K H p (bs.map V.bl)/\Q (.bl (bs.any id)) H):=by
 intro pins s σ H xs us Q I r h
 obtain⟨p,bs,rfl,hs,q⟩:=h
 obtain⟨u,rfl,ru⟩:=z3b r
 cases ru
 obtain⟨its,rv,pl,_⟩:=I.list hs
 have hb:=z1e rv
 have hl:=pl.isList
 have hlt:p<s.heap.objs.size:=by obtain⟨_,e,_⟩:=hl;exact Heap.lt_size e
 refine call_any_walk (cn hl ?_)
 refine⟨s.heap.objs.size,[s.heap.objs.size,p],[s.heap.objs.size],its.toArray.size,_,_,λi=>(bs[i]?).getD false,rfl,Walks.list (A:=X.A.in1) hc _ p (B1 hlt) its.toArray,
  ⟨⟨_,Heap.get?_push_size _ rfl,rfl,rfl⟩,hl.push _⟩,λi v s' Q' E' hP hQ=> ?_,λh' tk hk=> ?_⟩
 .obtain⟨b,e,rfl⟩:=hb.get i v (by simpa using hP)
  erw[e,B5] at hQ
  exact bR hQ
 .have e:((C4 its.toArray.size).any λi=>(bs[i]?).getD false)=bs.any id:=by
   rw[m4,hb.length];exact LSm.range_any bs
  rw[e]
  exact⟨.bl _,H,I.kept (LSm.kept_iter hk),rfl,q⟩
end
end L2
namespace HT
open PySem PyProof.Rows
section
variable{prog:bm}{w:bo}{A:bq}{E:be->bf->Prop}{s:bf}
def getItem_tuple_whole{t sl:Addr}{items:Array be}{vl vu:be}{lo hi:Option Int}{Q:be->bf->Prop}(ht:fP s.heap t items)(hs:s.heap.IsSliceOf sl vl vu .none)(pl:cT vl lo)(pu:cT vu hi)
 (hw:sIx items.size 0 lo=0/\sIx items.size items.size hi=items.size) (h:Q (.ref t) s):bj (bn prog w) A (cC (.ref t) (.ref sl)) Q E s:=by
 obtain⟨os,hos,hcs,hds⟩:=id hs
 have hTs:s.TypeIs (.ref sl) "slice" :=⟨os,hos,hcs⟩
 unfold cC
 try with_reducible refine br ?_
 first|refine bb (bg ?_)|skip
 refine bb (dP ht.typeIs (by decide) ?_)
 refine bb (wpAny_callSpecial?_slot (name:=Str.ofString "__getitem__") ht.typeIs PyProof.Rows.slot_tuple_getitem
  (bx PyProof.Rows.slot_tuple_getitem ht.typeIs dB ?_ (dJ _ _)))
 show bj _ _ (Builtin.Tuple.tupleItemsOf (.ref t)>>=_) _ _ s
 refine bb (tupleItemsOf_ ht ?_)
 refine bb (dQ hTs ?_)
 rw[if_pos (by decide)]
 refine bb (z0E hs pl pu ?_)
 have hyes:((((sIx items.size 0 lo:Nat):Int)==0&&(1:Int)==1&&(sIx items.size items.size hi -sIx items.size 0 lo)==items.size)=true):=by
  rw[hw.1,hw.2]
  simp
 show bj _ _ (if(((sIx items.size 0 lo:Nat):Int)==0&&(1:Int)==1&&(sIx items.size items.size hi -sIx items.size 0 lo)==items.size)=true then _ else _) _ _ s
 rw[if_pos hyes]
 obtain⟨o,ho,hc,n,hd⟩:=id ht
 have ex:Builtin.Tuple.tupleIsExact (.ref t)=(fN (.ref t)>>=λT=>pure (T== .type "tuple")):=rfl
 refine bb (m:=Builtin.Tuple.tupleIsExact (.ref t)) ?_
 rw[ex]
 refine bb (dQ ht.typeIs (bg ?_))
 rw[if_pos (by decide)]
 exact bb (dI (bg ⟨_,rfl,bg h⟩))
end
end HT
namespace L2
open PySem PySem.Spec PyProof.Rows
section
variable{X:Cx}
def z7d{xs:List V}{lo hi:Option Int}(h:HT.sIx xs.length 0 lo=0/\HT.sIx xs.length xs.length hi=xs.length):z85 xs lo hi=xs:=by
 unfold z85
 rw[h.1,h.2]
 simp
noncomputable def zfu(K:W.Frag):V->List V->Hp->VK->Prop:=λx vs H Q=> ∃l b xs zs,x= .ref l/\vs=[.ref b]/\H l=some (.lst xs)/\(SqT K H b zs\/SqL K H b zs)/\xs.length+zs.length<=sizeLine/\Q .non (upd H l (.lst (xs++zs)))
def z8p(l:Addr)(items:Array be)(n:Nat)(b:Addr)(items2:Array be)(n2:Nat)(dd2:Option Addr)(sl2:Array (Option be))(hs0: ¬(!items.isEmpty&&Builtin.List.listTooLong (items.size+items2.size))=true)(hs1:items.size<=sizeLine)(hs2:items.size+items2.size<=sizeLine+1):
 Meets (Builtin.«list.extend» ⟨[.ref l, .ref b],[]⟩) (λ_ R s=>s.heap.get? l=some {cls:= .type "list",dict:=none,data:= .seq items n,slots:= #[]}/\s.heap.get? b=some {cls:= .type "tuple",dict:=dd2,data:= .seq items2 n2,slots:=sl2}/\R (.ok (.ret Value.none)) {s with heap:=s.heap.update l (Obj.mapSeq λx=>x++items2),toks:=s.toks}):=
 .of_wp λprog w A R s h=>by
  obtain⟨hp,g,d,tk,os⟩:=s;obtain⟨hl,hb,h⟩:=h;have f1:=AutoSeq1.idx_int;have f2:=AutoSeq1.sub_tuple_tuple;have f3:=AutoSeq1.sub_list_list;have f4:=AutoSeq1.sub_tuple_list;have f5:=AutoSeq1.sub_list_tuple
  have hz':(items++items2).size<=sizeLine+1:=by rw[Array.size_append];exact hs2
  wp_walk using(wpAny_updateSeq hl rfl (hz:=hs1) (_hz':=hz')),AutoSeq1.wpAny_loadPart' hl,AutoSeq1.wpAny_loadPart' hb;exact⟨_,rfl,h⟩
def z8q(l:Addr)(items:Array be)(n:Nat)(b:Addr)(items2:Array be)(n2:Nat)(dd2:Option Addr)(sl2:Array (Option be))(hs0: ¬(!items.isEmpty&&Builtin.List.listTooLong (items.size+items2.size))=true)(hs1:items.size<=sizeLine)(hs2:items.size+items2.size<=sizeLine+1):
 Meets (Builtin.«list.extend» ⟨[.ref l, .ref b],[]⟩) (λ_ R s=>s.heap.get? l=some {cls:= .type "list",dict:=none,data:= .seq items n,slots:= #[]}/\s.heap.get? b=some {cls:= .type "list",dict:=dd2,data:= .seq items2 n2,slots:=sl2}/\R (.ok (.ret Value.none)) {s with heap:=s.heap.update l (Obj.mapSeq λx=>x++items2),toks:=s.toks}):=
 .of_wp λprog w A R s h=>by
  obtain⟨hp,g,d,tk,os⟩:=s;obtain⟨hl,hb,h⟩:=h;have f1:=AutoSeq1.idx_int;have f2:=AutoSeq1.sub_tuple_tuple;have f3:=AutoSeq1.sub_list_list;have f4:=AutoSeq1.sub_tuple_list;have f5:=AutoSeq1.sub_list_tuple
  have hz':(items++items2).size<=sizeLine+1:=by rw[Array.size_append];exact hs2
  wp_walk using(wpAny_updateSeq hl rfl (hz:=hs1) (_hz':=hz')),AutoSeq1.wpAny_loadPart' hl,AutoSeq1.wpAny_loadPart' hb;exact⟨_,rfl,h⟩
def zd4:MtM X "list.extend" (zfu X.K):=by
 intro pins s σ H x vs v us Q I rx rv h
 obtain⟨l,b,xs,zs,rfl,rfl,hH,hB,hz,q⟩:=h
 cases rx
 obtain⟨u,rfl,ru⟩:=rv.one
 cases ru
 obtain⟨z,its,n,r,hl,e⟩:=I.lstM hH
 have key: ∃its2:List be,J4 zs its2/\((∃dd2 n2 sl2,s.heap.get? b=some {cls:= .type "tuple",dict:=dd2,data:= .seq its2.toArray n2,slots:=sl2})\/(∃dd2 n2 sl2,s.heap.get? b=some {cls:= .type "list",dict:=dd2,data:= .seq its2.toArray n2,slots:=sl2})):=by
  rcases hB with hB|hB
  .obtain⟨its2,r2,⟨⟨cls,dd,data,sl⟩,e2,c,n2,d2⟩,_⟩:=I.tuple hB
   simp only at c d2
   subst c d2
   exact⟨its2,r2, .inl ⟨_,_,_,e2⟩⟩
  .obtain⟨its2,r2,⟨⟨cls,dd,data,sl⟩,n2,e2,c,_,d2⟩,_⟩:=I.list hB
   simp only at c d2
   subst c d2
   exact⟨its2,r2, .inr ⟨_,_,_,e2⟩⟩
 obtain⟨its2,r2,k⟩:=key
 have hl2:=r2.length
 have hsz:its.toArray.size+its2.toArray.size<=sizeLine:=by rw[m4,m4];lia
 have hlong: ¬(!its.toArray.isEmpty&&Builtin.List.listTooLong (its.toArray.size+its2.toArray.size))=true:=by
  rw[z6r hsz,u07]
  exact A9
 have fin:EP X pins σ Q .none {s with heap:=s.heap.update l (Obj.mapSeq λx=>x++its2.toArray),toks:=s.toks}:=by
  refine⟨.non,_,I.lset (its':=its++its2) hH e (by simp) (r.append r2) ?_,rfl,q⟩
  rw[m5]
  lia
 rcases k with⟨dd2,n2,sl2,e2⟩|⟨dd2,n2,sl2,e2⟩
 .exact cr F.slot_list_extend ⟨_,e,rfl⟩ F.entry_list_extend (F.args_list_extend_2 _ _) (z8p l its.toArray n b its2.toArray n2 dd2 sl2 hlong (by rw[m4];lia) (by lia)) ⟨e,e2,fin⟩
 .exact cr F.slot_list_extend ⟨_,e,rfl⟩ F.entry_list_extend (F.args_list_extend_2 _ _) (z8q l its.toArray n b its2.toArray n2 dd2 sl2 hlong (by rw[m4];lia) (by lia)) ⟨e,e2,fin⟩
end
noncomputable def z1r(env:dC):List (Str×ce)->List (Str×Addr)->List (Str×Addr)
 |[],cs=>cs
 |(n,k)::r,cs=>z1r env r (if k== .free then(match env.cells.lookup n with|some a=>(n,a)::cs|none=>cs) else cs)
theorem z6x{env:dC}: ∀(names:List (Str×ce)) (cs:List (Str×Addr)),(∀y∈names,y.2= .free->∃a,env.cells.lookup y.1=some a)->
 (forIn names cs λ(x:Str×ce) (r:List (Str×Addr))=>if(x.2==NameKind.free)=true then cellOf env x.1>>=λa=>pure (ForInStep.yield ((x.1,a)::r)) else pure (ForInStep.yield r))=(pure (z1r env names cs):Sem _)
 |[],cs,_=>rfl
 |(n,k)::r,cs,h=>by
  have ih:=λcs=>z6x (env:=env) r cs λy hy=>h y (i5 _ hy)
  rw[u05]
  show((if(k==NameKind.free)=true then cellOf env n>>=λa=>pure (ForInStep.yield ((n,a)::cs)) else pure (ForInStep.yield cs))>>=_)=pure (z1r env r (if k== .free then(match env.cells.lookup n with|some a=>(n,a)::cs|none=>cs) else cs))
  by_cases hk:(k==NameKind.free)=true
  .obtain⟨a,e⟩:=h (n,k) l5 (by simpa using hk)
   have e:env.cells.lookup n=some a:=e
   rw[if_pos hk,if_pos hk,e]
   have e2:cellOf env n=pure a:=by unfold cellOf;rw[e]
   rw[e2]
   exact ih _
  .rw[if_neg hk,if_neg hk]
   exact ih _
def z3T{env:dC}{scope:Scope}(h: ∀y∈scope.names,y.2= .free->∃a,env.cells.lookup y.1=some a):closureFor scope env=pure (z1r env scope.names []):=by
 have e:=z6x (env:=env) scope.names [] h
 exact congrArg (λ(m:Sem (List (Str×Addr)))=>m>>=λcs=>pure cs) e
theorem z3U: ∀(names:List (Str×ce)) (cs:List (Str×Addr)),(z1r env names cs).lookup x=some c->
 cs.lookup x=some c\/(env.cells.lookup x=some c/\(x,NameKind.free)∈names)
 |[],cs,h=> .inl h
 |(n,k)::r,cs,h=>by
  rcases z3U r _ h with q|⟨q,m⟩
  .by_cases hk:(k==NameKind.free)=true
   .rw[if_pos hk] at q
    cases e:env.cells.lookup n with
    |none=>rw[e] at q;exact .inl q
    |some a=>
     rw[e] at q
     have q:((n,a)::cs).lookup x=some c:=q
     rw[B8] at q
     by_cases hx:(x==n)=true
     .rw[hx] at q
      have q:some a=some c:=q
      cases q
      have hx:x=n:=eq_of_beq hx
      subst hx
      have hk:k= .free:=eq_of_beq hk
      subst hk
      exact .inr ⟨e,l5⟩
     .have hx:(x==n)=false:=by simpa using hx
      rw[hx] at q
      exact .inl q
   .rw[if_neg hk] at q
    exact .inl q
  .exact .inr ⟨q,i5 _ m⟩
theorem z2q{env:dC}: ∀(names:List (Str×ce)) (cs:List (Str×Addr)),(((∃c,cs.lookup x=some c))\/((x,NameKind.free)∈names/\∃c,env.cells.lookup x=some c))->
 ∃c,(z1r env names cs).lookup x=some c
 |[],cs,h=>by
  rcases h with h|⟨m,_⟩
  .exact h
  .cases m
 |(n,k)::r,cs,h=>by
  refine z2q r _ ?_
  rcases h with⟨c,hc⟩|⟨m,c,hc⟩
  .left
   by_cases hk:(k==NameKind.free)=true
   .rw[if_pos hk]
    cases e:env.cells.lookup n with
    |none=>exact⟨c,hc⟩
    |some a=>
     by_cases hx:(x==n)=true
     .exact⟨a,by show((n,a)::cs).lookup x=some a;rw[B8,hx]⟩
     .have hx:(x==n)=false:=by simpa using hx
      exact⟨c,by show((n,a)::cs).lookup x=some c;rw[B8,hx];exact hc⟩
   .rw[if_neg hk]
    exact⟨c,hc⟩
  .rcases l7.mp m with e|m
   .left
    cases e
    rw[if_pos (by decide),hc]
    exact⟨c,by show((x,c)::cs).lookup x=some c;rw[B8,beq_self_eq_true]⟩
   .exact .inr ⟨m,c,hc⟩
theorem k9{env:dC}: ∀{names:List (Str×ce)} {x:Str},names.lookup x=some .free->
 (names.map λ(n,k)=>if(k==NameKind.free&&env.scope.kind== .function&&env.kindOf n==some .cell) then(n,NameKind.cell) else(n,k)).lookup x=some .cell\/
 (names.map λ(n,k)=>if(k==NameKind.free&&env.scope.kind== .function&&env.kindOf n==some .cell) then(n,NameKind.cell) else(n,k)).lookup x=some .free
 |[],_,h=>by simp at h
 |(n,k)::r,x,h=>by
  have ih:= @k9 env r x
  rw[i6]
  show S8 x ((if(k==NameKind.free&&env.scope.kind== .function&&env.kindOf n==some .cell)=true then(n,NameKind.cell) else(n,k))::_)=_\/S8 x ((if(k==NameKind.free&&env.scope.kind== .function&&env.kindOf n==some .cell)=true then(n,NameKind.cell) else(n,k))::_)=_
  cases hx:x==n with
  |true=>
   erw[B8,hx] at h
   cases h
   by_cases hc:(NameKind.free==NameKind.free&&env.scope.kind== .function&&env.kindOf n==some .cell)=true
   .rw[if_pos hc];left;erw[B8,hx]
   .rw[if_neg hc];right;erw[B8,hx]
  |false=>
   erw[B8,hx] at h
   by_cases hc:(k==NameKind.free&&env.scope.kind== .function&&env.kindOf n==some .cell)=true
   .rw[if_pos hc];erw[B8,hx];exact ih h
   .rw[if_neg hc];erw[B8,hx];exact ih h
theorem z0d{env:dC}: ∀{names:List (Str×ce)} {x:Str},((names.map λ(n,k)=>if(k==NameKind.free&&env.scope.kind== .function&&env.kindOf n==some .cell) then(n,NameKind.cell) else(n,k)).lookup x=some .cell\/
 (names.map λ(n,k)=>if(k==NameKind.free&&env.scope.kind== .function&&env.kindOf n==some .cell) then(n,NameKind.cell) else(n,k)).lookup x=some .free)->names.lookup x=some .free\/names.lookup x=some .cell
 |[],_,h=>by simp at h
 |(n,k)::r,x,h=>by
  have ih:= @z0d env r x
  rw[i6] at h
  have h:S8 x ((if(k==NameKind.free&&env.scope.kind== .function&&env.kindOf n==some .cell)=true then(n,NameKind.cell) else(n,k))::_)=_\/S8 x ((if(k==NameKind.free&&env.scope.kind== .function&&env.kindOf n==some .cell)=true then(n,NameKind.cell) else(n,k))::_)=_:=h
  cases hx:x==n with
  |true=>
   erw[B8,hx]
   by_cases hc:(k==NameKind.free&&env.scope.kind== .function&&env.kindOf n==some .cell)=true
   .have:k= .free:=by
     erw[A7,beq_iff_eq] at hc
     exact hc.1.1
    subst this
    exact .inl rfl
   .rw[if_neg hc] at h
    erw[B8,hx] at h
    exact h.symm
  |false=>
   erw[B8,hx]
   refine ih ?_
   by_cases hc:(k==NameKind.free&&env.scope.kind== .function&&env.kindOf n==some .cell)=true
   .rw[if_pos hc] at h;erw[B8,hx] at h;exact h
   .rw[if_neg hc] at h;erw[B8,hx] at h;exact h
structure U2(osc sc:Scope)(own frees N:List Str)(ix:List Nat):Prop where
 kind:sc.kind= .function
 nocell: ∀y∈sc.names,y.2≠ .cell
 names: ∀y∈sc.names,y.2= .local->sc.names.lookup y.1=some .local
 fr: ∀y∈sc.names,y.2= .free->osc.names.lookup y.1=some .cell\/osc.names.lookup y.1=some .free
 nd:(own++frees).Nodup
 frl: ∀x∈frees,sc.names.lookup x=some .free
 ixs:ix.map (λi=>N[i]?)=frees.map some
noncomputable def J5(X:Cx)(scope:Scope)(own frees:List Str)(cl:List (Str×Addr))(C:Addr)(s₀:bf)(H₀:Hp)(fp:List Addr)(pn:List (Addr×bK)):Cx:=
 {X with N:=own++frees,s₀:=s₀,H₀:=H₀,env:=compEnvC scope cl C X.env,outer:=X.stack,stack:=X.stack,ex:=fp,fn:=λ_=>false,pn:=pn,xe:=λ_ _=>False}
noncomputable def z1s(k:Nat)(ix:List Nat)(σ:St):St:=m9 k none++ix.map λi=>(σ[i]?).getD none
section
variable{X:Cx}{tg iter elt:bi}{pos:bG}{scope:Scope}{own frees:List Str}{ix:List Nat}{wi:TI}{g:TG}{te:TE}
def z7e(k:Nat)(ix:List Nat)(σ:St):(z1s k ix σ).length=k+ix.length:=by
 unfold z1s
 simp
def z7f{s s1:bf}(S:U2 X.env.scope scope own frees X.N ix)(I:Inv X pins σ H s)(hf: ∀b∈fp,z7K X pins H b)(hb: ∀b∈fp,b<s.heap.objs.size)
 (ho:s1.os=s.os) (hg:s1.gens=s.gens) (hk: ∀b o,s.heap.get? b=some o->s1.heap.get? b=some o) (hn:s1.heap.Ns s.heap.objs.size (λ_=>none)):
 Inv (J5 X scope own frees (z1r X.env scope.names []) s.heap.objs.size s H fp (X.pn++pins)) [] (z1s own.length ix σ) H s1:=by
 have clos: ∀x c,(z1r X.env scope.names []).lookup x=some c->X.env.cells.lookup x=some c/\(x,NameKind.free)∈scope.names:=λx c h=>by
  rcases z3U _ _ h with q|q
  .exact nomatch q
  .exact q
 have hlen:ix.length=frees.length:=by
  have:=congrArg L9 S.ixs
  simpa using this
 have cne: ∀x c,X.env.cells.lookup x=some c->c<s.heap.objs.size:=λx c e=>by
  obtain⟨v,o,q,_⟩:=I.cell x c e
  exact Heap.lt_size q
 refine⟨⟨I.ok.mod,S.kind,I.ok.glob,I.ok.blt,i7 _,λx y c h1 h2=>I.ok.inj x y c (clos x c h1).1 (clos y c h2).1,λx hx=> ?_,λx c z=>u01 z,I.ok.hd,I.ok.frames, .inl rfl,λb z=>⟨B1 (hb b z),λx c e=>(hf b z).2.2.2.2.1 x c (clos x c e).1⟩,I.bs,
  C1 I.ok.bsz I.sz,λb o e z=> ?_,λb z=> ?_,I.stack,I.stkFree⟩,ho, ?_,Un.kept hk,⟨_,hn,λi x v h1 h2 h3=> ?_⟩,λx c e=> ?_,I.fresh,λx c e=>I.freeC x c (clos x c e).1,λp hp=> ?_,I.hok.kept hk, ?_⟩
 .have hx:(relabel scope X.env).names.lookup x=some .cell\/(relabel scope X.env).names.lookup x=some .free:=hx
  rcases z0d hx with q|q
  .have m:(x,NameKind.free)∈scope.names:=PySem.mem_of_lookup q
   obtain⟨c,hc⟩:=I.ok.has x (S.fr _ m rfl)
   exact z2q _ _ (.inr ⟨m,c,hc⟩)
  .exact absurd rfl (S.nocell _ (PySem.mem_of_lookup q))
 .rcases(hf b z).2.2.2.1 with q|q
  .exact I.ok.noex b o e q
  .exact absurd (Heap.lt_size (I.ok.bs b o e).1) (O7.mpr q)
 .intro q
  rcases l7.mp (I.stkSub b q) with r|r
  .exact(hf b z).2.1 r
  .exact(hf b z).2.2.1 r
 .rw[hg];exact I.bare
 .have h2:(z1s own.length ix σ)[i]? =some (some v):=h2
  have h1:(own++frees)[i]? =some x:=h1
  unfold z1s at h2
  by_cases hi:i<own.length
  .rw[List.getElem?_append_left (by simpa using hi),List.getElem?_replicate] at h2
   rw[if_pos hi] at h2
   cases h2
  .have hi:own.length<=i:=O7.mp hi
   rw[List.getElem?_append_right (by simpa using hi),S6,List.getElem?_map] at h2
   rw[List.getElem?_append_right hi] at h1
   cases e:ix[i -own.length]? with
   |none=>rw[e] at h2;cases h2
   |some j=>
    rw[e] at h2
    have h2:some ((σ[j]?).getD none)=some (some v):=h2
    have hσ:σ[j]? =some (some v):=by
     cases q:σ[j]? with
     |none=>rw[q] at h2;cases h2
     |some z=>rw[q] at h2;exact h2
    have hN:X.N[j]? =some x:=by
     have:=congrArg (λl:List (Option Str)=>l[i -own.length]?) S.ixs
     erw[List.getElem?_map,e,h1,l6] at this
     exact Option.some.inj this
    have mf:x∈frees:=List.mem_of_getElem? h1
    have lf:=S.frl x mf
    have m:(x,NameKind.free)∈scope.names:=PySem.mem_of_lookup lf
    have hos:=S.fr _ m rfl
    obtain⟨mm,hns,hl⟩:=I.loc
    obtain⟨u,ru,look⟩:=hl j x v hN hσ (hos.elim (λq=> .inr (.inl q)) λq=> .inr (.inr q))
    refine⟨u,ru, ?_⟩
    rcases look with⟨kk,_⟩|⟨kk,c,hc,ic⟩
    .have kk:X.env.scope.names.lookup x=some .local:=kk
     have hos:X.env.scope.names.lookup x=some .cell\/X.env.scope.names.lookup x=some .free:=hos
     rw[kk] at hos
     rcases hos with q|q<;>cases q
    .obtain⟨c',hc'⟩:=z2q (env:=X.env) scope.names [] (.inr ⟨m,c,hc⟩)
     have e2:=(clos x c' hc').1
     rw[hc] at e2
     cases e2
     refine .inr ⟨k9 lf,c,hc', ?_⟩
     obtain⟨o,q1,q2⟩:=ic
     exact⟨o,hk _ _ q1,q2⟩
 .obtain⟨v,o,q1,q2⟩:=I.cell x c (clos x c e).1
  exact⟨v,o,hk _ _ q1,q2⟩
 .have hp:p∈(X.pn++pins)++[]:=hp
  rw[l0] at hp
  obtain⟨e,n,ne,nf,d⟩:=I.pin p hp
  refine⟨hk _ _ e,n,B1 (Heap.lt_size e),λq=> ?_,d⟩
  rcases l7.mp (I.stkSub p.1 q) with r|r
  .exact ne r
  .exact nf r
 .show(z1s own.length ix σ).length=(own++frees).length
  rw[z7e,hlen,m5]
def zaw{pins pins':List (Addr×bK)}{σ σ':St}{H H':Hp}{s s':bf}{h':Heap}{cl:List (Str×Addr)}(I:Inv X pins σ H s)(hf: ∀b∈fp,z7K X pins H b)(hC:s.heap.objs.size<=C)
 (J:Inv (J5 X scope own frees cl C s H fp (X.pn++pins)) pins' σ' H' s') (hs:Heap.SameBut C s'.heap h'):Inv X pins σ H' {s' with heap:=h'}:=by
 have nC: ∀b,b<s.heap.objs.size->b≠C:=λb q e=>by subst e;exact absurd q (O7.mpr hC)
 refine I.call' (ch:=fp) J.os ⟨λb o e n hb hx=> ?_,λb o e n hb hx=> ?_,J.base.free,λb o e hx=> ?_,J.base.tups,J.base.frzs,J.base.tbls⟩ ?_ J.bare λb z=>⟨(hf b z).2.2.2.1,(hf b z).2.1,(hf b z).2.2.2.2.1,(hf b z).2.2.2.2.2⟩
 .exact(hs.2 b (nC b (Heap.lt_size e))).trans (J.base.keep b o e n hb hx)
 .obtain⟨sl,q⟩:=J.base.slot b o e n hb hx
  exact⟨sl,(hs.2 b (nC b (Heap.lt_size e))).trans q⟩
 .obtain⟨o',q⟩:=J.base.there b o e hx
  exact⟨o',(hs.2 b (nC b (Heap.lt_size e))).trans q⟩
 .intro a o e
  refine(J.hok a o e).stay (λb u hbu q=> ?_) (λ_ q=>q) λ_ _ q=>q
  refine(hs.2 b ?_).trans q
  intro eb
  subst eb
  have hfree:H' b=none:=J.free
  rcases hbu with rfl|z
  .rw[e] at hfree;cases hfree
  .rw[z] at hfree;cases hfree
end
end L2
namespace PySem
section
variable{prog:bm}{w:bo}{A:bq}{E:be->bf->Prop}{s:bf}
def z2r{o:bK}{ep:Nat}{Q:be->bf->Prop}(hd:(d==bD)=false)(ho:s.heap.get? d=some o)(hc:o.ExactDict)(hdat:o.data= .dict es ep)
 (hQ:Q (.ref s.heap.objs.size) {s with heap:=s.heap.push {cls:= .type "dict_keyiterator",data:= .fields #[.ref d, .int 0 0, .int es.size 0, .int ep 0]}}):
 bj (bn prog w) A (fM (.ref d)) Q E s:=by
 have hT:s.TypeIs (.ref d) "dict" :=⟨o,ho,hc.1⟩
 refine dW hT F.slot_dict_iter (bx F.slot_dict_iter hT F.entry_dict_iter ?_ (F.args_dict_iter_1 _))
 unfold Builtin.«dict.__iter__»
 refine bb ?_
 unfold Builtin.Dict.dictSlotNone
 refine bb (de hT ?_)
 show bj _ _ (pure (Value.ref d)) _ _ s
 refine bg ?_
 show bj _ _ (Builtin.Dict.showsAll d>>=_) _ _ s
 unfold Builtin.Dict.showsAll
 rw[if_neg (by rw[hd];exact A9)]
 refine bb (bg ?_)
 refine bb (bT ho hdat ?_)
 refine bb (cb ho hdat ?_)
 refine bb (bt (bg ⟨_,rfl, "dict_keyiterator",_,⟨_,Heap.get?_push_size _ rfl,rfl⟩,F.slot_dict_keyiterator_next.lookup, ?_⟩))
 simpa[dh] using hQ
def z2s{i ep:Nat}{od:bK}{es:Array bV}{en:bV}{Q:Option be->bf->Prop}(hit:s.heap.IsKeyIter it d i es.size ep)
 (hod:s.heap.get? d=some od) (hdd:od.data= .dict es ep) (hx:es[i]? =some en)
 (hQ: ∀h',h'.IsKeyIter it d (i+1) es.size ep->Heap.SameBut it s.heap h'->Q (some en.key) {s with heap:=h'}):
 bj (bn prog w) A (cF (.ref it)) Q E s:=by
 obtain⟨o,ho,hc,hd⟩:=id hit
 unfold cF
 refine bb (cx (wpAny_callSpecial?_slot (name:=Str.ofString "__next__") hit.typeIs F.slot_dict_keyiterator_next
  (bx F.slot_dict_keyiterator_next hit.typeIs F.entry_dict_keyiterator_next ?_ (F.args_dict_keyiterator_next_1 _))))
 refine bb (bg ?_)
 refine bb ?_
 refine bb ?_
 first|refine bb (bJ hit.typeIs (bg ?_))|refine bb (bU hit.typeIs (bg ?_))
 refine bb (cc ho hd ?_)
 have hown:Builtin.Dict_items.ownsTuple "dict_keyiterator" =false:=by decide
 erw[hown,A4,if_false]
 show bj _ _ (if(Value.ref d==Value.none)=true then _ else _) _ _ s
 rw[if_neg (show ¬((Value.ref d==Value.none)=true) from A9)]
 refine bb (bg ?_)
 refine bb (bT hod hdd ?_)
 rw[if_neg (by simp)]
 refine bb (bg ?_)
 refine bb (cb hod hdd ?_)
 rw[if_neg (by simp)]
 refine bg ?_
 have hlt':i<es.size:=by
  rcases R6 i es.size with h|h
  .exact h
  .simp[Array.getElem?_eq_none h] at hx
 have hkey:es[i]=en:=by
  rw[Array.getElem?_eq_getElem hlt'] at hx
  exact Option.some.inj hx
 erw[show ¬((i:Int)<0) from by lia,if_false,L0,Array.getElem?_eq_getElem hlt']
 refine bb ?_
 first|refine bb (bJ hit.typeIs (bg ?_))|refine bb (bU hit.typeIs (bg ?_))
 refine bb (df hit.typeIs ?_)
 show bj _ _ (fE (.ref it) 1 (dh ((i:Int)+1))>>=_) _ _ s
 refine bb (dv ho hd (by simp) ?_)
 have hit':(s.heap.update it (Obj.mapFields (·.setIfInBounds 1 (dh ((i:Int)+1))))).IsKeyIter it d (i+1) es.size ep:=
  ⟨_,Heap.get?_update_self _ ho (Obj.isFreed_of_fields (Obj.data_mapFields hd _)),(Obj.cls_mapFields ..).trans hc,by rw[Obj.data_mapFields hd];simp[dh]⟩
 refine bb (br ?_)
 refine bb (df (s:={s with heap:=s.heap.update it (Obj.mapFields (·.setIfInBounds 1 (dh ((i:Int)+1))))}) hit'.typeIs ?_)
 show bj _ _ (pure es[i].key) _ _ _
 rw[hkey]
 exact bg (bg ⟨_,rfl,bg (hQ _ hit' (Heap.SameBut.update ..))⟩)
def z3d{i ep:Nat}{od:bK}{es:Array bV}{Q:Option be->bf->Prop}(hh:A.handled=none)(hit:s.heap.IsKeyIter it d i es.size ep)
 (hod:s.heap.get? d=some od) (hdd:od.data= .dict es ep) (hge:es.size<=i)
 (hQ: ∀h',Heap.ExtBut it s.heap h'->Q none {s with heap:=h'}):bj (bn prog w) A (cF (.ref it)) Q E s:=by
 obtain⟨o,ho,hc,hd⟩:=id hit
 unfold cF
 refine bb (cx (wpAny_callSpecial?_slot (name:=Str.ofString "__next__") hit.typeIs F.slot_dict_keyiterator_next
  (bx F.slot_dict_keyiterator_next hit.typeIs F.entry_dict_keyiterator_next ?_ (F.args_dict_keyiterator_next_1 _))))
 refine bb (bg ?_)
 refine bb ?_
 refine bb ?_
 first|refine bb (bJ hit.typeIs (bg ?_))|refine bb (bU hit.typeIs (bg ?_))
 refine bb (cc ho hd ?_)
 have hown:Builtin.Dict_items.ownsTuple "dict_keyiterator" =false:=by decide
 erw[hown,A4,if_false]
 show bj _ _ (if(Value.ref d==Value.none)=true then _ else _) _ _ s
 rw[if_neg (show ¬((Value.ref d==Value.none)=true) from A9)]
 refine bb (bg ?_)
 refine bb (bT hod hdd ?_)
 rw[if_neg (by simp)]
 refine bb (bg ?_)
 refine bb (cb hod hdd ?_)
 rw[if_neg (by simp)]
 refine bg ?_
 erw[show ¬((i:Int)<0) from by lia,if_false,L0,Array.getElem?_eq_none hge]
 refine bb ?_
 first|refine bb (bJ hit.typeIs (bg ?_))|refine bb (bU hit.typeIs (bg ?_))
 show bj _ _ (fE (.ref it) 0 .none>>=_) _ _ s
 refine bb (dv ho hd (by simp) ?_)
 show bj _ _ (newExc (.type "StopIteration") []>>=_) _ _ _
 refine bb ?_
 erw[newExc,newTuple]
 refine bb (bt ?_ (by size_fits))
 refine bb (m:=cH _ _) (wpAny_of_eq (a:=Value.none) (by first|rfl|(erw[cH];rfl)) ?_)
 refine bt ?_ (by size_fits)
 erw[raiseNew]
 refine bb (wpAny_handled ?_)
 rw[show A.in1.handled=none from hh]
 refine bb (bg (wpAny_throw ?_))
 refine bb (cM (T:= "StopIteration") (b:=true) ⟨_,Heap.get?_push_size _ rfl,rfl⟩ isSubtype_stop ?_)
 exact bg (hQ _ (((Heap.SameBut.update ..).extBut.push _).push _))
end
end PySem
namespace L2
open PySem PySem.Spec PyProof.Rows
noncomputable def ItD(a:Addr)(o:bK)(kvs:List (NK×V)):It:=
 ⟨λi H=>i<kvs.length/\H a=some (.frz o (.dT kvs)),λi H x H'=>H'=H/\∃b k v,x= .ref b/\kvs[i]? =some (k,v)/\TK H k b,λi H=>kvs.length<=i/\H a=some (.frz o (.dT kvs))⟩
def zbK(ok:HOk P w H h)(e:H a=some (.frz o (.dT kvs))):
 h.get? a=some o/\(a==bD)=false/\o.ExactDict/\∃es ep,o.data= .dict es ep/\es.size=kvs.length/\
  ∀(i:Nat) (k:NK) (v:V),kvs[i]? =some (k,v)->∃en b,es[i]? =some en/\en.key= .ref b/\TK H k b:=by
 obtain⟨ho,z,y,xs,r,o',es,ep,e',c,d,l,nd⟩:=ok a _ e
 rw[ho] at e'
 cases e'
 have hl:kvs.length=xs.length:=Paired.length r
 have hs:es.size=xs.length:=cY l
 refine⟨ho,y,c,es,ep,d,by lia,λi k v q=> ?_⟩
 have key: ∀{kvs:List (NK×V)} {xs:List (NK×Addr×be)},bL (λ(p:NK×V) (q:NK×Addr×be)=>p.1=q.1/\TK H p.1 q.2.1/\RelV p.2 q.2.2) kvs xs->
  ∀(i:Nat),kvs[i]? =some (k,v)->∃b u,xs[i]? =some (k,b,u)/\TK H k b:=by
  intro kvs xs r
  induction r with
  |nil=>intro i q;simp at q
  | @cons p x l1 l2 h1 h2 ih=>
   intro i q
   cases i with
   |zero=>
    erw[List.getElem?_cons_zero,Option.some.injEq] at q
    subst q
    obtain⟨e1,e2,_⟩:=h1
    obtain⟨x1,x2,x3⟩:=x
    have e1:k=x1:=e1
    subst e1
    exact⟨x2,x3,rfl,e2⟩
   |succ j=>
    erw[List.getElem?_cons_succ] at q
    obtain⟨b,u,q1,q2⟩:=ih j q
    exact⟨b,u,by simpa using q1,q2⟩
 obtain⟨b,u,q1,q2⟩:=key r i q
 have hi:=entry_at l i
 rw[q1] at hi
 exact⟨_,b,hi,rfl,q2⟩
def z8r{P:bm}{w:bo}{K:W.Frag}{tg:bi}(a it:Addr)(o:bK)(es:Array bV)(ep:Nat)(hd:o.data= .dict es ep)(kvs:List (NK×V)):
 zee P w K tg (ItD a o kvs) [it] it (λi h=>h.IsKeyIter it a i es.size ep) where
 mem:=by simp
 obj:=λi h st b hb=>by
  have e:b=it:=by simpa using hb
  subst e
  obtain⟨o,e,c,d⟩:=st
  exact⟨o,e,λv z=>by rw[d] at z;cases z⟩
 keep:=λi h h' st k=>st.at λo e=>k it (by simp) o e
 item:=by
  intro X hP hw hK hc i pins s σ H E I hf st hg
  subst hP hw hK
  obtain⟨hi,hq⟩:=hg
  obtain⟨ho,_,_,es',ep',hd',hsz,hat⟩:=zbK I.hok hq
  rw[hd] at hd'
  cases hd'
  obtain⟨f0,f1,f2,f3,f4,f5⟩:=hf it (by simp)
  obtain⟨⟨k,v⟩,hk⟩: ∃p,kvs[i]? =some p:=⟨kvs[i],by simp[hi]⟩
  obtain⟨en,b,he,hb,hB⟩:=hat i k v hk
  refine z2s st ho hd he λh' st' sb=> ?_
  have I1:Inv X pins σ H {s with heap:=h'}:=I.turned (t':=s.toks) (λb o hb e=>(sb.2 b hb).trans e) f0 f1 f3 f4 f5
  obtain⟨o2,e2,c2,d2⟩:=id st'
  exact⟨_,rfl,zae (s:={s with heap:=h'}) e2 c2 d2 (by decide) ⟨.ref b,H,I1,hb,⟨rfl,b,k,v,rfl,hk,hB⟩,st',λb hb=>(hf b hb).1⟩⟩
 done:=by
  intro X hP hw hK hc i pins s σ H E I hf st hg
  subst hP hw hK
  obtain⟨hi,hq⟩:=hg
  obtain⟨ho,_,_,es',ep',hd',hsz,hat⟩:=zbK I.hok hq
  rw[hd] at hd'
  cases hd'
  obtain⟨f0,f1,f2,f3,f4,f5⟩:=hf it (by simp)
  exact z3d (I.ok.hd hc) st ho hd (by lia) λh' eb=>⟨rfl,I.turned (t':=s.toks) (λb o hb e=>eb b o hb e) f0 f1 f3 f4 f5⟩
 self:=λ_ _ _ _ _ st h=>wpAny_pyIter_keyiter st h
section
variable{X:Cx}{tg:bi}
def Inv.freeze(I:Inv X pins σ H s)(h:H a=some (.dT kvs)):
 ∃o es ep,s.heap.get? a=some o/\o.ExactDict/\o.data= .dict es ep/\(a==bD)=false/\es.size=kvs.length/\Inv X pins σ (upd H a (.frz o (.dT kvs))) s:=by
 obtain⟨z,y,xs,r,o,es,ep,e,c,d,l,nd⟩:=I.hok a _ h
 have hs:es.size=xs.length:=cY l
 have hl:kvs.length=xs.length:=Paired.length r
 refine⟨o,es,ep,e,c,d,y,by lia, ?_⟩
 have tn: ∀b xs,H b=some (.tup xs)->(upd H a (.frz o (.dT kvs))) b=some (.tup xs):=λb xs q=>by
  rw[y9 (z07 q h (by intro z;cases z))];exact q
 have hw:=I.write (x:=a) (e:=a) (o:= .frz o (.dT kvs)) (h':=s.heap) (t':=s.toks) (by rw[h];trivial) (.inl rfl) (λb u _ q=>q) ⟨o,e⟩
  ⟨e,z,y,xs,Paired.mapP r λp q z=>⟨z.1,z.2.1.stay tn,z.2.2⟩,o,es,ep,e,c,d,l,nd⟩
 exact hw
noncomputable def zfv(td:TE):TI:=λ σ H R=>td σ H λx H1=> ∃a kvs,x= .ref a/\H1 a=some (.dT kvs)/\∀o,R (ItD a o kvs) (upd H1 a (.frz o (.dT kvs)))
def z8s(hl:PE X l tl):PI X tg l (zfv tl):=by
 intro pins s σ H R I h
 refine thn (hl pins s σ H _ I h) λv s1 ⟨x,H1,I1,r1,a,kvs,e,ha,q⟩=> ?_
 subst e
 cases r1
 obtain⟨o,es,ep,ho,hc,hd,hy,hsz,I2⟩:=I1.freeze ha
 refine z2r hy ho hc hd ?_
 have I3:Inv X pins σ (upd H1 a (.frz o (.dT kvs))) {s1 with heap:=s1.heap.push {cls:= .type "dict_keyiterator",data:= .fields #[.ref a, .int 0 0, .int es.size 0, .int ep 0]}}:=
  I2.kept (t':=s1.toks) λb u q=>Heap.get?_push_of_some _ q
 refine⟨s1.heap.objs.size,[s1.heap.objs.size],_,ItD a o kvs,_,rfl,I3,z8r a _ o es ep hd kvs,⟨_,Heap.get?_push_size _ rfl,rfl,rfl⟩,λb hb=> ?_,q o⟩
 have e:b=s1.heap.objs.size:=by simpa using hb
 subst e
 exact I2.fpOk (i7 _) I2.fresh
end
noncomputable def z0F(osc sc:Scope)(own frees N:List Str)(ix:List Nat):Bool:=
 decide (sc.kind= .function)&&sc.names.all (λy=>decide (y.2≠ .cell))&&sc.names.all (λy=>decide (y.2= .local->sc.names.lookup y.1=some .local))&&
  sc.names.all (λy=>decide (y.2= .free->osc.names.lookup y.1=some .cell\/osc.names.lookup y.1=some .free))&&decide (own++frees).Nodup&&frees.all (λx=>decide (sc.names.lookup x=some .free))&&
  decide (ix.map (λi=>N[i]?)=frees.map some)
def z0F.sc{osc sc:Scope}{own frees N:List Str}{ix:List Nat}(h:z0F osc sc own frees N ix=true):U2 osc sc own frees N ix:=by
 unfold z0F at h
 erw[A7,M8,decide_eq_true_eq] at h
 obtain⟨⟨⟨⟨⟨⟨h1,h2⟩,h3⟩,h4⟩,h5⟩,h6⟩,h7⟩:=h
 exact⟨h1,h2,h3,h4,h5,h6,h7⟩
def z39.new(o:HO)(h:H p=none):z39 H (upd H p o):=λx u e=>by rw[y9 (G3 e h)];exact e
theorem z16: ∀ns:List Int,PyData.canLayAll0 (ns.map PyData.int)=true
 |[]=>by erw[A2,PyData.canLayAll0]
 |n::ns=>by erw[i6,PyData.canLayAll0,PyData.canLay0,z16 ns,u08]
theorem z1t: ∀ns:List Int,PyData.depthAll (ns.map PyData.int)<=1
 |[]=>by simp[PyData.depthAll]
 |n::ns=>by
  have:=z1t ns
  erw[i6,PyData.depthAll,PyData.depth]
  lia
theorem z2t: ∀ns ms:List Int,PyData.eqvAll (ns.map PyData.int) (ms.map PyData.int)=decide (ns=ms)
 |[],[]=>by erw[A2,PyData.eqvAll,decide_true]
 |[],m::ms=>by simp[PyData.eqvAll]
 |n::ns,[]=>by simp[PyData.eqvAll]
 |n::ns,m::ms=>by
  erw[i6,PyData.eqvAll,PyData.eqv,z2t ns ms]
  by_cases h:n=m
  .subst h;by_cases h2:ns=ms<;>simp[h2]
  .simp[h]
noncomputable def dT(ns:List Int):PyData:= .tuple (ns.map PyData.int)
def zfw(ns:List Int):(dT ns).canLay0=true:=by erw[dT,PyData.canLay0,z16]
def zbL(ns:List Int):(dT ns).depth<=2:=by
 have:=z1t ns
 erw[dT,PyData.depth];lia
def z8t(ns ms:List Int):PyData.eqv (dT ns) (dT ms)=decide (ns=ms):=by erw[dT,PyData.eqv,z2t]
def map_take{α β:Type}(f:α->β)(xs:List α)(k:Nat):(xs.map f).take k=(xs.take k).map f:=by rw[P3]
def map_drop{α β:Type}(f:α->β)(xs:List α)(k:Nat):(xs.map f).drop k=(xs.drop k).map f:=by rw[u09]
theorem Paired.get{α β:Type}{F:α->β->Prop}: ∀{l₁:List α} {l₂:List β},bL F l₁ l₂->∀(i:Nat) (a:α),l₁[i]? =some a->∃b,l₂[i]? =some b/\F a b
 |_,_, .nil,i,a,e=>by simp at e
 |_,_, .cons r t,0,a,e=>by simp at e;subst e;exact⟨_,rfl,r⟩
 |_,_, .cons r t,i+1,a,e=>by
  obtain⟨b,h1,h2⟩:=Paired.get t i a (by simpa using e)
  exact⟨b,by simpa using h1,h2⟩
theorem Paired.snoc{α β:Type}{F:α->β->Prop}: ∀{l₁:List α} {l₂:List β} {a:α} {b:β},bL F l₁ l₂->F a b->bL F (l₁++[a]) (l₂++[b])
 |_,_,_,_, .nil,h=> .cons h .nil
 |_,_,_,_, .cons r t,h=> .cons r (Paired.snoc t h)
noncomputable def zax(K:W.Frag)(H:Hp)(xs:List V)(Q:VK):Prop:= ∀p H',(H'=H/\H p=some (.tup xs))\/(H p=none/\H'=upd H p (.tup xs))->Q (.ref p) H'
def zax.intro{K:W.Frag}{H:Hp}{xs:List V}{Q:VK}(h: ∀p H',H' p=some (.tup xs)->z39 H H'->Q (.ref p) H'):zax K H xs Q:=by
 intro p H' e
 rcases e with⟨rfl,s⟩|⟨n,rfl⟩
 .exact h p H' s (z39.refl _)
 .exact h p _ y8 (z39.new _ n)
section
variable{X:Cx}
noncomputable def zia(K:W.Frag):V->Option Int->Option Int->Hp->VK->Prop:=λx lo hi H Q=> ∃a xs,x= .ref a/\H a=some (.tup xs)/\zax K H (z85 xs lo hi) Q
def zd5:SlR X (zia X.K):=by
 intro pins s σ H x v vl vu lo hi sl Q I rx hs pl pu h
 obtain⟨a,xs,rfl,hx0,q⟩:=h
 have hx:SqT X.K H a xs:=SqT.of hx0
 by_cases hw:HT.sIx xs.length 0 lo=0/\HT.sIx xs.length xs.length hi=xs.length
 .cases rx
  obtain⟨its,r,ht,hz⟩:=I.tuple hx
  have hlen:its.toArray.size=xs.length:=by rw[m4];exact r.length.symm
  refine⟨"tuple",_,PyProof.Rows.slot_tuple_getitem.lookup,ht.typeIs, ?_⟩
  refine HT.getItem_tuple_whole ht hs pl pu (by rw[hlen];exact hw) ⟨.ref a,H,I,rfl,q a H (.inl ⟨rfl, ?_⟩)⟩
  rw[z7d hw]
  exact hx0
 .exact zeV pins s σ H _ v vl vu lo hi sl Q I rx hs pl pu ⟨a,xs,rfl,hx,hw,λp hp=>q p _ (.inr ⟨hp,rfl⟩)⟩
noncomputable def zd6(K:W.Frag):R2:=λx y H Q=> ∃a b xs ys,x= .ref a/\y= .ref b/\H a=some (.tup xs)/\H b=some (.tup ys)/\xs.length+ys.length<=sizeLine/\zax K H (xs++ys) Q
def zd7:OpR X (bW .Add) (zd6 X.K):=by
 intro pins s σ H x y v u Q I rx ry h
 obtain⟨a,b,xs,ys,rfl,rfl,ha0,hb0,hz,q⟩:=h
 have ha:SqT X.K H a xs:=SqT.of ha0
 have hb:SqT X.K H b ys:=SqT.of hb0
 by_cases hx:xs=[]
 .subst hx
  cases rx
  cases ry
  obtain⟨its,r1,p1,_⟩:=I.tuple ha
  obtain⟨its2,r2,p2,_⟩:=I.tuple hb
  have e0:its=[]:=(J4.nil_iff r1).mpr rfl
  subst e0
  obtain⟨⟨cls,dd,data,sl⟩,ho,hc,n,hd⟩:=id p1
  obtain⟨⟨cls2,dd2,data2,sl2⟩,ho2,hc2,n2,hd2⟩:=id p2
  simp only at hc hd hc2 hd2
  subst hc hd hc2 hd2
  exact dO ⟨_,ho,rfl⟩ ⟨_,ho2,rfl⟩ cO dE PySem.F.slot_tuple_add PySem.F.entry_tuple_add (PySem.F.args_tuple_add_2 _ _)
   (tuple_addW0 a b _ _ n n2 dd dd2 sl sl2 (by simp)) ⟨ho,ho2, .ref b,H,I,rfl,q b H (.inl ⟨rfl,hb0⟩)⟩
 .refine zcM pins s σ H _ _ v u Q I rx ry ⟨a,b,xs,ys,rfl,rfl,ha,hb,hx,hz,λe=> ?_,λ_ p hp=>q p _ (.inr ⟨hp,rfl⟩)⟩
  refine q a H (.inl ⟨rfl, ?_⟩)
  rw[e,l0]
  exact ha0
def z8u:CallR X (.type "tuple") (λxs H Q=> ∃(p:Addr) (ys:List V),xs=[.ref p]/\(SqL X.K H p ys\/H p=some (.tup ys))/\zax X.K H ys Q):=by
 intro pins s σ H xs us Q I r h
 obtain⟨p,ys,rfl,hs,q⟩:=h
 refine z3L pins s σ H _ us Q I r ⟨p,ys,rfl, ?_⟩
 rcases hs with hs|hs
 .exact .inl ⟨hs,λl hl=>q l _ (.inr ⟨hl,rfl⟩)⟩
 .exact .inr ⟨SqT.of hs,q p H (.inl ⟨rfl,hs⟩)⟩
end
end L2
namespace PyProof.Rows
open PySem
section
variable{prog:bm}{w:bo}{A:bq}{E:be->bf->Prop}{s:bf}
def z2u{h h':Heap}(hl:h.IsList t items)(k: ∀o,h.get? t=some o->h'.get? t=some o):h'.IsList t items:=by
 obtain⟨o,ho,hc,n,hd⟩:=hl
 exact⟨o,k o ho,hc,n,hd⟩
theorem z4U{items:Array be}(hne:t≠it): ∀(n i:Nat) (s:bf) (Q:List be->bf->Prop),s.heap.IsListIter it t i->s.heap.IsList t items->i+n<=items.size->
 (∀h',h'.IsListIter it t (i+n)->Heap.SameBut it s.heap h'->Q ((items.toList.drop i).take n) {s with heap:=h'})->bj (bn prog w) A (draw (.ref it) n) Q E s
 |0,i,s,Q,hit,_,_,hQ=>by
  show bj _ _ (pure []) Q E s
  exact bg (by simpa using hQ s.heap hit (Heap.SameBut.refl ..))
 |n+1,i,s,Q,hit,ht,hle,hQ=>by
  have hlt:i<items.size:=by lia
  show bj _ _ (cF (.ref it)>>=_) Q E s
  refine bb (cP hit ht (x:=items[i]) (by simp[hlt]) λh₁ hit₁ hs₁=> ?_)
  refine bb (br (z4U hne n (i+1) _ _ hit₁ (z2u ht λo e=>(hs₁.2 t hne).trans e) (by lia) λh₂ hit₂ hs₂=>bg ?_))
  have hd:items.toList.drop i=items[i]::items.toList.drop (i+1):=by simp[L4,hlt]
  have:=hQ h₂ (by rw[show i+(n+1)=i+1+n by lia];exact hit₂) (hs₁.trans hs₂)
  rw[hd,L5] at this
  exact this
def z22{Q:List be->bf->Prop}(hh:A.handled=none)(ht:s.heap.IsList t items)
 (hQ: ∀h',Heap.ExtBut s.heap.objs.size s.heap h'->Q items.toList {s with heap:=h'}):bj (bn prog w) A (unpackItems (.ref t) items.size none) Q E s:=by
 have hlt:t≠s.heap.objs.size:=by obtain⟨o,ho,_⟩:=ht;exact B1 (Heap.lt_size ho)
 have hT:s.TypeIs (.ref t) "list" :=by obtain⟨o,ho,hc,_⟩:=ht;exact⟨o,ho,hc⟩
 unfold unpackItems
 refine bb ?_
 .unfold notIterableAtAll
  refine bb (cf hT PySem.F.slot_list_iter.lookup ?_)
  refine bg ?_
  erw[A4,if_false]
  refine bb (br (cn ht ?_))
  refine bb (br (z4U hlt items.size 0 _ _ ⟨_,Heap.get?_push_size _ rfl,rfl,rfl⟩ (z2u ht λo e=>Heap.get?_push_of_some _ e) (by lia) λh₁ hit₁ hs₁=> ?_))
  have hall:List.take items.size (List.drop 0 items.toList)=items.toList:=by
   rw[L3];exact B0 (by simp)
  rw[hall]
  rw[if_neg (by simp)]
  have ht₁:h₁.IsList t items:=z2u ht λo e=>(hs₁.2 t hlt).trans (Heap.get?_push_of_some _ e)
  refine bb (br (cZ hh hit₁ ht₁ (by simp) λh₂ he₂=> ?_))
  erw[Option.isSome_none,A4,if_false]
  refine bg (hQ h₂ λb o hb e=>he₂ b o hb (hs₁.extBut b o hb (Heap.get?_push_of_some _ e)))
def z1G{env:dC}{elts:List bi}{x1}{pos:bG}{Q:Unit->bf->Prop}(hh:A.handled=none)(ht:s.heap.IsList t items)
 (hn:(bu elts env).length=items.size) (hstar:(bu elts env).findIdx? (·.1)=none)
 (h: ∀h',Heap.ExtBut s.heap.objs.size s.heap h'->bj (bn prog w) A (assignInOrder ((bu elts env).map (·.2)) items.toList) Q E {s with heap:=h'}):
 bj (bn prog w) A (cE (.Tuple elts x1 pos) env (.ref t)) Q E s:=by
 rw[assign_Tuple]
 refine bb (cJ ?_)
 unfold unpack
 rw[hn,hstar]
 exact bb (br (z22 hh ht h))
end
end PyProof.Rows
namespace L2
open PySem PySem.Spec PyProof.Rows
section
variable{X:Cx}{pos:bG}
noncomputable def zjM(K:W.Frag)(n:Nat)(t:TGs):TG:=λv σ H Q=> ∃a xs,v= .ref a/\(SqT K H a xs\/SqL K H a xs)/\xs.length=n/\t xs σ H Q
def zfx{k:Nat}{n:Nat}(hc:X.calm=true)(h:PGs X es t)
 (hn:(bu es X.env).length=n:=by rfl) (hst:(bu es X.env).findIdx? (·.1)=none:=by rfl):PG X (.Tuple es k pos) (zjM X.K n t):=by
 intro pins s σ H v u Q I r hw
 obtain⟨a,xs,e1,hq|hq,hl,hw⟩:=hw
 .exact zeF hc h hn hst pins s σ H v u Q I r ⟨a,xs,e1,hq,hl,hw⟩
 .subst e1
  cases r
  obtain⟨its,rv,ht,hz⟩:=I.list hq
  refine z1G (I.ok.hd hc) ht.isList (by simp[hn,<-hl,rv.length]) hst λh' hx=> ?_
  have I1:Inv X pins σ H {s with heap:=h'}:=I.kept (t':=s.toks) λb o e=>hx b o (B1 (Heap.lt_size e)) e
  exact h pins _ σ H xs _ Q I1 (by simpa using rv) hw
end
def z23:fillsNumberSlot (.type "tuple") "mul" =pure false:=
 PySem.fillsNumberSlot_seq (id:= "tuple.__mul__") (r:=some (.builtin "tuple.__rmul__")) F.slot_tuple_mul.lookup (by decide+kernel) F.slot_tuple_rmul.lookup (by decide+kernel)
def z4V:seqRepeat? (.type "tuple")=pure (some (.builtin "tuple.__mul__")):=by
 unfold seqRepeat?
 rw[PySem.seqSlot_of (T:= "tuple") (name:= "__mul__") (id:= "tuple.__mul__") F.slot_tuple_mul.lookup (by decide+kernel),PySem.seqSlot_of (T:= "tuple") (name:= "__rmul__") (id:= "tuple.__rmul__") F.slot_tuple_rmul.lookup (by decide+kernel)]
 rfl
def z3e(a:Int)(t:Tok)(l:Addr)(items:Array be)(n:Nat)(dd:Option Addr)(sl:Array (Option be)):
 Meets (Builtin.«int.__rmul__» ⟨[.int a t, .ref l],[]⟩) (λ_ R s=>s.heap.get? l=some {cls:= .type "tuple",dict:=dd,data:= .seq items n,slots:=sl}/\R (.ok (.ret Value.notImplemented)) s):=
 .of_wp λprog w A R s h=>by obtain⟨hp,g,d,tk,os⟩:=s;obtain⟨hl,h⟩:=h;wp_walk;exact⟨_,rfl,h⟩
def z7g(l:Addr)(items:Array be)(n:Nat)(dd:Option Addr)(sl:Array (Option be))(x:Int)(u:Tok)(hc0: ¬(decide (x< -(2^63))||decide (x≥2^63))=true)(hc1: ¬(items.isEmpty||x==1)=true)(hc2: ¬(decide (x<=0)||items.isEmpty)=true)(hc3: ¬((items.size:Int)*x>(2^63 - 1)/8))(hc4: ¬Builtin.Tuple.tupleTooMany ((items.size:Int)*x)=true)(hsz:(O5 (λx1 x2=>x1++x2) #[] (m9 x.toNat items)).size<=sizeLine):
 Meets (Builtin.«tuple.__mul__» ⟨[.ref l, .int x u],[]⟩) (λ_ R s=>s.heap.get? l=some {cls:= .type "tuple",dict:=dd,data:= .seq items n,slots:=sl}/\R (.ok (.ret (Value.ref s.heap.objs.size))) {s with heap:=s.heap.push {cls:=Value.type "tuple",data:=Data.seq (O5 (λx1 x2=>x1++x2) #[] (m9 x.toNat items))},toks:=s.toks}):=
 .of_wp λprog w A R s h=>by
  obtain⟨hp,g,d,tk,os⟩:=s;obtain⟨hl,h⟩:=h
  have f1:=AutoSeq1.idx_int;have f2:=AutoSeq1.sub_tuple_tuple
  wp_walk using AutoSeq1.wpAny_loadPart' hl
  rw[if_neg hc0]
  wp_walk using AutoSeq1.wpAny_loadPart' hl
  rw[if_neg hc3]
  wp_walk using AutoSeq1.wpAny_loadPart' hl
  exact⟨_,rfl,h⟩
section
variable{X:Cx}
noncomputable def zd8(K:W.Frag):R2:=λx y H Q=> ∃a k xs,x= .ref a/\y= .int k/\SqT K H a xs/\0<xs.length/\2<=k/\k<2^63/\xs.length*k.toNat<=sizeLine/\
 ∀p,H p=none->Q (.ref p) (upd H p (.tup (m9 k.toNat xs).flatten))
def zd9:OpR X (bW .Mult) (zd8 X.K):=by
 intro pins s σ H x y v u Q I rx ry h
 obtain⟨a,k,xs,rfl,rfl,ha,h0,h1,h2,hz,q⟩:=h
 cases rx
 obtain⟨t,rfl⟩:=ry
 obtain⟨its,r,p1,_⟩:=I.tuple ha
 obtain⟨⟨cls,dd,data,sl⟩,e,hc,n,hd⟩:=id p1
 simp only at hc hd
 subst hc hd
 have hlen:its.length=xs.length:=r.length.symm
 have hne:its.toArray.isEmpty=false:=by
  cases its with
  |nil=>simp at hlen;lia
  |cons a r=>simp
 have hnew:O5 (λx1 x2=>x1++x2) #[] (m9 k.toNat its.toArray)=(m9 k.toNat its).flatten.toArray:=by
  have:=z2l its k.toNat []
  rw[A6] at this
  exact this
 have hl2:((its.toArray.size:Nat):Int)*k=((xs.length*k.toNat:Nat):Int):=by
  rw[m4,hlen,Int.natCast_mul,Int.toNat_of_nonneg (by lia)]
 have hs:(sizeLine:Nat)=16777216:=rfl
 refine cI (T:= "tuple") (U:= "int") (by decide) ⟨_,e,rfl⟩ (λs'=>cW s' k t) z23 F.fills_int_mul F.slot_int_rmul z4V F.slot_int_index.lookup
  (cr F.slot_int_rmul (cW s k t) F.entry_int_rmul (F.args_int_rmul_2 _ _) (z3e k t a its.toArray n dd sl)
   ⟨e,rfl,⟨_,e,rfl⟩,cr F.slot_tuple_mul ⟨_,e,rfl⟩ F.entry_tuple_mul (F.args_tuple_mul_2 _ _) (z7g a its.toArray n dd sl k t (by simp;lia) (by rw[hne];simp;lia) (by rw[hne];simp;lia) (by rw[hl2];clear hl2;generalize xs.length*k.toNat=m at hz⊢;lia) (by rw[hl2];clear hl2;generalize xs.length*k.toNat=m at hz⊢;unfold Builtin.Tuple.tupleTooMany;rw[decide_eq_true_eq];lia) (by rw[hnew,m4,z5A,hlen,T4];exact hz)) ⟨e, ?_⟩⟩)
 rw[hnew]
 refine⟨.ref s.heap.objs.size,_,I.laid (t':=s.toks) (o:= .tup (m9 k.toNat xs).flatten) (λb ob q=>Heap.get?_push_of_some _ q) (i7 _) ?_,rfl,q _ (I.hok.fresh (i7 _))⟩
 exact⟨by rw[z5A,T4];exact hz,_,r.rep k.toNat,IsTup.new _ _⟩
end
end L2
namespace Mi
open PySem L2
inductive D where
 |non|bool (b:Bool)|int (i:Int)|str (x:Str)
 |tup (ds:List D)|ro (ds:List D)|lst (l:Nat) (ds:List D)
 |dct (l:Nat) (ks vs:List D)|obj (l:Nat) (c:Str) (ns:List Str) (vs:List D)
 |exc (c:Str)|fn (c:Str)|fdc (ks vs:List D)
deriving Inhabited
mutual
noncomputable def labs:D->List Nat
 | .tup ds=>labsL ds
 | .ro ds=>labsL ds
 | .fdc _ vs=>labsL vs
 | .lst l ds=>l::labsL ds
 | .dct l ks vs=>l::(labsL ks++labsL vs)
 | .obj l _ _ vs=>l::labsL vs
 | .non=>[]| .bool _=>[]| .int _=>[]| .str _=>[]| .exc _=>[]| .fn _=>[]
noncomputable def labsL:List D->List Nat
 |[]=>[]
 |d::ds=>labs d++labsL ds
end
noncomputable def Z4:List (Option D)->List Nat
 |[]=>[]
 |none::r=>Z4 r
 |some d::r=>labs d++Z4 r
structure Gx where
 K:W.Frag
 cl:Str->Option Addr
 ci: ∀c c' a,cl c=some a->cl c'=some a->c=c'
 ck: ∀c a,cl c=some a->∃o,K.lookup a=some o/\∀its n,o.data≠ .seq its n
noncomputable def z17:Key->D
 | .inl i=> .int i
 | .inr x=> .str x
noncomputable def nkD:Key⊕List Key->D
 | .inl k=>z17 k
 | .inr ks=> .tup (ks.map z17)
noncomputable def dkD(k:NK):D:= .tup (k.map nkD)
noncomputable def RoL(K:W.Frag)(H:Hp)(a:Addr)(xs:List V):Prop:=
 (∃o,H a=some (.frz o (.lst xs)))\/∃(o:bK) (its:Array be) (n:Nat),K.lookup a=some o/\o.cls= .type "list" /\o.dict=none/\o.data= .seq its n/\its.size<=sizeLine/\J4 xs its.toList
def RoL.sq(h:RoL K H a xs):SqL K H a xs:=by
 rcases h with⟨o,h⟩|h
 .exact .inl (.inr ⟨o,h⟩)
 .exact .inr h
mutual
noncomputable def RD(G:Gx)(ρ:Nat->Addr)(H:Hp):D->V->Prop
 | .non,v=>v= .non
 | .bool b,v=>v= .bl b
 | .int i,v=>v= .int i
 | .str x,v=>v= .str x
 | .exc c,v=> ∃a o C,v= .ref a/\G.cl c=some C/\o.cls= .ref C/\(∃vs,o.data= .fields vs)/\H a=some (.frz o (.ext λ_=>True))
 | .fn c,v=> ∃a,v= .ref a/\G.cl c=some a
 | .tup ds,v=> ∃a xs,v= .ref a/\H a=some (.tup xs)/\RDs G ρ H ds xs
 | .ro ds,v=> ∃a xs,v= .ref a/\RoL G.K H a xs/\RDs G ρ H ds xs
 | .fdc ks vs,v=> ∃(a:Addr) (o:bK) (kvs:List (NK×V)),v= .ref a/\H a=some (.frz o (.dT kvs))/\ks=kvs.map (λp=>dkD p.1)/\RDs G ρ H vs (kvs.map (·.2))
 | .lst l ds,v=>v= .ref (ρ l)/\∃xs,H (ρ l)=some (.lst xs)/\RDs G ρ H ds xs
 | .dct l ks vs,v=>v= .ref (ρ l)/\((∃kvs:List (Key×V),H (ρ l)=some (.dK kvs)/\ks=D.non::kvs.map (λp=>z17 p.1)/\RDs G ρ H vs (kvs.map (·.2)))\/
  (∃kvs:List (NK×V),H (ρ l)=some (.dT kvs)/\ks=kvs.map (λp=>dkD p.1)/\RDs G ρ H vs (kvs.map (·.2))))
 | .obj l c ns vs,v=>v= .ref (ρ l)/\∃C dx fs,G.cl c=some C/\H (ρ l)=some (.ins C dx fs)/\ns=fs.map (·.1)/\RDs G ρ H vs (fs.map (·.2))
noncomputable def RDs(G:Gx)(ρ:Nat->Addr)(H:Hp):List D->List V->Prop
 |[],xs=>xs=[]
 |d::ds,xs=> ∃x r,xs=x::r/\RD G ρ H d x/\RDs G ρ H ds r
end
structure G6(H H':Hp):Prop where
 t: ∀b xs,H b=some (.tup xs)->H' b=some (.tup xs)
 f: ∀b o u,H b=some (.frz o u)->H' b=some (.frz o u)
def G6.refl(H:Hp):G6 H H:=⟨λ_ _ h=>h,λ_ _ _ h=>h⟩
def G6.of(h:z39 H H'):G6 H H':=⟨λ_ _ e=>h _ _ e,λ_ _ _ e=>h _ _ e⟩
def G6.ro(t:G6 H H')(h:RoL K H a xs):RoL K H' a xs:=by
 rcases h with⟨o,h⟩|h
 .exact .inl ⟨o,t.f _ _ _ h⟩
 .exact .inr h
section
variable{G:Gx}{ρ ρ':Nat->Addr}{H H':Hp}
mutual
theorem RD.stay(ts:G6 H H'): ∀(t:D) (v:V),RD G ρ H t v->(∀l∈labs t,ρ' l=ρ l/\∀o,H (ρ l)=some o->H' (ρ l)=some o)->RD G ρ' H' t v
 | .non,v,h,_=>by erw[RD] at h⊢;exact h
 | .bool b,v,h,_=>by erw[RD] at h⊢;exact h
 | .int b,v,h,_=>by erw[RD] at h⊢;exact h
 | .str b,v,h,_=>by erw[RD] at h⊢;exact h
 | .exc b,v,h,_=>by
  erw[RD] at h⊢
  obtain⟨a,o,C,e,h1,h2,h3,h5⟩:=h
  exact⟨a,o,C,e,h1,h2,h3,ts.f _ _ _ h5⟩
 | .fn b,v,h,_=>by erw[RD] at h⊢;exact h
 | .tup ds,v,h,hl=>by
  erw[RD,labs] at h hl⊢
  obtain⟨a,xs,e,s,r⟩:=h
  exact⟨a,xs,e,ts.t _ _ s,RDs.stay ts ds xs r hl⟩
 | .ro ds,v,h,hl=>by
  erw[RD,labs] at h hl⊢
  obtain⟨a,xs,e,s,r⟩:=h
  exact⟨a,xs,e,ts.ro s,RDs.stay ts ds xs r hl⟩
 | .fdc ks vs,v,h,hl=>by
  erw[RD,labs] at h hl⊢
  obtain⟨a,o,kvs,e,s,s2,r⟩:=h
  exact⟨a,o,kvs,e,ts.f _ _ _ s,s2,RDs.stay ts vs _ r hl⟩
 | .lst l ds,v,h,hl=>by
  erw[RD,labs] at h hl⊢
  obtain⟨e,xs,s,r⟩:=h
  obtain⟨e1,e2⟩:=hl l (l5 ..)
  rw[e1]
  exact⟨e,xs,e2 _ s,RDs.stay ts ds xs r λk hk=>hl k (i5 _ hk)⟩
 | .dct l ks vs,v,h,hl=>by
  erw[RD,labs] at h hl⊢
  obtain⟨e,s⟩:=h
  obtain⟨e1,e2⟩:=hl l (l5 ..)
  rw[e1]
  refine⟨e, ?_⟩
  rcases s with⟨kvs,s,s2,r⟩|⟨kvs,s,s2,r⟩
  .exact .inl ⟨kvs,e2 _ s,s2,RDs.stay ts vs _ r λk hk=>hl k (i5 _ (i4 _ hk))⟩
  .exact .inr ⟨kvs,e2 _ s,s2,RDs.stay ts vs _ r λk hk=>hl k (i5 _ (i4 _ hk))⟩
 | .obj l c ns vs,v,h,hl=>by
  erw[RD,labs] at h hl⊢
  obtain⟨e,C,dx,fs,hC,s,s2,r⟩:=h
  obtain⟨e1,e2⟩:=hl l (l5 ..)
  rw[e1]
  exact⟨e,C,dx,fs,hC,e2 _ s,s2,RDs.stay ts vs _ r λk hk=>hl k (i5 _ hk)⟩
theorem RDs.stay(ts:G6 H H'): ∀(t:List D) (v:List V),RDs G ρ H t v->(∀l∈labsL t,ρ' l=ρ l/\∀o,H (ρ l)=some o->H' (ρ l)=some o)->RDs G ρ' H' t v
 |[],v,h,_=>by erw[RDs] at h⊢;exact h
 |d::ds,v,h,hl=>by
  erw[RDs,labsL] at h hl⊢
  obtain⟨x,r,e,h1,h2⟩:=h
  exact⟨x,r,e,RD.stay ts d x h1 λl hk=>hl l (i8 _ hk),RDs.stay ts ds r h2 λl hk=>hl l (i4 _ hk)⟩
end
end
mutual
noncomputable def rp(f:Nat->Option D):D->D
 | .tup ds=> .tup (rpL f ds)
 | .ro ds=> .ro (rpL f ds)
 | .fdc ks vs=> .fdc ks (rpL f vs)
 | .lst l ds=>match f l with|some d=>d|none=> .lst l (rpL f ds)
 | .dct l ks vs=>match f l with|some d=>d|none=> .dct l ks (rpL f vs)
 | .obj l c ns vs=>match f l with|some d=>d|none=> .obj l c ns (rpL f vs)
 | .non=> .non| .bool b=> .bool b| .int i=> .int i| .str x=> .str x| .exc x=> .exc x| .fn x=> .fn x
noncomputable def rpL(f:Nat->Option D):List D->List D
 |[]=>[]
 |d::ds=>rp f d::rpL f ds
end
noncomputable def rpO(f:Nat->Option D):List (Option D)->List (Option D)
 |[]=>[]
 |none::r=>none::rpO f r
 |some d::r=>some (rp f d)::rpO f r
section
variable{f:Nat->Option D}
mutual
theorem z8v: ∀t:D,(∀l∈labs t,f l=none)->rp f t=t
 | .non,_=>rfl
 | .bool b,_=>rfl
 | .int b,_=>rfl
 | .str b,_=>rfl
 | .exc b,_=>rfl
 | .fn b,_=>rfl
 | .tup ds,h=>by erw[rp,labs] at h⊢;rw[rpL_id ds h]
 | .ro ds,h=>by erw[rp,labs] at h⊢;rw[rpL_id ds h]
 | .fdc ks vs,h=>by erw[rp,labs] at h⊢;rw[rpL_id vs h]
 | .lst l ds,h=>by
  erw[rp,labs] at h⊢
  rw[h l (l5 ..),rpL_id ds λk hk=>h k (i5 _ hk)]
 | .dct l ks vs,h=>by
  erw[rp,labs] at h⊢
  rw[h l (l5 ..),rpL_id vs λk hk=>h k (i5 _ (i4 _ hk))]
 | .obj l c ns vs,h=>by
  erw[rp,labs] at h⊢
  rw[h l (l5 ..),rpL_id vs λk hk=>h k (i5 _ hk)]
theorem rpL_id: ∀t:List D,(∀l∈labsL t,f l=none)->rpL f t=t
 |[],_=>rfl
 |d::ds,h=>by
  erw[rpL,labsL] at h⊢
  rw[z8v d λl hk=>h l (i8 _ hk),rpL_id ds λl hk=>h l (i4 _ hk)]
end
theorem z8w: ∀t:List (Option D),(∀l∈Z4 t,f l=none)->rpO f t=t
 |[],_=>rfl
 |none::r,h=>by erw[rpO,Z4] at h⊢;rw[z8w r h]
 |some d::r,h=>by
  erw[rpO,Z4] at h⊢
  rw[z8v d λl hk=>h l (i8 _ hk),z8w r λl hk=>h l (i4 _ hk)]
end
section
variable{G:Gx}{ρ ρ':Nat->Addr}{H H':Hp}{f:Nat->Option D}
mutual
theorem RD.rp(ts:G6 H H'): ∀(t:D) (v:V),RD G ρ H t v->(∀l∈labs t,ρ' l=ρ l/\(match f l with|some d=>RD G ρ' H' d (.ref (ρ l))|none=> ∀o,H (ρ l)=some o->H' (ρ l)=some o))->RD G ρ' H' (rp f t) v
 | .non,v,h,_=>by erw[Mi.rp,RD] at h⊢;exact h
 | .bool b,v,h,_=>by erw[Mi.rp,RD] at h⊢;exact h
 | .int b,v,h,_=>by erw[Mi.rp,RD] at h⊢;exact h
 | .str b,v,h,_=>by erw[Mi.rp,RD] at h⊢;exact h
 | .exc b,v,h,_=>by
  erw[Mi.rp,RD] at h⊢
  obtain⟨a,o,C,e,h1,h2,h3,h5⟩:=h
  exact⟨a,o,C,e,h1,h2,h3,ts.f _ _ _ h5⟩
 | .fn b,v,h,_=>by erw[Mi.rp,RD] at h⊢;exact h
 | .tup ds,v,h,hl=>by
  erw[Mi.rp,RD,labs] at h hl⊢
  obtain⟨a,xs,e,s,r⟩:=h
  exact⟨a,xs,e,ts.t _ _ s,RDs.rp ts ds xs r hl⟩
 | .ro ds,v,h,hl=>by
  erw[Mi.rp,RD,labs] at h hl⊢
  obtain⟨a,xs,e,s,r⟩:=h
  exact⟨a,xs,e,ts.ro s,RDs.rp ts ds xs r hl⟩
 | .fdc ks vs,v,h,hl=>by
  erw[Mi.rp,RD,labs] at h hl⊢
  obtain⟨a,o,kvs,e,s,s2,r⟩:=h
  exact⟨a,o,kvs,e,ts.f _ _ _ s,s2,RDs.rp ts vs _ r hl⟩
 | .lst l ds,v,h,hl=>by
  erw[Mi.rp,RD,labs] at h hl⊢
  obtain⟨e,xs,s,r⟩:=h
  obtain⟨e1,e2⟩:=hl l (l5 ..)
  cases ef:f l with
  |some d=>rw[ef] at e2;subst e;exact e2
  |none=>
   rw[ef] at e2
   erw[RD]
   rw[e1]
   exact⟨e,xs,e2 _ s,RDs.rp ts ds xs r λk hk=>hl k (i5 _ hk)⟩
 | .dct l ks vs,v,h,hl=>by
  erw[Mi.rp,RD,labs] at h hl⊢
  obtain⟨e,s⟩:=h
  obtain⟨e1,e2⟩:=hl l (l5 ..)
  cases ef:f l with
  |some d=>rw[ef] at e2;subst e;exact e2
  |none=>
   rw[ef] at e2
   erw[RD]
   rw[e1]
   refine⟨e, ?_⟩
   rcases s with⟨kvs,s,s2,r⟩|⟨kvs,s,s2,r⟩
   .exact .inl ⟨kvs,e2 _ s,s2,RDs.rp ts vs _ r λk hk=>hl k (i5 _ (i4 _ hk))⟩
   .exact .inr ⟨kvs,e2 _ s,s2,RDs.rp ts vs _ r λk hk=>hl k (i5 _ (i4 _ hk))⟩
 | .obj l c ns vs,v,h,hl=>by
  erw[Mi.rp,RD,labs] at h hl⊢
  obtain⟨e,C,dx,fs,hC,s,s2,r⟩:=h
  obtain⟨e1,e2⟩:=hl l (l5 ..)
  cases ef:f l with
  |some d=>rw[ef] at e2;subst e;exact e2
  |none=>
   rw[ef] at e2
   erw[RD]
   rw[e1]
   exact⟨e,C,dx,fs,hC,e2 _ s,s2,RDs.rp ts vs _ r λk hk=>hl k (i5 _ hk)⟩
theorem RDs.rp(ts:G6 H H'): ∀(t:List D) (v:List V),RDs G ρ H t v->(∀l∈labsL t,ρ' l=ρ l/\(match f l with|some d=>RD G ρ' H' d (.ref (ρ l))|none=> ∀o,H (ρ l)=some o->H' (ρ l)=some o))->RDs G ρ' H' (rpL f t) v
 |[],v,h,_=>by erw[rpL,RDs] at h⊢;exact h
 |d::ds,v,h,hl=>by
  erw[rpL,RDs,labsL] at h hl⊢
  obtain⟨x,r,e,h1,h2⟩:=h
  exact⟨x,r,e,RD.rp ts d x h1 λl hk=>hl l (i8 _ hk),RDs.rp ts ds r h2 λl hk=>hl l (i4 _ hk)⟩
end
end
section
variable{f:Nat->Option D}
mutual
theorem z8x(l:Nat): ∀t:D,l∈labs (rp f t)->l∈labs t\/∃k d,k∈labs t/\f k=some d/\l∈labs d
 | .non,h=>by erw[rp,labs] at h;cases h
 | .bool b,h=>by erw[rp,labs] at h;cases h
 | .int b,h=>by erw[rp,labs] at h;cases h
 | .str b,h=>by erw[rp,labs] at h;cases h
 | .exc b,h=>by erw[rp,labs] at h;cases h
 | .fn b,h=>by erw[rp,labs] at h;cases h
 | .tup ds,h=>by
  erw[rp,labs] at h⊢
  exact labsL_rp l ds h
 | .ro ds,h=>by
  erw[rp,labs] at h⊢
  exact labsL_rp l ds h
 | .fdc ks vs,h=>by
  erw[rp,labs] at h⊢
  exact labsL_rp l vs h
 | .lst k ds,h=>by
  erw[rp] at h
  cases e:f k with
  |some d=>rw[e] at h;exact .inr ⟨k,d,by erw[labs];exact l5 ..,e,h⟩
  |none=>
   rw[e] at h
   erw[labs] at h⊢
   rcases l7.mp h with h|h
   .exact .inl (l7.mpr (.inl h))
   .rcases labsL_rp l ds h with q|⟨k',d,q1,q2,q3⟩
    .exact .inl (i5 _ q)
    .exact .inr ⟨k',d,i5 _ q1,q2,q3⟩
 | .dct k ks vs,h=>by
  erw[rp] at h
  cases e:f k with
  |some d=>rw[e] at h;exact .inr ⟨k,d,by erw[labs];exact l5 ..,e,h⟩
  |none=>
   rw[e] at h
   erw[labs] at h⊢
   rcases l7.mp h with h|h
   .exact .inl (l7.mpr (.inl h))
   .rcases l4.mp h with h|h
    .exact .inl (i5 _ (i8 _ h))
    .rcases labsL_rp l vs h with q|⟨k',d,q1,q2,q3⟩
     .exact .inl (i5 _ (i4 _ q))
     .exact .inr ⟨k',d,i5 _ (i4 _ q1),q2,q3⟩
 | .obj k c ns vs,h=>by
  erw[rp] at h
  cases e:f k with
  |some d=>rw[e] at h;exact .inr ⟨k,d,by erw[labs];exact l5 ..,e,h⟩
  |none=>
   rw[e] at h
   erw[labs] at h⊢
   rcases l7.mp h with h|h
   .exact .inl (l7.mpr (.inl h))
   .rcases labsL_rp l vs h with q|⟨k',d,q1,q2,q3⟩
    .exact .inl (i5 _ q)
    .exact .inr ⟨k',d,i5 _ q1,q2,q3⟩
theorem labsL_rp(l:Nat): ∀t:List D,l∈labsL (rpL f t)->l∈labsL t\/∃k d,k∈labsL t/\f k=some d/\l∈labs d
 |[],h=>by erw[rpL,labsL] at h;cases h
 |d::ds,h=>by
  erw[rpL,labsL] at h⊢
  rcases l4.mp h with h|h
  .rcases z8x l d h with q|⟨k',d,q1,q2,q3⟩
   .exact .inl (i8 _ q)
   .exact .inr ⟨k',d,i8 _ q1,q2,q3⟩
  .rcases labsL_rp l ds h with q|⟨k',d,q1,q2,q3⟩
   .exact .inl (i4 _ q)
   .exact .inr ⟨k',d,i4 _ q1,q2,q3⟩
end
theorem z2c(l:Nat): ∀t:List (Option D),l∈Z4 (rpO f t)->l∈Z4 t\/∃k d,k∈Z4 t/\f k=some d/\l∈labs d
 |[],h=>by erw[rpO,Z4] at h;cases h
 |none::r,h=>by erw[rpO,Z4] at h⊢;exact z2c l r h
 |some d::ds,h=>by
  erw[rpO,Z4] at h⊢
  rcases l4.mp h with h|h
  .rcases z8x l d h with q|⟨k',d,q1,q2,q3⟩
   .exact .inl (i8 _ q)
   .exact .inr ⟨k',d,i8 _ q1,q2,q3⟩
  .rcases z2c l ds h with q|⟨k',d,q1,q2,q3⟩
   .exact .inl (i4 _ q)
   .exact .inr ⟨k',d,i4 _ q1,q2,q3⟩
end
structure Stt where
 σ:List (Option D)
 tm:List (Option D)
 n:Nat
structure Fx where
 A0:Addr->Prop
 H0:Hp
 Z:Addr->Prop
 zA: ∀a,Z a->(∃o,H0 a=some o)/\¬A0 a
 aH: ∀a,A0 a->∃o,H0 a=some o
 n0:Nat
 ρ0:Nat->Addr
noncomputable def KD(K:W.Frag)(H:Hp):Prop:= ∀a o,K.lookup a=some o->H a=none
section
variable(G:Gx)(ρ:Nat->Addr)(H:Hp)
noncomputable def Sl:List (Option D)->List (Option V)->Prop
 |[],vs=>vs=[]
 |none::r,vs=> ∃o q,vs=o::q/\Sl r q
 |some d::r,vs=> ∃v q,vs=some v::q/\RD G ρ H d v/\Sl r q
end
noncomputable def G9(s:Stt):List Nat:=Z4 s.σ++Z4 s.tm
structure MR(G:Gx)(F:Fx)(ρ:Nat->Addr)(H:Hp)(σv tv:List (Option V))(s:Stt):Prop where
 sl:Sl G ρ H s.σ σv
 tm:Sl G ρ H s.tm tv
 inj: ∀i j,i<s.n->j<s.n->ρ i=ρ j->i=j
 dom: ∀l,l<s.n->∃o,H (ρ l)=some o
 lab: ∀l∈G9 s,l<s.n
 own: ∀l∈G9 s,F.A0 (ρ l)\/F.H0 (ρ l)=none
 frm: ∀a o,F.H0 a=some o->(∃o',H a=some o')/\(¬F.A0 a->H a=some o)
 kd:KD G.K H
 frb: ∀l,l<s.n->¬F.Z (ρ l)
 bas:F.n0<=s.n/\∀l,l<F.n0->ρ l=F.ρ0 l
noncomputable def Stt.psh(s:Stt)(t:D):Stt:={s with tm:=some t::s.tm}
noncomputable def Stt.nxt(s:Stt):Stt:={s with n:=s.n+1}
section
variable{G:Gx}{F:Fx}{ρ ρ':Nat->Addr}{H H':Hp}{σv tv:List (Option V)}{s:Stt}{t:D}{v:V}
theorem Sl.stay(ts:G6 H H'): ∀{σ:List (Option D)} {σv:List (Option V)},Sl G ρ H σ σv->(∀l∈Z4 σ,ρ' l=ρ l/\∀o,H (ρ l)=some o->H' (ρ l)=some o)->Sl G ρ' H' σ σv
 |[],_,h,_=>h
 |none::r,_,h,hl=>by
  erw[Sl,Z4] at h hl⊢
  obtain⟨o,q,e,h⟩:=h
  exact⟨o,q,e,Sl.stay ts h hl⟩
 |some d::r,_,h,hl=>by
  erw[Sl,Z4] at h hl⊢
  obtain⟨o,q,e,h1,h⟩:=h
  exact⟨o,q,e,RD.stay ts d o h1 λl hk=>hl l (i8 _ hk),Sl.stay ts h λl hk=>hl l (i4 _ hk)⟩
theorem Sl.rp{f:Nat->Option D}(ts:G6 H H'): ∀{σ:List (Option D)} {σv:List (Option V)},Sl G ρ H σ σv->
 (∀l∈Z4 σ,ρ' l=ρ l/\(match f l with|some d=>RD G ρ' H' d (.ref (ρ l))|none=> ∀o,H (ρ l)=some o->H' (ρ l)=some o))->Sl G ρ' H' (rpO f σ) σv
 |[],_,h,_=>h
 |none::r,_,h,hl=>by
  erw[Sl,Z4,rpO] at h hl⊢
  obtain⟨o,q,e,h⟩:=h
  exact⟨o,q,e,Sl.rp ts h hl⟩
 |some d::r,_,h,hl=>by
  erw[Sl,Z4,rpO] at h hl⊢
  obtain⟨o,q,e,h1,h⟩:=h
  exact⟨o,q,e,RD.rp ts d o h1 λl hk=>hl l (i8 _ hk),Sl.rp ts h λl hk=>hl l (i4 _ hk)⟩
theorem Sl.get: ∀{σ:List (Option D)} {σv:List (Option V)},Sl G ρ H σ σv->∀(i:Nat) (d:D),σ[i]? =some (some d)->∃v,σv[i]? =some (some v)/\RD G ρ H d v
 |[],_,_,i,d,e=>by simp at e
 |none::r,_,h,i,d,e=>by
  erw[Sl] at h
  obtain⟨o,q,rfl,h⟩:=h
  cases i with
  |zero=>simp at e
  |succ i=>simpa using Sl.get h i d (by simpa using e)
 |some d'::r,_,h,i,d,e=>by
  erw[Sl] at h
  obtain⟨v,q,rfl,h1,h⟩:=h
  cases i with
  |zero=>simp at e;subst e;exact⟨v,rfl,h1⟩
  |succ i=>simpa using Sl.get h i d (by simpa using e)
theorem Sl.length: ∀{σ:List (Option D)} {σv:List (Option V)},Sl G ρ H σ σv->σ.length=σv.length
 |[],_,h=>by erw[Sl] at h;subst h;rfl
 |none::r,_,h=>by
  erw[Sl] at h
  obtain⟨o,q,rfl,h⟩:=h
  simp[Sl.length h]
 |some d'::r,_,h=>by
  erw[Sl] at h
  obtain⟨v,q,rfl,h1,h⟩:=h
  simp[Sl.length h]
theorem Sl.set: ∀{σ:List (Option D)} {σv:List (Option V)} (i:Nat),Sl G ρ H σ σv->RD G ρ H t v->Sl G ρ H (σ.set i (some t)) (σv.set i (some v))
 |[],_,i,h,_=>by erw[Sl] at h;subst h;simp[Sl]
 |none::r,_,i,h,ht=>by
  erw[Sl] at h
  obtain⟨o,q,rfl,h⟩:=h
  cases i with
  |zero=>erw[D0,Sl];exact⟨_,_,rfl,ht,h⟩
  |succ i=>erw[D6,Sl];exact⟨_,_,rfl,Sl.set i h ht⟩
 |some d'::r,_,i,h,ht=>by
  erw[Sl] at h
  obtain⟨v',q,rfl,h1,h⟩:=h
  cases i with
  |zero=>erw[D0,Sl];exact⟨_,_,rfl,ht,h⟩
  |succ i=>erw[D6,Sl];exact⟨_,_,rfl,h1,Sl.set i h ht⟩
theorem Sl.append: ∀{σ σ':List (Option D)} {σv σv':List (Option V)},Sl G ρ H σ σv->Sl G ρ H σ' σv'->Sl G ρ H (σ++σ') (σv++σv')
 |[],_,_,_,h,h'=>by erw[Sl] at h;subst h;exact h'
 |none::r,_,_,_,h,h'=>by
  erw[Sl] at h
  obtain⟨o,q,rfl,h⟩:=h
  erw[B7,Sl];exact⟨_,_,rfl,Sl.append h h'⟩
 |some d'::r,_,_,_,h,h'=>by
  erw[Sl] at h
  obtain⟨v,q,rfl,h1,h⟩:=h
  erw[B7,Sl];exact⟨_,_,rfl,h1,Sl.append h h'⟩
theorem Sl.split: ∀(σv:List (Option V)) {σ:List (Option D)} {tv:List (Option V)},Sl G ρ H σ (σv++tv)->Sl G ρ H (σ.take σv.length) σv/\Sl G ρ H (σ.drop σv.length) tv
 |[],σ,tv,h=>⟨by simp[Sl],by simpa using h⟩
 |o::σv,[],tv,h=>by simp[Sl] at h
 |o::σv,none::r,tv,h=>by
  erw[B7,Sl] at h
  obtain⟨o',q,e,h⟩:=h
  cases e
  obtain⟨h1,h2⟩:=Sl.split σv h
  erw[A3,L5,O0,Sl]
  exact⟨⟨_,_,rfl,h1⟩,h2⟩
 |o::σv,some d::r,tv,h=>by
  erw[B7,Sl] at h
  obtain⟨o',q,e,h0,h⟩:=h
  cases e
  obtain⟨h1,h2⟩:=Sl.split σv h
  erw[A3,L5,O0,Sl]
  exact⟨⟨_,_,rfl,h0,h1⟩,h2⟩
theorem z1u: ∀{σ:List (Option D)} {i:Nat} {d:D},σ[i]? =some (some d)->∀l∈labs d,l∈Z4 σ
 |[],i,d,e,l,h=>by simp at e
 |none::r,i,d,e,l,h=>by
  erw[Z4]
  cases i with
  |zero=>simp at e
  |succ i=>exact z1u (i:=i) (by simpa using e) l h
 |some d'::r,i,d,e,l,h=>by
  erw[Z4]
  cases i with
  |zero=>simp at e;subst e;exact i8 _ h
  |succ i=>exact i4 _ (z1u (i:=i) (by simpa using e) l h)
theorem z2v: ∀{σ:List (Option D)} {i:Nat} {d:D} (l:Nat),l∈Z4 (σ.set i (some d))->l∈Z4 σ\/l∈labs d
 |[],i,d,l,h=>by simp[Z4] at h
 |none::r,i,d,l,h=>by
  cases i with
  |zero=>
   erw[D0,Z4] at h⊢
   rcases l4.mp h with h|h
   .exact .inr h
   .exact .inl h
  |succ i=>
   erw[D6,Z4] at h⊢
   exact z2v l h
 |some d'::r,i,d,l,h=>by
  cases i with
  |zero=>
   erw[D0,Z4] at h⊢
   rcases l4.mp h with h|h
   .exact .inr h
   .exact .inl (i4 _ h)
  |succ i=>
   erw[D6,Z4] at h⊢
   rcases l4.mp h with h|h
   .exact .inl (i8 _ h)
   .rcases z2v l h with q|q
    .exact .inl (i4 _ q)
    .exact .inr q
theorem W3: ∀(σ σ':List (Option D)),Z4 (σ++σ')=Z4 σ++Z4 σ'
 |[],_=>rfl
 |none::r,σ'=>by erw[B7,Z4,W3 r σ']
 |some d::r,σ'=>by erw[B7,Z4,W3 r σ',A5]
theorem j9: ∀(σ σ':List D),labsL (σ++σ')=labsL σ++labsL σ'
 |[],_=>rfl
 |d::r,σ'=>by erw[B7,labsL,j9 r σ',A5]
theorem labsL_mem: ∀{ds:List D} {d:D},d∈ds->∀l∈labs d,l∈labsL ds
 |_::ds,d,h,l,hl=>by
  erw[labsL]
  rcases l7.mp h with rfl|h
  .exact i8 _ hl
  .exact i4 _ (labsL_mem h l hl)
theorem X6: ∀{ds:List D} {l:Nat},l∈labsL ds->∃d∈ds,l∈labs d
 |d::ds,l,h=>by
  erw[labsL] at h
  rcases l4.mp h with h|h
  .exact⟨d,l5 ..,h⟩
  .obtain⟨x,h1,h2⟩:=X6 h
   exact⟨x,i5 _ h1,h2⟩
theorem RDs.get: ∀{ds:List D} {xs:List V},RDs G ρ H ds xs->∀(i:Nat) (d:D),ds[i]? =some d->∃x,xs[i]? =some x/\RD G ρ H d x
 |[],_,_,i,d,e=>by simp at e
 |d'::r,_,h,i,d,e=>by
  erw[RDs] at h
  obtain⟨x,q,rfl,h1,h2⟩:=h
  cases i with
  |zero=>simp at e;subst e;exact⟨x,rfl,h1⟩
  |succ i=>simpa using RDs.get h2 i d (by simpa using e)
theorem RDs.length: ∀{ds:List D} {xs:List V},RDs G ρ H ds xs->ds.length=xs.length
 |[],_,h=>by erw[RDs] at h;subst h;rfl
 |d'::r,_,h=>by
  erw[RDs] at h
  obtain⟨x,q,rfl,h1,h2⟩:=h
  simp[RDs.length h2]
theorem RDs.append: ∀{ds es:List D} {xs ys:List V},RDs G ρ H ds xs->RDs G ρ H es ys->RDs G ρ H (ds++es) (xs++ys)
 |[],_,_,_,h,h'=>by erw[RDs] at h;subst h;exact h'
 |d'::r,_,_,_,h,h'=>by
  erw[RDs] at h
  obtain⟨x,q,rfl,h1,h2⟩:=h
  erw[B7,RDs]
  exact⟨_,_,rfl,h1,RDs.append h2 h'⟩
def RDs.one(h:RD G ρ H d x):RDs G ρ H [d] [x]:=by erw[RDs];exact⟨_,_,rfl,h,rfl⟩
theorem RDs.take: ∀{ds:List D} {xs:List V} (k:Nat),RDs G ρ H ds xs->RDs G ρ H (ds.take k) (xs.take k)
 |_,_,0,_=>by simp[RDs]
 |[],_,k+1,h=>by erw[RDs] at h;subst h;simp[RDs]
 |d'::r,_,k+1,h=>by
  erw[RDs] at h
  obtain⟨x,q,rfl,h1,h2⟩:=h
  erw[L5,RDs]
  exact⟨_,_,rfl,h1,RDs.take k h2⟩
theorem RDs.drop: ∀{ds:List D} {xs:List V} (k:Nat),RDs G ρ H ds xs->RDs G ρ H (ds.drop k) (xs.drop k)
 |_,_,0,h=>h
 |[],_,k+1,h=>by erw[RDs] at h;subst h;simp[RDs]
 |d'::r,_,k+1,h=>by
  erw[RDs] at h
  obtain⟨x,q,rfl,h1,h2⟩:=h
  erw[O0]
  exact RDs.drop k h2
theorem RDs.set: ∀{ds:List D} {xs:List V} (k:Nat),RDs G ρ H ds xs->RD G ρ H t v->RDs G ρ H (ds.set k t) (xs.set k v)
 |[],_,k,h,_=>by erw[RDs] at h;subst h;simp[RDs]
 |d'::r,_,0,h,ht=>by
  erw[RDs] at h
  obtain⟨x,q,rfl,h1,h2⟩:=h
  erw[D0,RDs];exact⟨_,_,rfl,ht,h2⟩
 |d'::r,_,k+1,h,ht=>by
  erw[RDs] at h
  obtain⟨x,q,rfl,h1,h2⟩:=h
  erw[D6,RDs];exact⟨_,_,rfl,h1,RDs.set k h2 ht⟩
def MR.pop{r:Option D}(M:MR G F ρ H σv (o::tv) {s with tm:=r::s.tm}):MR G F ρ H σv tv s where
 sl:=M.sl
 tm:=by
  have h:=M.tm
  cases r with
  |none=>erw[Sl] at h;obtain⟨_,_,e,h⟩:=h;cases e;exact h
  |some t=>erw[Sl] at h;obtain⟨_,_,e,_,h⟩:=h;cases e;exact h
 inj:=M.inj
 dom:=M.dom
 lab:=λl h=>M.lab l (by
  rcases l4.mp h with h|h
  .exact i8 _ h
  .refine i4 _ ?_
   cases r with
   |none=>exact h
   |some t=>exact i4 _ h)
 own:=λl h=>M.own l (by
  rcases l4.mp h with h|h
  .exact i8 _ h
  .refine i4 _ ?_
   cases r with
   |none=>exact h
   |some t=>exact i4 _ h)
 frm:=M.frm
 kd:=M.kd
 frb:=M.frb
 bas:=M.bas
def MR.top(M:MR G F ρ H σv (some v::tv) (s.psh t)):RD G ρ H t v:=by
 have h:=M.tm
 have h:Sl G ρ H (some t::s.tm) (some v::tv):=h
 erw[Sl] at h
 obtain⟨_,_,e,h,_⟩:=h
 cases e
 exact h
def MR.topl(M:MR G F ρ H σv tv (s.psh t)): ∀l∈labs t,l<s.n/\(F.A0 (ρ l)\/F.H0 (ρ l)=none):=λl h=>
 have m:l∈G9 (s.psh t):=i4 _ (i8 _ h)
 ⟨M.lab l m,M.own l m⟩
def MR.same(M:MR G F ρ H σv tv s)(h:z39 H H')(k:KD G.K H'):MR G F ρ H' σv tv s where
 sl:=Sl.stay (G6.of h) M.sl λl _=>⟨rfl,λo e=>h _ _ e⟩
 tm:=Sl.stay (G6.of h) M.tm λl _=>⟨rfl,λo e=>h _ _ e⟩
 inj:=M.inj
 dom:=λl hl=>let⟨o,e⟩:=M.dom l hl;⟨o,h _ _ e⟩
 lab:=M.lab
 own:=M.own
 frm:=λa o e=>let⟨⟨o',e1⟩,e2⟩:=M.frm a o e;⟨⟨o',h _ _ e1⟩,λn=>h _ _ (e2 n)⟩
 kd:=k
 frb:=M.frb
 bas:=M.bas
def RDs.same(h:z39 H H')(r:RDs G ρ H ts vs):RDs G ρ H' ts vs:=RDs.stay (G6.of h) ts vs r λl _=>⟨rfl,λo e=>h _ _ e⟩
noncomputable def ext(ρ:Nat->Addr)(n:Nat)(p:Addr):Nat->Addr:=λl=>if l=n then p else ρ l
def Q2{n l:Nat}(h:l<n):ext ρ n p l=ρ l:=by unfold ext;rw[if_neg (by lia)]
def J7{n:Nat}:ext ρ n p n=p:=by unfold ext;rw[if_pos rfl]
def MR.new(M:MR G F ρ H σv tv s)(hp:H p=none)(k:KD G.K (upd H p o)):MR G F (ext ρ s.n p) (upd H p o) σv tv s.nxt where
 sl:=Sl.stay (G6.of (z39.new o hp)) M.sl λl hl=>⟨Q2 (M.lab l (i8 _ hl)),λo e=>z39.new _ hp _ _ e⟩
 tm:=Sl.stay (G6.of (z39.new o hp)) M.tm λl hl=>⟨Q2 (M.lab l (i4 _ hl)),λo e=>z39.new _ hp _ _ e⟩
 inj:=λi j hi hj e=>by
  have hi:i<s.n+1:=hi
  have hj:j<s.n+1:=hj
  have nn: ∀i,i<s.n->ρ i≠p:=λi h e=>by
   obtain⟨o,q⟩:=M.dom i h
   rw[e,hp] at q;cases q
  by_cases h1:i=s.n
  .by_cases h2:j=s.n
   .lia
   .rw[h1,J7,Q2 (by lia)] at e
    exact absurd e.symm (nn j (by lia))
  .by_cases h2:j=s.n
   .rw[h2,J7,Q2 (by lia)] at e
    exact absurd e (nn i (by lia))
   .rw[Q2 (by lia),Q2 (by lia)] at e
    exact M.inj i j (by lia) (by lia) e
 dom:=λl hl=>by
  have hl:l<s.n+1:=hl
  by_cases h1:l=s.n
  .subst h1;rw[J7];exact⟨o,y8⟩
  .rw[Q2 (by lia)]
   obtain⟨o',e⟩:=M.dom l (by lia)
   exact⟨o',z39.new _ hp _ _ e⟩
 lab:=λl h=>E9 (M.lab l h)
 own:=λl h=>by rw[Q2 (M.lab l h)];exact M.own l h
 frm:=λa o e=>let⟨⟨o',e1⟩,e2⟩:=M.frm a o e;⟨⟨o',z39.new _ hp _ _ e1⟩,λn=>z39.new _ hp _ _ (e2 n)⟩
 kd:=k
 frb:=λl hl=>by
  have hl:l<s.n+1:=hl
  by_cases h1:l=s.n
  .subst h1;rw[J7]
   intro z
   obtain⟨⟨o,e⟩,_⟩:=F.zA p z
   obtain⟨⟨o',e'⟩,_⟩:=M.frm p o e
   rw[hp] at e';cases e'
  .rw[Q2 (by lia)]
   exact M.frb l (by lia)
 bas:=⟨T6 M.bas.1,λl hl=>by rw[Q2 (A8 hl M.bas.1)];exact M.bas.2 l hl⟩
def MR.fresh0(M:MR G F ρ H σv tv s)(hp:H p=none):F.H0 p=none:=by
 cases q:F.H0 p with
 |none=>rfl
 |some o=>
  obtain⟨⟨o',e⟩,_⟩:=M.frm p o q
  rw[hp] at e;cases e
noncomputable def Stt.put(s:Stt)(l:Nat)(d:D):Stt:={s with σ:=rpO (λk=>if k=l then some d else none) s.σ,tm:=rpO (λk=>if k=l then some d else none) s.tm}
end
inductive Res(α:Type) where
 |ok (a:α) (s:Stt)|ex (d:D) (s:Stt)|no
noncomputable abbrev M(α:Type):=Stt->Res α
noncomputable def bd{α β:Type}(m:M α)(f:α->M β):M β:=λs=>match m s with
 | .ok a s'=>f a s'
 | .ex d s'=> .ex d s'
 | .no=> .no
noncomputable def rt{α:Type}(a:α):M α:=λs=> .ok a s
noncomputable def fl{α:Type}:M α:=λ_=> .no
noncomputable def psh(t:D):M Unit:=λs=> .ok () (s.psh t)
noncomputable def pop:M D:=λs=>match s.tm with
 |some t::r=> .ok t {s with tm:=r}
 |_=> .no
structure Fy extends Fx where
 tv0:List (Option V)
 xw:D->Stt->Prop
structure MRL(G:Gx)(F:Fx)(ρ:Nat->Addr)(H:Hp)(σv tv:List (Option V))(s:Stt)(ts:List D)(vs:List V):Prop where
 m:MR G F ρ H σv tv s
 rd:RDs G ρ H ts vs
 lb: ∀l∈labsL ts,l<s.n/\(F.A0 (ρ l)\/F.H0 (ρ l)=none)
section
variable{G:Gx}{F:Fy}{ρ ρ':Nat->Addr}{H H':Hp}{σv tv:List (Option V)}{s:Stt}{t t':D}{v u:V}{ts:List D}{vs:List V}{Q:VK}
def MRL.rd1(M:MRL G F.toFx ρ H σv tv s [t] [v]):RD G ρ H t v:=by
 have h:=M.rd
 erw[RDs] at h
 obtain⟨_,_,e,h,_⟩:=h
 cases e;exact h
def MRL.rd2(M:MRL G F.toFx ρ H σv tv s [t,t'] [v,u]):RD G ρ H t v/\RD G ρ H t' u:=by
 have h:=M.rd
 erw[RDs] at h
 obtain⟨_,_,e,h,_,_,e',h',_⟩:=h
 cases e;cases e';exact⟨h,h'⟩
def MRL.push(M:MRL G F.toFx ρ H σv tv s [t] [v]):MR G F.toFx ρ H σv (some v::tv) (s.psh t):=by
 have hl: ∀l∈labs t,l<s.n/\(F.A0 (ρ l)\/F.H0 (ρ l)=none):=λl h=>M.lb l (by erw[labsL,l0];exact h)
 refine⟨M.m.sl, ?_,M.m.inj,M.m.dom,λl h=> ?_,λl h=> ?_,M.m.frm,M.m.kd,M.m.frb,M.m.bas⟩
 .show Sl G ρ H (some t::s.tm) _
  erw[Sl]
  exact⟨v,tv,rfl,M.rd1,M.m.tm⟩
 .have h:l∈Z4 s.σ++(labs t++Z4 s.tm):=h
  rcases l4.mp h with h|h
  .exact M.m.lab l (i8 _ h)
  .rcases l4.mp h with h|h
   .exact(hl l h).1
   .exact M.m.lab l (i4 _ h)
 .have h:l∈Z4 s.σ++(labs t++Z4 s.tm):=h
  rcases l4.mp h with h|h
  .exact M.m.own l (i8 _ h)
  .rcases l4.mp h with h|h
   .exact(hl l h).2
   .exact M.m.own l (i4 _ h)
def MRL.down{s':Stt}(M:MRL G F.toFx ρ H σv (some v::tv) s' ts vs)(e:s'.tm=some t::r):MRL G F.toFx ρ H σv tv {s' with tm:=r} (t::ts) (v::vs):=by
 obtain⟨σ,tm,n⟩:=s'
 have e:tm=some t::r:=e
 subst e
 refine⟨MR.pop (s:=⟨σ,r,n⟩) M.m, ?_,λl h=> ?_⟩
 .erw[RDs]
  exact⟨v,vs,rfl,MR.top (s:=⟨σ,r,n⟩) M.m,M.rd⟩
 .erw[labsL] at h
  rcases l4.mp h with h|h
  .exact MR.topl (s:=⟨σ,r,n⟩) M.m l h
  .exact M.lb l h
noncomputable def wM(G:Gx)(F:Fy)(σv tv:List (Option V))(r:Res D)(Q:VK):Prop:=match r with
 | .ok t s'=> ∀ρ' v H',MRL G F.toFx ρ' H' σv tv s' [t] [v]->Q v H'
 | .ex d s'=>F.xw d s'
 | .no=>False
noncomputable def wL(G:Gx)(F:Fy)(σv tv:List (Option V))(r:Res (List D))(Q:List V->Hp->Prop):Prop:=match r with
 | .ok ts s'=> ∀ρ' vs H',MRL G F.toFx ρ' H' σv tv s' ts vs->Q vs H'
 | .ex d s'=>F.xw d s'
 | .no=>False
noncomputable def wB(G:Gx)(F:Fy)(σv tv:List (Option V))(r:Res Bool)(Q:Bool->Hp->Prop):Prop:=match r with
 | .ok b s'=> ∀ρ' H',MR G F.toFx ρ' H' σv tv s'->Q b H'
 | .ex d s'=>F.xw d s'
 | .no=>False
noncomputable def tMv(G:Gx)(F:Fy)(m:M D)(σv tv:List (Option V))(H:Hp)(Q:VK):Prop:=F.tv0<:+tv/\∃ρ s,MR G F.toFx ρ H σv tv s/\wM G F σv tv (m s) Q
noncomputable def tLv(G:Gx)(F:Fy)(m:M (List D))(σv tv:List (Option V))(H:Hp)(Q:List V->Hp->Prop):Prop:=F.tv0<:+tv/\∃ρ s,MR G F.toFx ρ H σv tv s/\wL G F σv tv (m s) Q
noncomputable def tBv(G:Gx)(F:Fy)(m:M Bool)(σv tv:List (Option V))(H:Hp)(Q:Bool->Hp->Prop):Prop:=F.tv0<:+tv/\∃ρ s,MR G F.toFx ρ H σv tv s/\wB G F σv tv (m s) Q
noncomputable def tM(G:Gx)(F:Fy)(m:M D):TE:=λ σv H Q=> ∃tv,tMv G F m σv tv H Q
noncomputable def tML(G:Gx)(F:Fy)(m:M (List D)):TA:=λ σv H Q=> ∃tv,tLv G F m σv tv H Q
noncomputable def tMB(G:Gx)(F:Fy)(m:M Bool):TT:=λ σv H Q=> ∃tv,tBv G F m σv tv H Q
noncomputable def SE(X:Cx)(G:Gx)(F:Fy)(e:bi)(m:M D):Prop:=PE X e (tM G F m)
noncomputable def SA(X:Cx)(G:Gx)(F:Fy)(es:List bi)(m:M (List D)):Prop:=PA X es (tML G F m)
noncomputable def SB(X:Cx)(G:Gx)(F:Fy)(e:bi)(m:M Bool):Prop:=PT X e (tMB G F m)
def z8y(h:F.tv0<:+tv):F.tv0<:+o::tv:=h.trans (List.suffix_cons _ _)
def zay(h:tMv G F (bd m f) σv tv H Q):tMv G F m σv tv H (λv H1=> ∃ρ1 s1 t,MRL G F.toFx ρ1 H1 σv tv s1 [t] [v]/\wM G F σv tv (f t s1) Q):=by
 obtain⟨hs,ρ,s,M,W⟩:=h
 refine⟨hs,ρ,s,M, ?_⟩
 unfold bd at W
 cases e:m s with
 |ok t s1=>rw[e] at W;exact λ ρ1 v H1 M1=>⟨ρ1,s1,t,M1,W⟩
 |ex d s1=>rw[e] at W;exact W
 |no=>rw[e] at W;exact W
noncomputable def y2(ma mb:M D)(g:D->D->M D):M D:=bd ma λx=>bd (psh x) λ_=>bd mb λy=>bd pop λx'=>g x' y
def z8z(h:tMv G F (y2 ma mb g) σv tv H Q):
 tMv G F ma σv tv H (λv H1=>tMv G F mb σv (some v::tv) H1 (λu H2=> ∃ρ2 s2 t t',MRL G F.toFx ρ2 H2 σv tv s2 [t,t'] [v,u]/\wM G F σv tv (g t t' s2) Q)):=by
 have h':=zay h
 obtain⟨hs,ρ,s,M,W⟩:=h'
 refine⟨hs,ρ,s,M, ?_⟩
 cases e:ma s with
 |ok t s1=>
  rw[e] at W
  intro ρ1 v H1 M1
  obtain⟨ρ1,s1,t,M1,W⟩:=W ρ1 v H1 M1
  refine⟨z8y hs,ρ1,s1.psh t,M1.push, ?_⟩
  erw[bd,psh] at W
  cases e2:mb (s1.psh t) with
  |ok y s2=>
   rw[e2] at W
   intro ρ2 u H2 M2
   erw[pop] at W
   cases e3:s2.tm with
   |nil=>rw[e3] at W;exact W.elim
   |cons o r=>
    cases o with
    |none=>rw[e3] at W;exact W.elim
    |some t'=>
     rw[e3] at W
     exact⟨ρ2,{s2 with tm:=r},t',y,M2.down e3,W⟩
  |ex d s2=>rw[e2] at W;exact W
  |no=>rw[e2] at W;exact W
 |ex d s1=>rw[e] at W;exact W
 |no=>rw[e] at W;exact W
noncomputable def Z9:List (M D)->M (List D)
 |[]=>rt []
 |m::ms=>bd m λx=>bd (psh x) λ_=>bd (Z9 ms) λys=>bd pop λx'=>rt (x'::ys)
end
section
variable{X:Cx}{G:Gx}{F:Fy}{e a b c:bi}{pos:bG}
def Inv.kd(I:Inv X pins σ H s):KD X.K H:=λa o e=>(I.bs a o (I.ok.mod.kin a o e)).2
def PE.imp(hk:X.K=G.K)(h:PE X e t)(hi: ∀σ H Q,t' σ H Q->t σ H (λv H'=>KD G.K H'->Q v H')):PE X e t':=λpins s σ H Q I q=>
 thn (h pins s σ H _ I (hi σ H Q q)) λu s' ⟨v,H',I',r,k⟩=>⟨v,H',I',r,k (hk▸Inv.kd I')⟩
def PT.imp(hk:X.K=G.K)(h:PT X e t)(hi: ∀σ H Q,t' σ H Q->t σ H (λv H'=>KD G.K H'->Q v H')):PT X e t':=λpins s σ H Q I q=>
 thn (h pins s σ H _ I (hi σ H Q q)) λu s' ⟨H',I',k⟩=>⟨H',I',k (hk▸Inv.kd I')⟩
def PA.imp(hk:X.K=G.K)(h:PA X es t)(hi: ∀σ H Q,t' σ H Q->t σ H (λv H'=>KD G.K H'->Q v H')):PA X es t':=λpos pins s σ H Q I q=>
 thn (h pos pins s σ H _ I (hi σ H Q q)) λu s' ⟨v,H',I',r,k⟩=>⟨v,H',I',r,k (hk▸Inv.kd I')⟩
noncomputable def za3(G:Gx)(F:Fy)(r:R2)(g:D->D->M D):Prop:= ∀ρ s t t' v u H σv tv Q,MRL G F.toFx ρ H σv tv s [t,t'] [v,u]->wM G F σv tv (g t t' s) Q->r v u H (λw H'=>KD G.K H'->Q w H')
noncomputable def z3f(G:Gx)(F:Fy)(r:R2)(g:D->D->M D):Prop:= ∀ρ s t t' v u H σv tv Q,MRL G F.toFx ρ H σv tv s [t,t'] [v,u]->wM G F σv tv (g t t' s) Q->r v u H Q
noncomputable def V7(G:Gx)(F:Fy)(r:List V->Hp->VK->Prop)(g:List D->M D):Prop:= ∀ρ s ts vs H σv tv Q,MRL G F.toFx ρ H σv tv s ts vs->wM G F σv tv (g ts s) Q->r vs H (λw H'=>KD G.K H'->Q w H')
def z8A(hk:X.K=G.K)(ho:OpR X (bW op) r)(hg:za3 G F r g)(ha:SE X G F a ma)(hb:SE X G F b mb):SE X G F (.BinOp a op b pos) (y2 ma mb g):=by
 refine PE.imp hk (zhL ho ha hb) λ σ H Q ⟨tv,h⟩=>⟨tv, ?_⟩
 obtain⟨hs,ρ,s,M,W⟩:=z8z h
 refine⟨hs,ρ,s,M, ?_⟩
 cases e:ma s with
 |ok t s1=>
  rw[e] at W
  intro ρ1 v H1 M1
  refine⟨some v::tv, ?_⟩
  obtain⟨hs2,ρ2,s2,M2,W2⟩:=W ρ1 v H1 M1
  refine⟨hs2,ρ2,s2,M2, ?_⟩
  cases e2:mb s2 with
  |ok t2 s3=>
   rw[e2] at W2
   intro ρ3 u H3 M3
   obtain⟨ρ4,s4,x,y,M4,W4⟩:=W2 ρ3 u H3 M3
   exact hg _ _ _ _ _ _ _ _ _ _ M4 W4
  |ex d s3=>rw[e2] at W2;exact W2
  |no=>rw[e2] at W2;exact W2
 |ex d s1=>rw[e] at W;exact W
 |no=>rw[e] at W;exact W
def wM.mono(h:wM G F σv tv r Q)(k: ∀v H,Q v H->Q' v H):wM G F σv tv r Q':=by
 cases r with
 |ok t s=>exact λ ρ v H M=>k _ _ (h ρ v H M)
 |ex d s=>exact h
 |no=>exact h
def tMv.mono(h:tMv G F m σv tv H Q)(k: ∀v H,Q v H->Q' v H):tMv G F m σv tv H Q':=by
 obtain⟨hs,ρ,s,M,W⟩:=h
 exact⟨hs,ρ,s,M,W.mono k⟩
def z8B{R:V->V->Hp->VK->Prop}(hg:za3 G F R g)(h:tM G F (y2 ma mb g) σv H Q):
 tM G F ma σv H λx H1=>tM G F mb σv H1 λy H2=>R x y H2 λw H'=>KD G.K H'->Q w H':=by
 obtain⟨tv,h⟩:=h
 exact⟨tv,(z8z h).mono λv H1 h1=>⟨_,h1.mono λu H2 ⟨ρ,s,t,t',M,W⟩=>hg _ _ _ _ _ _ _ _ _ _ M W⟩⟩
def z6y{R:V->V->Hp->VK->Prop}(hg:z3f G F R g)(h:tM G F (y2 ma mb g) σv H Q):
 tM G F ma σv H λx H1=>tM G F mb σv H1 λy H2=>R x y H2 Q:=by
 obtain⟨tv,h⟩:=h
 exact⟨tv,(z8z h).mono λv H1 h1=>⟨_,h1.mono λu H2 ⟨ρ,s,t,t',M,W⟩=>hg _ _ _ _ _ _ _ _ _ _ M W⟩⟩
def PE.imp0(h:PE X e t)(hi: ∀σ H Q,t' σ H Q->t σ H Q):PE X e t':=λpins s σ H Q I q=>h pins s σ H _ I (hi σ H Q q)
def PT.imp0(h:PT X e t)(hi: ∀σ H Q,t' σ H Q->t σ H Q):PT X e t':=λpins s σ H Q I q=>h pins s σ H _ I (hi σ H Q q)
def zda(ho:OpR X (bX op) r)(hg:z3f G F r g)(ha:SE X G F a ma)(hb:SE X G F b mb)(hm:bI op b=false):SE X G F (.Compare a [op] [b] pos) (y2 ma mb g):=
 PE.imp0 (zcF ho ha hb hm) λ_ _ _ h=>z6y hg h
def zib(hk:X.K=G.K)(ho:IxR X r)(hg:za3 G F r g)(ha:SE X G F a ma)(hb:SE X G F b mb)(hs:z0H b):SE X G F (.Subscript a b pos) (y2 ma mb g):=
 PE.imp hk (zhV ho ha hb hs) λ_ _ _ h=>z8B hg h
def zfy(hk:X.K=G.K):SA X G F [] (Z9 []):=by
 refine PA.imp hk zbA λ σ H Q ⟨tv,hs,ρ,s,M,W⟩ _=>W ρ [] H ⟨M,rfl,λl h=>by simp[labsL] at h⟩
noncomputable def nst:bi->Bool
 | .Starred _ _=>false
 |_=>true
def z8C(h:nst e=true):bh (e::es) env=(false,bB e env)::bh es env:=by
 cases e<;>first|rfl|exact u01 h
def zdb(hk:X.K=G.K)(ha:SE X G F e m)(hr:SA X G F es (Z9 ms))(hs:nst e=true:=by rfl):SA X G F (e::es) (Z9 (m::ms)):=by
 refine PA.imp hk (z5z ha hr (z8C hs)) λ σ H Q ⟨tv,hs,ρ,s,M,W⟩=>⟨tv,hs,ρ,s,M, ?_⟩
 unfold Z9 at W
 erw[bd,psh] at W
 cases e:m s with
 |ok t s1=>
  rw[e] at W
  intro ρ1 v H1 M1
  refine⟨some v::tv,z8y hs,ρ1,s1.psh t,M1.push, ?_⟩
  dsimp only at W
  cases e2:Z9 ms (s1.psh t) with
  |ok ys s2=>
   rw[e2] at W
   intro ρ2 us H2 M2 _
   erw[pop,rt] at W
   cases e3:s2.tm with
   |nil=>rw[e3] at W;exact W.elim
   |cons o r=>
    cases o with
    |none=>rw[e3] at W;exact W.elim
    |some t'=>
     rw[e3] at W
     exact W ρ2 (v::us) H2 (M2.down e3)
  |ex d s2=>rw[e2] at W;exact W
  |no=>rw[e2] at W;exact W
 |ex d s1=>rw[e] at W;exact W
 |no=>rw[e] at W;exact W
noncomputable def mCB(ms:List (M D))(g:List D->M D):M D:=bd (Z9 ms) g
def z2d{R:List V->Hp->VK->Prop}(hg:V7 G F R g)(h:tM G F (bd ma g) σv H Q):
 tML G F ma σv H λxs H1=>R xs H1 λw H'=>KD G.K H'->Q w H':=by
 obtain⟨tv,hs,ρ,s,M,W⟩:=h
 refine⟨tv,hs,ρ,s,M, ?_⟩
 unfold bd at W
 cases e:ma s with
 |ok ts s1=>rw[e] at W;exact λ ρ1 vs H1 M1=>hg _ _ _ _ _ _ _ _ M1 W
 |ex d s1=>rw[e] at W;exact W
 |no=>rw[e] at W;exact W
def zaz{x:Str}{p:bG}{es:List bi}{ms:List (M D)}{g:List D->M D}{id:String}{r:List V->Hp->VK->Prop}(hk:X.K=G.K)(hc:CallR X (.builtin id) r)(hg:V7 G F r g)(hgl:Gl X x)(hm:X.mg x=none)(hv:bF x=some (.builtin id))(ha:SA X G F (e::es) (Z9 ms))(hn:x≠ "__name__" :=by decide)(hdb:(x==("__debug__" :Str))=false:=by decide)
 (he:bh (e::es) X.env=(false,bB e X.env)::bh es X.env:=by rfl) (hpl:(bC pos (bh es X.env)).any (·.1)=false:=by rfl):SE X G F (.Call (.Name x p) (e::es) [] pos) (mCB ms g):=
 PE.imp hk (z6p hc hgl hm hv ha hn hdb he hpl) λ_ _ _ h=>z2d hg h
def z8D{p:bG}{r:List V->Hp->VK->Prop}(hk:X.K=G.K)(hc:CallR X (.type T) r)(hg:V7 G F r g)(hgl:Gl X x)(hm:X.mg x=none)(hv:bF x=some (.type T))(ha:SA X G F (e::es) (Z9 ms))(hn:x≠ "__name__" :=by decide)(hdb:(x==("__debug__" :Str))=false:=by decide)
 (he:bh (e::es) X.env=(false,bB e X.env)::bh es X.env:=by rfl) (hpl:(bC pos (bh es X.env)).any (·.1)=false:=by rfl):SE X G F (.Call (.Name x p) (e::es) [] pos) (mCB ms g):=
 PE.imp hk (z83 hc hgl hm hv ha hn hdb he hpl) λ_ _ _ h=>z2d hg h
noncomputable def y0(i:Nat):M D:=λs=>match s.σ[i]? with
 |some (some t)=> .ok t s
 |_=> .no
def se_var(i:Nat)(hk:X.K=G.K)(h:PE X (.Name x pos) (zhk i)):SE X G F (.Name x pos) (y0 i):=by
 refine PE.imp hk h λ σ H Q ⟨tv,hs,ρ,s,M,W⟩=> ?_
 unfold y0 at W
 cases e:s.σ[i]? with
 |none=>rw[e] at W;exact W.elim
 |some o=>
  cases o with
  |none=>rw[e] at W;exact W.elim
  |some t=>
   rw[e] at W
   obtain⟨v,h1,h2⟩:=M.sl.get i t e
   refine⟨v,h1,λ_=>W ρ v H ⟨M,RDs.one h2,λl hl=> ?_⟩⟩
   erw[labsL,l0] at hl
   have:=z1u e l hl
   exact⟨M.lab l (i8 _ this),M.own l (i8 _ this)⟩
noncomputable def cV:D->Option V
 | .non=>some .non| .bool b=>some (.bl b)| .int i=>some (.int i)| .str x=>some (.str x)|_=>none
def zaA(h:cV d=some v):RD G ρ H d v/\labs d=[]:=by
 cases d<;>erw[cV,Option.some.injEq] at h<;>first|(subst h;exact⟨by erw[RD],by erw[labs]⟩)|cases h
noncomputable def mC(d:D):M D:=rt d
def se_c(hk:X.K=G.K)(h:PE X e (tC v))(hd:cV d=some v:=by rfl):SE X G F e (mC d):=by
 refine PE.imp hk h λ σ H Q ⟨tv,hs,ρ,s,M,W⟩ _=>W ρ v H ⟨M,RDs.one (zaA hd).1,λl hl=> ?_⟩
 erw[labsL,(zaA (G:=G) (ρ:=ρ) (H:=H) hd).2] at hl
 cases hl
def wM.out{s:Stt}(W:wM G F σv tv (.ok t s) Q)(M:MR G F.toFx ρ H σv tv s)(h:RD G ρ H t v)(hl: ∀l∈labs t,l<s.n/\(F.A0 (ρ l)\/F.H0 (ρ l)=none)):Q v H:=
 W ρ v H ⟨M,RDs.one h,λl q=>hl l (by simpa only[labsL,l0] using q)⟩
def wM.flat(W:wM G F σv tv (.ok t s) Q)(M:MR G F.toFx ρ H σv tv s)(h:cV t=some v):Q v H:=
 W.out M (zaA h).1 λl q=>by rw[(zaA (G:=G) (ρ:=ρ) (H:=H) h).2] at q;cases q
end
mutual
noncomputable def er:D->PyData
 | .non=> .none| .bool b=> .bool b| .int i=> .int i| .str x=> .str x
 | .tup ds=> .tuple (erL ds)
 | .ro ds=> .list (erL ds)
 | .lst _ ds=> .list (erL ds)
 | .dct _ _ _=> .none
 | .obj _ _ _ _=> .none
 | .exc _=> .none| .fn _=> .none| .fdc _ _=> .none
noncomputable def erL:List D->List PyData
 |[]=>[]
 |d::ds=>er d::erL ds
end
mutual
noncomputable def plain:D->Bool
 | .non=>true| .bool _=>true| .int _=>true| .str _=>true
 | .tup ds=>plainL ds
 | .ro ds=>plainL ds
 | .lst _ ds=>plainL ds
 | .dct _ _ _=>false
 | .obj _ _ _ _=>false
 | .exc _=>false| .fn _=>false| .fdc _ _=>false
noncomputable def plainL:List D->Bool
 |[]=>true
 |d::ds=>plain d&&plainL ds
end
noncomputable def z7M:D->Option (List D)
 | .tup ds=>some ds| .ro ds=>some ds| .lst _ ds=>some ds|_=>none
noncomputable def zeh:D->Option (List D)
 | .ro ds=>some ds| .lst _ ds=>some ds|_=>none
section
variable{G:Gx}{F:Fy}{ρ:Nat->Addr}{H H':Hp}{σv tv:List (Option V)}{s:Stt}{t t':D}{v u:V}{ts ds:List D}{vs xs:List V}{Q:VK}
mutual
theorem RD.dp: ∀(t:D) (v:V),RD G ρ H t v->plain t=true->Dp G.K H (er t) v
 | .non,v,h,_=>by erw[RD,er,Dp] at h⊢;exact h
 | .bool b,v,h,_=>by erw[RD,er,Dp] at h⊢;exact h
 | .int b,v,h,_=>by erw[RD,er,Dp] at h⊢;exact h
 | .str b,v,h,_=>by erw[RD,er,Dp] at h⊢;exact h
 | .tup ds,v,h,p=>by
  erw[RD,er,Dp,plain] at h p⊢
  obtain⟨a,xs,e,s,r⟩:=h
  exact⟨a,xs,e,SqT.of s,RDs.dp ds xs r p⟩
 | .ro ds,v,h,p=>by
  erw[RD,er,Dp,plain] at h p⊢
  obtain⟨a,xs,e,s,r⟩:=h
  exact⟨a,xs,e,s.sq,RDs.dp ds xs r p⟩
 | .lst l ds,v,h,p=>by
  erw[RD,er,Dp,plain] at h p⊢
  obtain⟨e,xs,s,r⟩:=h
  exact⟨_,xs,e,SqL.of s,RDs.dp ds xs r p⟩
 | .dct l ks vs,v,h,p=>by erw[plain] at p;cases p
 | .fdc ks vs,v,h,p=>by erw[plain] at p;cases p
 | .obj l c ns vs,v,h,p=>by erw[plain] at p;cases p
 | .exc c,v,h,p=>by erw[plain] at p;cases p
 | .fn c,v,h,p=>by erw[plain] at p;cases p
theorem RDs.dp: ∀(t:List D) (v:List V),RDs G ρ H t v->plainL t=true->DpAll G.K H (erL t) v
 |[],v,h,_=>by erw[RDs,erL,DpAll] at h⊢;exact h
 |d::ds,v,h,p=>by
  erw[RDs,erL,DpAll,plainL,A7] at h p⊢
  obtain⟨x,r,e,h1,h2⟩:=h
  exact⟨x,r,e,RD.dp d x h1 p.1,RDs.dp ds r h2 p.2⟩
end
def RD.seq(h:RD G ρ H t v)(e:z7M t=some ds): ∃a xs,v= .ref a/\(SqL G.K H a xs\/SqT G.K H a xs)/\RDs G ρ H ds xs/\∀l∈labsL ds,l∈labs t:=by
 cases t<;>erw[z7M,Option.some.injEq] at e<;>try cases e
 .erw[RD] at h
  obtain⟨a,xs,e,s,r⟩:=h
  exact⟨a,xs,e, .inr (SqT.of s),r,λl hl=>by erw[labs];exact hl⟩
 .erw[RD] at h
  obtain⟨a,xs,e,s,r⟩:=h
  exact⟨a,xs,e, .inl s.sq,r,λl hl=>by erw[labs];exact hl⟩
 .erw[RD] at h
  obtain⟨e,xs,s,r⟩:=h
  exact⟨_,xs,e, .inl (SqL.of s),r,λl hl=>by erw[labs];exact i5 _ hl⟩
def RD.lstq(h:RD G ρ H t v)(e:zeh t=some ds): ∃a xs,v= .ref a/\SqL G.K H a xs/\RDs G ρ H ds xs/\∀l∈labsL ds,l∈labs t:=by
 cases t<;>erw[zeh,Option.some.injEq] at e<;>try cases e
 .erw[RD] at h
  obtain⟨a,xs,e,s,r⟩:=h
  exact⟨a,xs,e,s.sq,r,λl hl=>by erw[labs];exact hl⟩
 .erw[RD] at h
  obtain⟨e,xs,s,r⟩:=h
  exact⟨_,xs,e,SqL.of s,r,λl hl=>by erw[labs];exact i5 _ hl⟩
def RD.tupx(h:RD G ρ H (.tup ds) v): ∃a xs,v= .ref a/\H a=some (.tup xs)/\RDs G ρ H ds xs:=by
 erw[RD] at h;exact h
def RD.tupq(h:RD G ρ H (.tup ds) v): ∃a xs,v= .ref a/\SqT G.K H a xs/\RDs G ρ H ds xs:=by
 obtain⟨a,xs,e,s,r⟩:=h.tupx
 exact⟨a,xs,e,SqT.of s,r⟩
def RD.seqx(h:RD G ρ H t v)(e:z7M t=some ds): ∃a xs,v= .ref a/\(SqL G.K H a xs\/H a=some (.tup xs))/\RDs G ρ H ds xs/\∀l∈labsL ds,l∈labs t:=by
 cases t<;>erw[z7M,Option.some.injEq] at e<;>try cases e
 .erw[RD] at h
  obtain⟨a,xs,e,s,r⟩:=h
  exact⟨a,xs,e, .inr s,r,λl hl=>by erw[labs];exact hl⟩
 .erw[RD] at h
  obtain⟨a,xs,e,s,r⟩:=h
  exact⟨a,xs,e, .inl s.sq,r,λl hl=>by erw[labs];exact hl⟩
 .erw[RD] at h
  obtain⟨e,xs,s,r⟩:=h
  exact⟨_,xs,e, .inl (SqL.of s),r,λl hl=>by erw[labs];exact i5 _ hl⟩
def MRL.lb1(M:MRL G F.toFx ρ H σv tv s [t] [v]): ∀l∈labs t,l<s.n/\(F.A0 (ρ l)\/F.H0 (ρ l)=none):=λl h=>M.lb l (by erw[labsL,l0];exact h)
def MRL.lb2(M:MRL G F.toFx ρ H σv tv s [t,t'] [v,u]):(∀l∈labs t,l<s.n/\(F.A0 (ρ l)\/F.H0 (ρ l)=none))/\(∀l∈labs t',l<s.n/\(F.A0 (ρ l)\/F.H0 (ρ l)=none)):=
 ⟨λl h=>M.lb l (by erw[labsL,l0];exact i8 _ h),λl h=>M.lb l (by erw[labsL,l0];exact i4 _ h)⟩
noncomputable abbrev LB(F:Fx)(ρ:Nat->Addr)(n:Nat)(ls:List Nat):Prop:= ∀l∈ls,l<n/\(F.A0 (ρ l)\/F.H0 (ρ l)=none)
def z3V(W:wM G F σv tv (.ok (.tup ds) s) Q)(M:MR G F.toFx ρ H σv tv s)(r:RDs G ρ H ds xs)(lb:LB F.toFx ρ s.n (labsL ds)):zax G.K H xs (λw H'=>KD G.K H'->Q w H'):=by
 refine zax.intro λp H' sq sm k=> ?_
 exact W.out (M.same sm k) (by erw[RD];exact⟨p,xs,rfl,sq,r.same sm⟩) (by erw[labs];exact lb)
def z8E(W:wM G F σv tv (.ok (.tup ds) s) Q)(M:MR G F.toFx ρ H σv tv s)(r:RDs G ρ H ds xs)(lb:LB F.toFx ρ s.n (labsL ds))(hp:H p=none)(k:KD G.K (upd H p (.tup xs))):Q (.ref p) (upd H p (.tup xs)):=by
 have sm:=z39.new (.tup xs) hp
 exact W.out (M.same sm k) (by erw[RD];exact⟨p,xs,rfl,y8,r.same sm⟩) (by erw[labs];exact lb)
def RDs.ext(M:MR G F.toFx ρ H σv tv s)(r:RDs G ρ H ds xs)(lb:LB F.toFx ρ s.n (labsL ds))(hp:H p=none):RDs G (ext ρ s.n p) (upd H p o) ds xs:=
 RDs.stay (G6.of (z39.new o hp)) ds xs r λl hl=>⟨Q2 (lb l hl).1,λo e=>z39.new _ hp _ _ e⟩
def z0I(W:wM G F σv tv (.ok (.lst s.n ds) s.nxt) Q)(M:MR G F.toFx ρ H σv tv s)(r:RDs G ρ H ds xs)(lb:LB F.toFx ρ s.n (labsL ds))(hp:H p=none)(k:KD G.K (upd H p (.lst xs))):Q (.ref p) (upd H p (.lst xs)):=by
 refine W.out (M.new hp k) ?_ λl hl=> ?_
 .erw[RD]
  rw[J7]
  exact⟨rfl,xs,y8,RDs.ext M r lb hp⟩
 .erw[labs] at hl
  rcases l7.mp hl with q|q
  .rw[q]
   exact⟨B4 _,by rw[J7];exact .inr (M.fresh0 hp)⟩
  .obtain⟨h1,h2⟩:=lb l q
   exact⟨E9 h1,by rw[Q2 h1];exact h2⟩
end
noncomputable def zbM(ds:List D):M D:=λs=> .ok (.lst s.n ds) s.nxt
noncomputable def v6:D->D->M D
 | .int i, .int j=>rt (.int (i+j))
 | .tup a, .tup b=>if a.length+b.length<=sizeLine then rt (.tup (a++b)) else fl
 | .lst _ a, .lst _ b=>if a.length+b.length<=sizeLine then zbM (a++b) else fl
 | .str a, .str b=>if a.length+b.length<=sizeLine then rt (.str (a++b)) else fl
 |_,_=>fl
instance(i j:Int):Decidable (zaf i j):=by unfold zaf;infer_instance
instance(i j:Int):Decidable (zef i j):=by unfold zef;infer_instance
instance(i j:Int):Decidable (zeg i j):=by unfold zeg;infer_instance
noncomputable def z7h:D->D->M D
 | .int i, .int j=>if zaf i j then rt (.int (i*j)) else fl
 | .lst _ a, .int k=>if -(2^63)<=k/\k<2^63/\a.length*k.toNat<=sizeLine then zbM (u0b (m9 k.toNat a)) else fl
 | .tup a, .int k=>if 0<a.length/\2<=k/\k<2^63/\a.length*k.toNat<=sizeLine then rt (.tup (u0b (m9 k.toNat a))) else fl
 |_,_=>fl
noncomputable def z3g:D->D->M D
 | .int i, .int j=>if zef i j then rt (.int (i/j)) else fl
 |_,_=>fl
noncomputable def z24:D->D->M D
 | .int i, .int j=>if 0<j then rt (.int (i %j)) else fl
 |_,_=>fl
noncomputable def zaB:D->D->M D
 | .int i, .int j=>if zeg i j then rt (.int (i^j.toNat)) else fl
 |_,_=>fl
noncomputable def ltD:D->D->M D
 | .int i, .int j=>rt (.bool (decide (i<j)))
 |_,_=>fl
noncomputable def gtD:D->D->M D
 | .int i, .int j=>rt (.bool (decide (j<i)))
 |_,_=>fl
noncomputable def eqC(t t':D):Bool:=plain t&&plain t'&&(er t).canLay0&&(er t').canLay0&&decide (min (er t).depth (er t').depth<=60)
noncomputable def eqD(t t':D):M D:=if eqC t t'=true then rt (.bool (PyData.eqv (er t) (er t'))) else fl
noncomputable def neD(t t':D):M D:=if eqC t t'=true then rt (.bool (!PyData.eqv (er t) (er t'))) else fl
noncomputable def isN:D->D->M D
 | .non, .non=>rt (.bool true)
 |_, .non=>rt (.bool false)
 |_,_=>fl
noncomputable def zei:Option D->M D
 |some d=>rt d
 |none=>fl
noncomputable def ixG:Option (List D)->D->M D
 |some ds, .int i=>zei (atI ds i)
 |_,_=>fl
noncomputable def ixD(t t':D):M D:=ixG (z7M t) t'
section
variable{G:Gx}{F:Fy}
def wfl{A:Prop}(h:wM G F σv tv ((fl:M D) s) Q):A:=False.elim h
def z5J{i j:Int}(M:MRL G F.toFx ρ H σv tv s [.int i, .int j] [v,u]):v= .int i/\u= .int j:=by
 obtain⟨h1,h2⟩:=M.rd2
 erw[RD] at h1 h2
 exact⟨h1,h2⟩
def zfz:za3 G F (λx y H Q=>rI0 (λi j=> .int (i+j)) x y H Q\/zd6 G.K x y H Q\/zhY x y H Q\/∃i j,x= .str i/\y= .str j/\i.length+j.length<=sizeLine/\Q (.str (i++j)) H) v6:=by
 intro ρ s t t' v u H σv tv Q M W
 unfold v6 at W
 split at W
 .obtain⟨rfl,rfl⟩:=z5J M
  exact .inl ⟨_,_,rfl,rfl,λ_=>W.flat M.m rfl⟩
 .split at W
  .rename_i a b hz
   obtain⟨h1,h2⟩:=M.rd2
   obtain⟨l1,l2⟩:=M.lb2
   obtain⟨p,xs,rfl,s1,r1⟩:=h1.tupx
   obtain⟨q,ys,rfl,s2,r2⟩:=h2.tupx
   refine .inr (.inl ⟨p,q,xs,ys,rfl,rfl,s1,s2,by rw[<-r1.length,<-r2.length];exact hz,z3V W M.m (r1.append r2) ?_⟩)
   rw[j9]
   intro l hl
   rcases l4.mp hl with q|q
   .exact l1 l (by simpa only[labs] using q)
   .exact l2 l (by simpa only[labs] using q)
  .exact wfl W
 .split at W
  .rename_i la a lb b hz
   obtain⟨h1,h2⟩:=M.rd2
   obtain⟨l1,l2⟩:=M.lb2
   erw[RD] at h1 h2
   obtain⟨rfl,xs,s1,r1⟩:=h1
   obtain⟨rfl,ys,s2,r2⟩:=h2
   refine .inr (.inr (.inl ⟨_,_,xs,ys,rfl,rfl,s1,s2,by rw[<-r1.length,<-r2.length];exact hz,λp hp k=>z0I W M.m (r1.append r2) ?_ hp k⟩))
   rw[j9]
   intro l hl
   rcases l4.mp hl with q|q
   .exact l1 l (by erw[labs];exact i5 _ q)
   .exact l2 l (by erw[labs];exact i5 _ q)
  .exact wfl W
 .split at W
  .rename_i a b hz
   obtain⟨h1,h2⟩:=M.rd2
   erw[RD] at h1 h2
   subst h1 h2
   exact .inr (.inr (.inr ⟨_,_,rfl,rfl,hz,λ_=>W.flat M.m rfl⟩))
  .exact wfl W
 .exact wfl W
def zdc:za3 G F (rI zef λi j=> .int (i/j)) z3g:=by
 intro ρ s t t' v u H σv tv Q M W
 unfold z3g at W
 split at W
 .split at W
  .rename_i hc
   obtain⟨rfl,rfl⟩:=z5J M
   exact⟨_,_,rfl,rfl,hc,λ_=>W.flat M.m rfl⟩
  .exact wfl W
 .exact wfl W
def zfA:za3 G F (rI (λ_ j=>0<j) λi j=> .int (i %j)) z24:=by
 intro ρ s t t' v u H σv tv Q M W
 unfold z24 at W
 split at W
 .split at W
  .rename_i hc
   obtain⟨rfl,rfl⟩:=z5J M
   exact⟨_,_,rfl,rfl,hc,λ_=>W.flat M.m rfl⟩
  .exact wfl W
 .exact wfl W
def zfB:za3 G F (rI zeg λi j=> .int (i^j.toNat)) zaB:=by
 intro ρ s t t' v u H σv tv Q M W
 unfold zaB at W
 split at W
 .split at W
  .rename_i hc
   obtain⟨rfl,rfl⟩:=z5J M
   exact⟨_,_,rfl,rfl,hc,λ_=>W.flat M.m rfl⟩
  .exact wfl W
 .exact wfl W
def zic:z3f G F (rI0 λi j=> .bl (decide (i<j))) ltD:=by
 intro ρ s t t' v u H σv tv Q M W
 unfold ltD at W
 split at W
 .obtain⟨rfl,rfl⟩:=z5J M
  exact⟨_,_,rfl,rfl,W.flat M.m rfl⟩
 .exact wfl W
def zid:z3f G F (rI0 λi j=> .bl (decide (j<i))) gtD:=by
 intro ρ s t t' v u H σv tv Q M W
 unfold gtD at W
 split at W
 .obtain⟨rfl,rfl⟩:=z5J M
  exact⟨_,_,rfl,rfl,W.flat M.m rfl⟩
 .exact wfl W
def zie:z3f G F (zho G.K false) eqD:=by
 intro ρ s t t' v u H σv tv Q M W
 unfold eqD at W
 split at W
 .rename_i hc
  erw[eqC,A7,decide_eq_true_eq] at hc
  obtain⟨⟨⟨⟨c1,c2⟩,c3⟩,c4⟩,c5⟩:=hc
  obtain⟨h1,h2⟩:=M.rd2
  exact⟨er t,er t',RD.dp _ _ h1 c1,RD.dp _ _ h2 c2,c3,c4,c5,W.flat M.m rfl⟩
 .exact wfl W
def zif:z3f G F (zho G.K true) neD:=by
 intro ρ s t t' v u H σv tv Q M W
 unfold neD at W
 split at W
 .rename_i hc
  erw[eqC,A7,decide_eq_true_eq] at hc
  obtain⟨⟨⟨⟨c1,c2⟩,c3⟩,c4⟩,c5⟩:=hc
  obtain⟨h1,h2⟩:=M.rd2
  exact⟨er t,er t',RD.dp _ _ h1 c1,RD.dp _ _ h2 c2,c3,c4,c5,W.flat M.m rfl⟩
 .exact wfl W
def RD.non_iff(h:RD G ρ H t v):v= .non↔t= .non:=by
 cases t<;>erw[RD] at h<;>(try (subst h;simp))<;>(try (obtain⟨a,xs,rfl,_⟩:=h;simp))<;>(try (obtain⟨rfl,_⟩:=h;simp))<;>(try (obtain⟨a,o,C,rfl,_⟩:=h;simp))<;>(try (obtain⟨a,rfl,_⟩:=h;simp))
def zfC:z3f G F (λx y H Q=>y= .non/\Q (.bl (decide (x= .non))) H) isN:=by
 intro ρ s t t' v u H σv tv Q M W
 obtain⟨h1,h2⟩:=M.rd2
 have e1:=h1.non_iff
 unfold isN at W
 split at W
 .erw[RD] at h2
  exact⟨h2,by rw[decide_eq_true (e1.mpr rfl)];exact W.flat M.m rfl⟩
 .rename_i ne
  erw[RD] at h2
  exact⟨h2,by rw[decide_eq_false (λz=>ne (e1.mp z))];exact W.flat M.m rfl⟩
 .exact wfl W
def zfD{i:Int}(r:RDs G ρ H ds xs)(e:atI ds i=some d): ∃x,atI xs i=some x/\RD G ρ H d x:=by
 unfold atI at e⊢
 rw[<-r.length]
 cases e1:ixN ds.length i with
 |none=>rw[e1] at e;cases e
 |some j=>
  rw[e1] at e
  exact r.get j d e
def zdd{α:Type}{ds:List α}{i:Int}{d:α}(e:atI ds i=some d):d∈ds:=by
 unfold atI at e
 cases e1:ixN ds.length i with
 |none=>rw[e1] at e;cases e
 |some j=>
  rw[e1] at e
  exact List.mem_of_getElem? e
def zig:za3 G F (λx y H Q=>zjh G.K x y H Q\/zji G.K x y H Q) ixD:=by
 intro ρ s t t' v u H σv tv Q M W
 obtain⟨h1,h2⟩:=M.rd2
 unfold ixD at W
 cases e:z7M t with
 |none=>rw[e] at W;exact False.elim W
 |some ds=>
  rw[e] at W
  cases t' with
  |int i=>
   have W:wM G F σv tv (zei (atI ds i) s) Q:=W
   cases ea:atI ds i with
   |some d=>
    rw[ea] at W
    obtain⟨a,xs,rfl,sq,r,sub⟩:=h1.seq e
    obtain⟨x,ex,rx⟩:=zfD r ea
    erw[RD] at h2
    subst h2
    have fin:KD G.K H->Q x H:=λ_=>W.out M.m rx λl hl=>M.lb2.1 l (sub l (labsL_mem (zdd ea) l hl))
    rcases sq with sq|sq
    .exact .inl ⟨a,xs,i,x,rfl,rfl,sq,ex,fin⟩
    .exact .inr ⟨a,xs,i,x,rfl,rfl,sq,ex,fin⟩
   |none=>rw[ea] at W;exact False.elim W
  |_=>exact False.elim W
end
section
variable{X:Cx}{G:Gx}{F:Fy}{e a b c:bi}{pos:bG}
theorem RDs.flat(r:RDs G ρ H ds xs): ∀k:Nat,RDs G ρ H (m9 k ds).flatten (m9 k xs).flatten
 |0=>by simp[RDs]
 |k+1=>by
  rw[C9,C9,D3,D3]
  exact r.append (RDs.flat r k)
theorem z1H{l:Nat}: ∀k:Nat,l∈labsL (m9 k ds).flatten->l∈labsL ds
 |0,h=>by simp[labsL] at h
 |k+1,h=>by
  rw[C9,D3,j9] at h
  rcases l4.mp h with h|h
  .exact h
  .exact z1H k h
def zfE:za3 G F (λx y H Q=>rI zaf (λi j=> .int (i*j)) x y H Q\/(zhZ x y H Q\/zd8 G.K x y H Q)) z7h:=by
 intro ρ s t t' v u H σv tv Q M W
 unfold z7h at W
 split at W
 .split at W
  .rename_i hc
   obtain⟨rfl,rfl⟩:=z5J M
   exact .inl ⟨_,_,rfl,rfl,hc,λ_=>W.flat M.m rfl⟩
  .exact wfl W
 .split at W
  .rename_i la a k hc
   obtain⟨h1,h2⟩:=M.rd2
   obtain⟨l1,l2⟩:=M.lb2
   erw[RD] at h1 h2
   obtain⟨rfl,xs,s1,r1⟩:=h1
   subst h2
   refine .inr (.inl ⟨_,k,xs,rfl,rfl,s1,hc.1,hc.2.1,by rw[<-r1.length];exact hc.2.2,λp hp kd=>z0I W M.m (r1.flat _) (λl hl=> ?_) hp kd⟩)
   exact l1 l (by erw[labs];exact i5 _ (z1H _ hl))
  .exact wfl W
 .split at W
  .rename_i a k hc
   obtain⟨h1,h2⟩:=M.rd2
   obtain⟨l1,l2⟩:=M.lb2
   erw[RD] at h1 h2
   obtain⟨a',xs,rfl,s1,r1⟩:=h1
   subst h2
   refine .inr (.inr ⟨_,k,xs,rfl,rfl,SqT.of s1,by rw[<-r1.length];exact hc.1,hc.2.1,hc.2.2.1,by rw[<-r1.length];exact hc.2.2.2,λp hp kd=>z8E W M.m (r1.flat _) (λl hl=> ?_) hp kd⟩)
   exact l1 l (by erw[labs];exact z1H _ hl)
  .exact wfl W
 .exact wfl W
noncomputable def z4W{α:Type}(xs:List α)(lo hi:Option Int):List α:=(xs.drop (HT.sIx xs.length 0 lo)).take (HT.sIx xs.length xs.length hi -HT.sIx xs.length 0 lo)
noncomputable def slD:D->Option Int->Option Int->M D
 | .tup ds,lo,hi=>rt (.tup (z4W ds lo hi))
 | .lst _ ds,lo,hi=>zbM (z4W ds lo hi)
 | .ro ds,lo,hi=>zbM (z4W ds lo hi)
 |_,_,_=>fl
def RDs.cut(r:RDs G ρ H ds xs)(lo hi:Option Int):RDs G ρ H (z4W ds lo hi) (z85 xs lo hi):=by
 unfold z4W z85
 rw[r.length]
 exact(r.drop _).take _
def z2w{l:Nat}(h:l∈labsL (z4W ds lo hi)):l∈labsL ds:=by
 obtain⟨d,h1,h2⟩:=X6 h
 exact labsL_mem (List.mem_of_mem_drop (N4 h1)) l h2
noncomputable def mInt(d:D):Option Int:=match d with| .int i=>some i|_=>none
noncomputable def z3h:Option (M D)->M (Option Int)
 |none=>rt none
 |some m=>bd m λd=>match mInt d with|some i=>rt (some i)|none=>fl
noncomputable def tP(G:Gx)(F:Fy)(m:M (Option Int)):TO:=λ σv H Q=> ∃tv,F.tv0<:+tv/\∃ρ s,MR G F.toFx ρ H σv tv s/\(match m s with
 | .ok o s'=> ∀ρ' H',MR G F.toFx ρ' H' σv tv s'->Q o H'
 | .ex d s'=>F.xw d s'
 | .no=>False)
noncomputable def SO(X:Cx)(G:Gx)(F:Fy)(e:Option bi)(m:Option (M D)):Prop:=PO X e (tP G F (z3h m))
def so_none:SO X G F none none:=by
 intro pins s σ H Q I ⟨tv,hs,ρ,ms,M,W⟩
 exact zcK pins s σ H Q I (W ρ H M)
def so_some(h:SE X G F e m):SO X G F (some e) (some m):=by
 intro pins s σ H Q I ⟨tv,hs,ρ,ms,M,W⟩
 refine zcL h pins s σ H Q I ⟨tv,hs,ρ,ms,M, ?_⟩
 erw[z3h,bd] at W
 cases e1:m ms with
 |ok d s1=>
  rw[e1] at W
  intro ρ' v H' M'
  cases d with
  |int i=>
   have h:=M'.rd1
   erw[RD] at h
   exact⟨i,h,W ρ' H' M'.m⟩
  |_=>exact False.elim W
 |ex d s1=>rw[e1] at W;exact W
 |no=>rw[e1] at W;exact W
noncomputable def mSl(m:M D)(lo hi:Option (M D)):M D:=bd m λx=>bd (psh x) λ_=>bd (z3h lo) λl=>bd (z3h hi) λh=>bd pop λx'=>slD x' l h
def zih(M:MRL G F.toFx ρ H σv tv s [t] [v])(W:wM G F σv tv (slD t lo hi s) Q):
 zia G.K v lo hi H (λw H'=>KD G.K H'->Q w H')\/zhW G.K v lo hi H (λw H'=>KD G.K H'->Q w H'):=by
 have h:=M.rd1
 cases t with
 |tup ds=>
  obtain⟨p,xs,rfl,s1,r1⟩:=h.tupx
  exact .inl ⟨p,xs,rfl,s1,z3V W M.m (r1.cut lo hi) λl hl=>M.lb1 l (by erw[labs];exact z2w hl)⟩
 |lst n ds=>
  obtain⟨p,xs,rfl,s1,r1,_⟩:=h.lstq (ds:=ds) rfl
  exact .inr ⟨p,xs,rfl,s1,λq hq k=>z0I W M.m (r1.cut lo hi) (λl hl=>M.lb1 l (by erw[labs];exact i5 _ (z2w hl))) hq k⟩
 |ro ds=>
  obtain⟨p,xs,rfl,s1,r1,_⟩:=h.lstq (ds:=ds) rfl
  exact .inr ⟨p,xs,rfl,s1,λq hq k=>z0I W M.m (r1.cut lo hi) (λl hl=>M.lb1 l (by erw[labs];exact z2w hl)) hq k⟩
 |_=>exact False.elim W
def se_slice{lo hi:Option bi}{p2:bG}{m:M D}{ml mh:Option (M D)}(hk:X.K=G.K)(he:SE X G F e m)(hl:SO X G F lo ml)(hh:SO X G F hi mh):SE X G F (.Subscript e (.Slice lo hi none p2) pos) (mSl m ml mh):=by
 refine PE.imp hk (zak (r:=λx lo hi H Q=>zia X.K x lo hi H Q\/zhW X.K x lo hi H Q) (SlR.or zd5 zcP) he hl hh) λ σ H Q ⟨tv,h⟩=>⟨tv, ?_⟩
 obtain⟨hs,ρ,s,M,W⟩:=zay h
 refine⟨hs,ρ,s,M,W.mono λv H1 ⟨ρ1,s1,t,M1,W1⟩=>⟨some v::tv,z8y hs,ρ1,s1.psh t,M1.push, ?_⟩⟩
 erw[bd,psh] at W1
 cases e1:z3h ml (s1.psh t) with
 |ex d s2=>rw[e1] at W1;exact W1
 |no=>rw[e1] at W1;exact W1
 |ok l s2=>
  rw[e1] at W1
  intro ρ2 H2 M2
  refine⟨some v::tv,z8y hs,ρ2,s2,M2, ?_⟩
  dsimp only at W1
  cases e2:z3h mh s2 with
  |ex d s3=>rw[e2] at W1;exact W1
  |no=>rw[e2] at W1;exact W1
  |ok h s3=>
   rw[e2] at W1
   intro ρ3 H3 M3
   erw[pop] at W1
   cases e3:s3.tm with
   |nil=>rw[e3] at W1;exact W1.elim
   |cons o r=>
    cases o with
    |none=>rw[e3] at W1;exact W1.elim
    |some t'=>
     rw[e3] at W1
     have M4:MRL G F.toFx ρ3 H3 σ tv {s3 with tm:=r} [t'] [v]:=MRL.down (ts:=[]) (vs:=[]) ⟨M3,rfl,λl h=>by simp[labsL] at h⟩ e3
     rw[hk]
     exact zih M4 W1
noncomputable def Q1(ts:List D):M D:=if ts.length<=sizeLine then rt (.tup ts) else fl
noncomputable def lstM(ts:List D):M D:=if ts.length<=sizeLine then zbM ts else fl
def zfF:V7 G F (λxs H1 Q=>xs.length<=sizeLine/\∀p,H1 p=none->Q (.ref p) (upd H1 p (.tup xs))) Q1:=by
 intro ρ s ts vs H σv tv Q M W
 unfold Q1 at W
 split at W
 .rename_i hz
  exact⟨by rw[<-M.rd.length];exact hz,λp hp k=>z8E W M.m M.rd M.lb hp k⟩
 .exact wfl W
def zfG:V7 G F (λxs H1 Q=>xs.length<=sizeLine/\∀p,H1 p=none->Q (.ref p) (upd H1 p (.lst xs))) lstM:=by
 intro ρ s ts vs H σv tv Q M W
 unfold lstM at W
 split at W
 .rename_i hz
  exact⟨by rw[<-M.rd.length];exact hz,λp hp k=>z0I W M.m M.rd M.lb hp k⟩
 .exact wfl W
def se_tup{x1}(hk:X.K=G.K)(h:SA X G F es (Z9 ms)):SE X G F (.Tuple es x1 pos) (mCB ms Q1):=
 PE.imp hk (zeQ h) λ_ _ _ h=>z2d zfF h
def se_lst(hk:X.K=G.K)(h:SA X G F es (Z9 ms)):SE X G F (.List es pos) (mCB ms lstM):=
 PE.imp hk (zeR h) λ_ _ _ h=>z2d zfG h
noncomputable def zde:D->M Bool
 | .non=>rt false
 | .bool b=>rt b
 | .int i=>rt (i !=0)
 | .str x=>if x.length<=sizeLine then rt ((x.length:Int) !=0) else fl
 | .tup ds=>rt (!ds.isEmpty)
 | .ro ds=>rt (!ds.isEmpty)
 | .lst _ ds=>rt (!ds.isEmpty)
 |_=>fl
noncomputable def z0J(m:M D):M Bool:=bd m zde
def z1I{ds:List D}{xs:List V}(r:RDs G ρ H ds xs):(!ds.isEmpty)= !xs.isEmpty:=by
 have:=r.length
 cases ds<;>cases xs<;>simp at this⊢
def zfH{Q:Bool->Hp->Prop}(M:MRL G F.toFx ρ H σv tv s [t] [v])(W:wB G F σv tv (zde t s) Q): ∃k,TruV G.K v H k/\Q k H:=by
 have h:=M.rd1
 cases t with
 |non=>erw[RD] at h;subst h;exact⟨false,rfl,W ρ H M.m⟩
 |bool b=>erw[RD] at h;subst h;exact⟨b,rfl,W ρ H M.m⟩
 |int i=>erw[RD] at h;subst h;exact⟨_,rfl,W ρ H M.m⟩
 |str x=>
  erw[RD] at h;subst h
  unfold zde at W
  by_cases hz:x.length<=sizeLine
  .erw[if_pos hz] at W;exact⟨_,⟨hz,rfl⟩,W ρ H M.m⟩
  .erw[if_neg hz] at W;exact False.elim W
 |tup ds=>
  obtain⟨p,xs,rfl,s1,r1⟩:=h.tupq
  exact⟨_, .inr (.inl ⟨xs,s1,z1I r1⟩),W ρ H M.m⟩
 |ro ds=>
  obtain⟨p,xs,rfl,s1,r1,_⟩:=h.lstq (ds:=ds) rfl
  exact⟨_, .inl ⟨xs,s1,z1I r1⟩,W ρ H M.m⟩
 |lst n ds=>
  obtain⟨p,xs,rfl,s1,r1,_⟩:=h.lstq (ds:=ds) rfl
  exact⟨_, .inl ⟨xs,s1,z1I r1⟩,W ρ H M.m⟩
 |dct _ _ _=>exact False.elim W
 |fdc _ _=>exact False.elim W
 |obj _ _ _ _=>exact False.elim W
 |exc _=>exact False.elim W
 |fn _=>exact False.elim W
def zaC{Q:Bool->Hp->Prop}(h:tMB G F (z0J m) σ H Q):tM G F m σ H λx H'=> ∃k,TruV G.K x H' k/\Q k H':=by
 obtain⟨tv,hs,ρ,s,M,W⟩:=h
 refine⟨tv,hs,ρ,s,M, ?_⟩
 unfold z0J bd at W
 cases e:m s with
 |ok t s1=>rw[e] at W;exact λ ρ1 v H1 M1=>zfH M1 W
 |ex d s1=>rw[e] at W;exact W
 |no=>rw[e] at W;exact W
def sb_truth(hk:X.K=G.K)(ha:SE X G F a m)(he: ∀whole,fo a X.env whole=(do let v<-whole;fK a.pos;dM [v] (truthy v)):=by intro _;rfl):SB X G F a (z0J m):=by
 refine PT.imp hk (zag ha he) λ σ H Q h=> ?_
 rw[hk]
 obtain⟨tv,h'⟩:=zaC h
 exact⟨tv,h'.mono λv H1 ⟨k,q1,q2⟩=>⟨k,q1,λ_=>q2⟩⟩
noncomputable def zfI:D->M Bool
 | .bool b=>rt b
 |_=>fl
noncomputable def G7(m:M D):M Bool:=bd m zfI
def zdf{Q:Bool->Hp->Prop}(h:tMB G F (G7 m) σ H Q):tM G F m σ H λx H'=> ∃k,x= .bl k/\Q k H':=by
 obtain⟨tv,hs,ρ,s,M,W⟩:=h
 refine⟨tv,hs,ρ,s,M, ?_⟩
 unfold G7 bd at W
 cases e:m s with
 |ok t s1=>
  rw[e] at W
  intro ρ1 v H1 M1
  have h:=M1.rd1
  cases t with
  |bool b=>erw[RD] at h;exact⟨b,h,W ρ1 H1 M1.m⟩
  |_=>exact False.elim W
 |ex d s1=>rw[e] at W;exact W
 |no=>rw[e] at W;exact W
def zdg(ho:OpR X (bX op) r)(hg:z3f G F r g)(ha:SE X G F a ma)(hb:SE X G F b mb)(hm:bI op b=false):SB X G F (.Compare a [op] [b] pos) (G7 (y2 ma mb g)):=
 PT.imp0 (zcG ho ha hb hm) λ_ _ _ h=>z6y hg (zdf h)
def zdh{Q:Bool->Hp->Prop}(h:tBv G F (bd m f) σ tv H Q):tBv G F m σ tv H λb H1=> ∃ρ1 s1,MR G F.toFx ρ1 H1 σ tv s1/\wB G F σ tv (f b s1) Q:=by
 obtain⟨hs,ρ,s,M,W⟩:=h
 refine⟨hs,ρ,s,M, ?_⟩
 unfold bd at W
 cases e:m s with
 |ok b s1=>rw[e] at W;exact λ ρ1 H1 M1=>⟨ρ1,s1,M1,W⟩
 |ex d s1=>rw[e] at W;exact W
 |no=>rw[e] at W;exact W
def wB.mono{Q Q':Bool->Hp->Prop}(h:wB G F σv tv r Q)(k: ∀v H,Q v H->Q' v H):wB G F σv tv r Q':=by
 cases r with
 |ok t s=>exact λ ρ H M=>k _ _ (h ρ H M)
 |ex d s=>exact h
 |no=>exact h
def tBv.mono{Q Q':Bool->Hp->Prop}(h:tBv G F m σv tv H Q)(k: ∀v H,Q v H->Q' v H):tBv G F m σv tv H Q':=by
 obtain⟨hs,ρ,s,M,W⟩:=h
 exact⟨hs,ρ,s,M,W.mono k⟩
noncomputable def zbN{α:Type}(b:Bool)(m m':M α):M α:=match b with|true=>m|false=>m'
noncomputable def z8F(m m':M Bool):M Bool:=bd m λb=>zbN b m' (rt false)
noncomputable def mOr(m m':M Bool):M Bool:=bd m λb=>zbN b (rt true) m'
noncomputable def z7i(m:M Bool):M Bool:=bd m λb=>rt (!b)
noncomputable def SW(X:Cx)(G:Gx)(F:Fy)(e:bi)(m:M Bool):Prop:=PW X e (tMB G F m)
def SW.sb(h:SW X G F e m):SB X G F e m:=PW.pt h
def PW.imp0(h:PW X e t)(hi: ∀σ H Q,t' σ H Q->t σ H Q):PW X e t':=λwh pins s σ H Q I q=>h wh pins s σ H _ I (hi σ H Q q)
def sw_and1(h:SB X G F a m):SW X G F (.BoolOp .And [a] pos) m:=zcz h
def sw_or1(h:SB X G F a m):SW X G F (.BoolOp .Or [a] pos) m:=zey h
def sw_and{rest:List bi}{m m':M Bool}(ha:SB X G F a m)(hb:SW X G F (.BoolOp .And (b::rest) pos) m'):SW X G F (.BoolOp .And (a::b::rest) pos) (z8F m m'):=by
 refine PW.imp0 (zez ha hb) λ σ H Q ⟨tv,h⟩=>⟨tv,(zdh h).mono λb H1 ⟨ρ1,s1,M1,W⟩=> ?_⟩
 cases b with
 |true=>rw[if_pos rfl];exact⟨tv,h.1,ρ1,s1,M1,W⟩
 |false=>rw[if_neg A9];exact W ρ1 H1 M1
def sw_or{rest:List bi}{m m':M Bool}(ha:SB X G F a m)(hb:SW X G F (.BoolOp .Or (b::rest) pos) m'):SW X G F (.BoolOp .Or (a::b::rest) pos) (mOr m m'):=by
 refine PW.imp0 (zhz ha hb) λ σ H Q ⟨tv,h⟩=>⟨tv,(zdh h).mono λb H1 ⟨ρ1,s1,M1,W⟩=> ?_⟩
 cases b with
 |true=>rw[if_pos rfl];exact W ρ1 H1 M1
 |false=>rw[if_neg A9];exact⟨tv,h.1,ρ1,s1,M1,W⟩
def sb_not(ha:SB X G F a m):SB X G F (.UnaryOp .Not a pos) (z7i m):=by
 refine PT.imp0 (zeA ha) λ σ H Q ⟨tv,h⟩=>⟨tv,(zdh h).mono λb H1 ⟨ρ1,s1,M1,W⟩=>W ρ1 H1 M1⟩
noncomputable def z5K(m m':M D):M D:=bd (G7 m) λb=>zbN b m' (rt (.bool false))
noncomputable def z8G(m:M D):M D:=bd (G7 m) λb=>rt (.bool (!b))
def zbO(h:tM G F (bd (G7 m) f) σ H Q):tM G F m σ H λx H1=> ∃k,x= .bl k/\∃ρ1 s1 tv,F.tv0<:+tv/\MR G F.toFx ρ1 H1 σ tv s1/\wM G F σ tv (f k s1) Q:=by
 obtain⟨tv,hs,ρ,s,M,W⟩:=h
 refine⟨tv,hs,ρ,s,M, ?_⟩
 unfold G7 bd at W
 cases e:m s with
 |ok t s1=>
  rw[e] at W
  intro ρ1 v H1 M1
  have h:=M1.rd1
  cases t with
  |bool b=>erw[RD] at h;exact⟨b,h,ρ1,s1,tv,hs,M1.m,W⟩
  |_=>exact False.elim W
 |ex d s1=>rw[e] at W;exact W
 |no=>rw[e] at W;exact W
def tM.mono(h:tM G F m σ H Q)(k: ∀v H,Q v H->Q' v H):tM G F m σ H Q':=by
 obtain⟨tv,h⟩:=h
 exact⟨tv,h.mono k⟩
def se_one{op}(h:SE X G F a m):SE X G F (.BoolOp op [a] pos) m:=zeB h
def se_and{rest:List bi}{m m':M D}(ha:SE X G F a m)(hb:SE X G F (.BoolOp .And (b::rest) pos) m'):SE X G F (.BoolOp .And (a::b::rest) pos) (z5K m m'):=by
 refine PE.imp0 (zeC ha hb) λ σ H Q h=>(zbO h).mono λx H1 ⟨k,e,ρ1,s1,tv,hs,M1,W⟩=>⟨k,e, ?_⟩
 cases k with
 |true=>rw[if_pos rfl];exact⟨tv,hs,ρ1,s1,M1,W⟩
 |false=>rw[if_neg A9];exact W.flat M1 rfl
def se_not(ha:SE X G F a m):SE X G F (.UnaryOp .Not a pos) (z8G m):=by
 refine PE.imp0 (zeD ha) λ σ H Q h=>(zbO h).mono λx H1 ⟨k,e,ρ1,s1,tv,hs,M1,W⟩=>⟨k,e,W.flat M1 rfl⟩
end
noncomputable def U3:List D->M D
 |[.tup ds]=>rt (.int ds.length)
 |[.ro ds]=>rt (.int ds.length)
 |[.lst _ ds]=>rt (.int ds.length)
 |_=>fl
noncomputable def zej:List D->M D
 |[.int i]=>rt (.int (if i<0 then -i else i))
 |_=>fl
noncomputable def zdi:List D->M D
 |[.int i, .int j]=>rt (.int (if j<i then j else i))
 |_=>fl
noncomputable def zek:List D->M D
 |[.int i, .int j]=>rt (.int (if j>i then j else i))
 |_=>fl
noncomputable def X5:List D->Option (List Bool)
 |[]=>some []
 | .bool b::r=>(X5 r).map (b:: ·)
 |_=>none
noncomputable def zaD:List D->M D
 |[.lst _ ds]=>match X5 ds with|some bs=>rt (.bool (bs.all id))|none=>fl
 |_=>fl
noncomputable def zel:List D->M D
 |[.lst _ ds]=>match X5 ds with|some bs=>rt (.bool (bs.any id))|none=>fl
 |_=>fl
noncomputable def za4:List D->M D
 |[.int i]=>rt (.int i)
 |[.bool b]=>rt (.int (if b then 1 else 0))
 |_=>fl
noncomputable def z6z:List D->M D
 |[.tup ds]=>rt (.tup ds)
 |[.ro ds]=>rt (.tup ds)
 |[.lst _ ds]=>rt (.tup ds)
 |_=>fl
noncomputable def z3i:List D->M D
 |[.tup ds]=>zbM ds
 |[.ro ds]=>zbM ds
 |[.lst _ ds]=>zbM ds
 |_=>fl
section
variable{X:Cx}{G:Gx}{F:Fy}{e a b c:bi}{pos:bG}
def MRL.one{s:Stt}(M:MRL G F.toFx ρ H σv tv s [t] vs): ∃v,vs=[v]/\RD G ρ H t v/\LB F.toFx ρ s.n (labs t):=by
 have h:=M.rd
 erw[RDs] at h
 obtain⟨v,r,rfl,h,rfl⟩:=h
 exact⟨v,rfl,h,M.lb1⟩
def MRL.two(M:MRL G F.toFx ρ H σv tv s [t,t'] vs): ∃v u,vs=[v,u]/\RD G ρ H t v/\RD G ρ H t' u:=by
 have h:=M.rd
 erw[RDs] at h
 obtain⟨v,r,rfl,h,u,q,rfl,h',rfl⟩:=h
 exact⟨v,u,rfl,h,h'⟩
def zfJ:V7 G F (λxs H Q=> ∃p ys,xs=[.ref p]/\(SqL G.K H p ys\/SqT G.K H p ys)/\Q (.int ys.length) H) U3:=by
 intro ρ s ts vs H σv tv Q M W
 unfold U3 at W
 split at W
 .obtain⟨v,rfl,h,_⟩:=M.one
  obtain⟨p,xs,rfl,s1,r1,_⟩:=h.seq rfl
  exact⟨p,xs,rfl,s1,λ_=>by rw[<-r1.length];exact W.flat M.m rfl⟩
 .obtain⟨v,rfl,h,_⟩:=M.one
  obtain⟨p,xs,rfl,s1,r1,_⟩:=h.seq rfl
  exact⟨p,xs,rfl,s1,λ_=>by rw[<-r1.length];exact W.flat M.m rfl⟩
 .obtain⟨v,rfl,h,_⟩:=M.one
  obtain⟨p,xs,rfl,s1,r1,_⟩:=h.seq rfl
  exact⟨p,xs,rfl,s1,λ_=>by rw[<-r1.length];exact W.flat M.m rfl⟩
 .exact wfl W
def zfK:V7 G F (λxs H Q=> ∃i,xs=[.int i]/\Q (.int (if i<0 then -i else i)) H) zej:=by
 intro ρ s ts vs H σv tv Q M W
 unfold zej at W
 split at W
 .obtain⟨v,rfl,h,_⟩:=M.one
  erw[RD] at h
  subst h
  exact⟨_,rfl,λ_=>W.flat M.m rfl⟩
 .exact wfl W
def zfL:V7 G F (λxs H Q=> ∃i j,xs=[.int i, .int j]/\Q (.int (if j<i then j else i)) H) zdi:=by
 intro ρ s ts vs H σv tv Q M W
 unfold zdi at W
 split at W
 .obtain⟨v,u,rfl,h,h'⟩:=M.two
  erw[RD] at h h'
  subst h h'
  exact⟨_,_,rfl,λ_=>W.flat M.m rfl⟩
 .exact wfl W
def zfM:V7 G F (λxs H Q=> ∃i j,xs=[.int i, .int j]/\Q (.int (if j>i then j else i)) H) zek:=by
 intro ρ s ts vs H σv tv Q M W
 unfold zek at W
 split at W
 .obtain⟨v,u,rfl,h,h'⟩:=M.two
  erw[RD] at h h'
  subst h h'
  exact⟨_,_,rfl,λ_=>W.flat M.m rfl⟩
 .exact wfl W
theorem z3W: ∀{ds:List D} {xs:List V} {bs:List Bool},RDs G ρ H ds xs->X5 ds=some bs->xs=bs.map V.bl
 |[],xs,bs,r,e=>by erw[RDs] at r;erw[X5,Option.some.injEq] at e;subst r e;rfl
 |d::ds,xs,bs,r,e=>by
  erw[RDs] at r
  obtain⟨x,q,rfl,h1,h2⟩:=r
  cases d with
  |bool b=>
   erw[X5] at e
   cases e1:X5 ds with
   |none=>rw[e1] at e;cases e
   |some cs=>
    rw[e1] at e
    cases e
    erw[RD] at h1
    rw[h1,z3W h2 e1];rfl
  |_=>erw[X5] at e;cases e
def zfN:V7 G F (λxs H Q=> ∃(p:Addr) (bs:List Bool),xs=[.ref p]/\SqL G.K H p (bs.map V.bl)/\Q (.bl (bs.all id)) H) zaD:=by
 intro ρ s ts vs H σv tv Q M W
 unfold zaD at W
 split at W
 .rename_i l ds
  cases e1:X5 ds with
  |none=>rw[e1] at W;exact False.elim W
  |some bs=>
   rw[e1] at W
   obtain⟨v,rfl,h,_⟩:=M.one
   obtain⟨p,xs,rfl,s1,r1,_⟩:=h.lstq (ds:=ds) rfl
   rw[z3W r1 e1] at s1
   exact⟨p,bs,rfl,s1,λ_=>W.flat M.m rfl⟩
 .exact wfl W
def zfO:V7 G F (λxs H Q=> ∃(p:Addr) (bs:List Bool),xs=[.ref p]/\SqL G.K H p (bs.map V.bl)/\Q (.bl (bs.any id)) H) zel:=by
 intro ρ s ts vs H σv tv Q M W
 unfold zel at W
 split at W
 .rename_i l ds
  cases e1:X5 ds with
  |none=>rw[e1] at W;exact False.elim W
  |some bs=>
   rw[e1] at W
   obtain⟨v,rfl,h,_⟩:=M.one
   obtain⟨p,xs,rfl,s1,r1,_⟩:=h.lstq (ds:=ds) rfl
   rw[z3W r1 e1] at s1
   exact⟨p,bs,rfl,s1,λ_=>W.flat M.m rfl⟩
 .exact wfl W
def zfP:V7 G F (λxs H Q=>(∃i,xs=[.int i]/\Q (.int i) H)\/∃k,xs=[.bl k]/\Q (.int (if k then 1 else 0)) H) za4:=by
 intro ρ s ts vs H σv tv Q M W
 unfold za4 at W
 split at W
 .obtain⟨v,rfl,h,_⟩:=M.one
  erw[RD] at h
  subst h
  exact .inl ⟨_,rfl,λ_=>W.flat M.m rfl⟩
 .obtain⟨v,rfl,h,_⟩:=M.one
  erw[RD] at h
  subst h
  exact .inr ⟨_,rfl,λ_=>W.flat M.m rfl⟩
 .exact wfl W
def zdj:V7 G F (λxs H Q=> ∃(p:Addr) (ys:List V),xs=[.ref p]/\(SqL G.K H p ys\/H p=some (.tup ys))/\zax G.K H ys Q) z6z:=by
 intro ρ s ts vs H σv tv Q M W
 have fin: ∀(t:D) (ds:List D),ts=[t]->z7M t=some ds->wM G F σv tv (.ok (.tup ds) s) Q->∃(p:Addr) (ys:List V),vs=[.ref p]/\(SqL G.K H p ys\/H p=some (.tup ys))/\zax G.K H ys (λw H'=>KD G.K H'->Q w H'):=λt ds et es W'=>by
  subst et
  obtain⟨v,rfl,h,lb⟩:=M.one
  obtain⟨p,xs,rfl,s1,r1,sub⟩:=h.seqx es
  exact⟨p,xs,rfl,s1,z3V W' M.m r1 λl hl=>lb l (sub l hl)⟩
 unfold z6z at W
 split at W
 .exact fin _ _ rfl rfl W
 .exact fin _ _ rfl rfl W
 .exact fin _ _ rfl rfl W
 .exact wfl W
def zaE:V7 G F (λxs H Q=> ∃p ys,xs=[.ref p]/\(SqL G.K H p ys\/SqT G.K H p ys)/\∀l,H l=none->Q (.ref l) (upd H l (.lst ys))) z3i:=by
 intro ρ s ts vs H σv tv Q M W
 have fin: ∀(t:D) (ds:List D),ts=[t]->z7M t=some ds->wM G F σv tv (.ok (.lst s.n ds) s.nxt) Q->∃p ys,vs=[.ref p]/\(SqL G.K H p ys\/SqT G.K H p ys)/\∀l,H l=none->KD G.K (upd H l (.lst ys))->Q (.ref l) (upd H l (.lst ys)):=λt ds et es W'=>by
  subst et
  obtain⟨v,rfl,h,lb⟩:=M.one
  obtain⟨p,xs,rfl,s1,r1,sub⟩:=h.seq es
  exact⟨p,xs,rfl,s1,λl hl k=>z0I W' M.m r1 (λl hl=>lb l (sub l hl)) hl k⟩
 unfold z3i at W
 split at W
 .exact fin _ _ rfl rfl W
 .exact fin _ _ rfl rfl W
 .exact fin _ _ rfl rfl W
 .exact wfl W
noncomputable def isiD(T:String):D->Option Bool
 | .non=>some false
 | .bool _=>some (T== "int" ||T== "bool")
 | .int _=>some (T== "int")
 | .str _=>some (T== "str")
 | .tup _=>some (T== "tuple")
 | .ro _=>some (T== "list")
 | .lst _ _=>some (T== "list")
 |_=>none
noncomputable def za5(T:String)(m:M D):M D:=bd m λd=>match isiD T d with|some b=>rt (.bool b)|none=>fl
def zfQ{b:Bool}(h:RD G ρ H t v)(e:isiD T t=some b):zjl G.K H T b v:=by
 cases t<;>erw[isiD,Option.some.injEq] at e<;>try cases e
 .erw[RD] at h;subst h;exact rfl
 .erw[RD] at h;subst h;exact rfl
 .erw[RD] at h;subst h;exact rfl
 .erw[RD] at h;subst h;exact rfl
 .obtain⟨p,xs,rfl,s1,r1⟩:=h.tupq
  exact .inl ⟨xs,s1,rfl⟩
 .obtain⟨p,xs,rfl,s1,r1,_⟩:=h.lstq rfl
  exact .inr ⟨xs,s1,rfl⟩
 .obtain⟨p,xs,rfl,s1,r1,_⟩:=h.lstq rfl
  exact .inr ⟨xs,s1,rfl⟩
def se_isi{p:bG}(hk:X.K=G.K)(hT:T= "int" \/T= "bool" \/T= "tuple" \/T= "list" \/T= "str")(hgl:Gl X "isinstance")(hm:X.mg "isinstance" =none)(ha:SE X G F x m)(hy:PE X y (tC (.ty T)))
 (he:bh [x,y] X.env=(false,bB x X.env)::bh [y] X.env:=by rfl) (he2:bh [y] X.env=(false,bB y X.env)::bh [] X.env:=by rfl) (hpl:(bC pos (bh [y] X.env)).any (·.1)=false:=by rfl):SE X G F (.Call (.Name "isinstance" p) [x,y] [] pos) (za5 T m):=by
 refine PE.imp hk (z6p zav hgl hm PyProof.Rows.Boot.«isinstance» (z5z ha (z5z hy zbA he2) he) (by decide) (by decide) he hpl) λ σ H Q ⟨tv,h⟩=>⟨tv,(zay h).mono λv H1 ⟨ρ1,s1,t,M1,W⟩=> ?_⟩
 cases e:isiD T t with
 |none=>erw[e] at W;exact False.elim W
 |some b=>
  erw[e] at W
  rw[hk]
  exact⟨v,T,b,rfl,hT,zfQ M1.rd1 e,λ_=>W.flat M1.m rfl⟩
end
inductive RS where
 |nx (s:Stt)|rt (d:D) (s:Stt)|bk (s:Stt)|ct (s:Stt)|ex (d:D) (s:Stt)|no
noncomputable abbrev MS:=Stt->RS
noncomputable def z0K{α:Type}(m:M α)(f:α->MS):MS:=λs=>match m s with
 | .ok a s'=>f a s'
 | .ex d s'=> .ex d s'
 | .no=> .no
noncomputable def Z3(m m':MS):MS:=λs=>match m s with
 | .nx s'=>m' s'
 |r=>r
noncomputable def sNx:MS:=λs=> .nx s
noncomputable def J8(m:M D):MS:=z0K m λ_=>sNx
noncomputable def z0e(m:M D):MS:=z0K m λd s=> .rt d s
noncomputable def zbP(b:Bool)(m m':MS):MS:=match b with|true=>m|false=>m'
noncomputable def sIf(c:M Bool)(m m':MS):MS:=z0K c λb=>zbP b m m'
inductive Tg where
 |nm (i:Nat)|tp (ts:List Tg)
mutual
noncomputable def asg:Tg->D->List (Option D)->Option (List (Option D))
 | .nm i,t,σ=>some (σ.set i (some t))
 | .tp ts, .tup ds,σ=>asgL ts ds σ
 | .tp ts, .lst _ ds,σ=>asgL ts ds σ
 | .tp _,_,_=>none
noncomputable def asgL:List Tg->List D->List (Option D)->Option (List (Option D))
 |[],[],σ=>some σ
 |t::ts,d::ds,σ=>match asg t d σ with|some σ'=>asgL ts ds σ'|none=>none
 |_,_,_=>none
end
noncomputable def Y5(g:Tg)(m:M D):MS:=z0K m λd s=>match asg g d s.σ with
 |some σ'=> .nx {s with σ:=σ'}
 |none=> .no
section
variable{X:Cx}{G:Gx}{F:Fy}{e a b c:bi}{st:Stmt}{sts rest:List Stmt}{pos:bG}
noncomputable def wS(G:Gx)(F:Fy)(tv:List (Option V))(r:RS)(D:z5u):Prop:=match r with
 | .nx s'=> ∀ρ' σv' H',MR G F.toFx ρ' H' σv' tv s'->D.nx σv' H'
 | .rt t s'=> ∀ρ' σv' v H',MRL G F.toFx ρ' H' σv' tv s' [t] [v]->D.rt v H'
 | .bk s'=> ∀ρ' σv' H',MR G F.toFx ρ' H' σv' tv s'->D.bk σv' H'
 | .ct s'=> ∀ρ' σv' H',MR G F.toFx ρ' H' σv' tv s'->D.ct σv' H'
 | .ex d s'=>F.xw d s'
 | .no=>False
noncomputable def tSv(G:Gx)(F:Fy)(m:MS)(tv:List (Option V))(D:z5u)(σv:St)(H:Hp):Prop:=F.tv0<:+tv/\∃ρ s,MR G F.toFx ρ H σv tv s/\wS G F tv (m s) D
noncomputable def tS(G:Gx)(F:Fy)(m:MS):TS:=λD σv H=> ∃tv,tSv G F m tv D σv H
noncomputable def SS(X:Cx)(G:Gx)(F:Fy)(st:Stmt)(m:MS):Prop:=PS X st (tS G F m)
noncomputable def SSs(X:Cx)(G:Gx)(F:Fy)(sts:List Stmt)(m:MS):Prop:=PSs X sts (tS G F m)
def PS.imp0(h:PS X st t)(hi: ∀D σ H,t' D σ H->t D σ H):PS X st t':=λpins s σ H D I q=>h pins s σ H D I (hi D σ H q)
def PSs.imp0(h:PSs X sts t)(hi: ∀D σ H,t' D σ H->t D σ H):PSs X sts t':=λpins s σ H D I q=>h pins s σ H D I (hi D σ H q)
def ss_nil:SSs X G F [] sNx:=PSs.imp0 zcA λD σ H ⟨tv,hs,ρ,s,M,W⟩=>W ρ σ H M
def ss_cons(h1:SS X G F st m)(h2:SSs X G F rest m'):SSs X G F (st::rest) (Z3 m m'):=by
 refine PSs.imp0 (zab h1 h2) λD σ H ⟨tv,hs,ρ,s,M,W⟩=>⟨tv,hs,ρ,s,M, ?_⟩
 unfold Z3 at W
 cases e:m s with
 |nx s'=>rw[e] at W;exact λ ρ' σv' H' M'=>⟨tv,hs,ρ',s',M',W⟩
 |rt d s'=>rw[e] at W;exact W
 |bk s'=>rw[e] at W;exact W
 |ct s'=>rw[e] at W;exact W
 |ex d s'=>rw[e] at W;exact W
 |no=>rw[e] at W;exact W
def ss_one(h1:SS X G F st m):SSs X G F [st] m:=zcB h1
def z0X{m:M D}{f:D->MS}{tv:List (Option V)}{D:z5u}{σ:St}{H:Hp}(h:tSv G F (z0K m f) tv D σ H):tMv G F m σ tv H λv H1=> ∃ρ1 s1 t,MRL G F.toFx ρ1 H1 σ tv s1 [t] [v]/\wS G F tv (f t s1) D:=by
 obtain⟨hs,ρ,s,M,W⟩:=h
 refine⟨hs,ρ,s,M, ?_⟩
 unfold z0K at W
 cases e:m s with
 |ok t s1=>rw[e] at W;exact λ ρ1 v H1 M1=>⟨ρ1,s1,t,M1,W⟩
 |ex d s1=>rw[e] at W;exact W
 |no=>rw[e] at W;exact W
def z4X{m:M Bool}{f:Bool->MS}{tv:List (Option V)}{D:z5u}{σ:St}{H:Hp}(h:tSv G F (z0K m f) tv D σ H):tBv G F m σ tv H λb H1=> ∃ρ1 s1,MR G F.toFx ρ1 H1 σ tv s1/\wS G F tv (f b s1) D:=by
 obtain⟨hs,ρ,s,M,W⟩:=h
 refine⟨hs,ρ,s,M, ?_⟩
 unfold z0K at W
 cases e:m s with
 |ok t s1=>rw[e] at W;exact λ ρ1 H1 M1=>⟨ρ1,s1,M1,W⟩
 |ex d s1=>rw[e] at W;exact W
 |no=>rw[e] at W;exact W
def ss_expr(he:SE X G F e m)(hs:bO e none pos.line X.env=pure false:=by rfl):SS X G F (.Expr e pos) (J8 m):=
 PS.imp0 (zcC he hs) λD σ H ⟨tv,h⟩=>⟨tv,(z0X h).mono λv H1 ⟨ρ1,s1,t,M1,W⟩=>W ρ1 σ H1 M1.m⟩
def ss_ret(he:SE X G F e m):SS X G F (.Return (some e) pos) (z0e m):=
 PS.imp0 (zeE he) λD σ H ⟨tv,h⟩=>⟨tv,(z0X h).mono λv H1 ⟨ρ1,s1,t,M1,W⟩=>W ρ1 σ v H1 M1⟩
def ss_if(hc:SB X G F c mc)(ha:SSs X G F x m)(hb:SSs X G F y m'):SS X G F (.If c x y pos) (sIf mc m m'):=by
 refine PS.imp0 (zhE hc ha hb) λD σ H ⟨tv,h⟩=>⟨tv,(z4X h).mono λk H1 ⟨ρ1,s1,M1,W⟩=> ?_⟩
 cases k with
 |true=>rw[if_pos rfl];exact⟨tv,h.1,ρ1,s1,M1,W⟩
 |false=>rw[if_neg A9];exact⟨tv,h.1,ρ1,s1,M1,W⟩
noncomputable def tGn(G:Gx)(F:Fy)(g:Tg):TG:=λv σv H Q=> ∃tv ρ s t,MRL G F.toFx ρ H σv tv s [t] [v]/\∃σ',asg g t s.σ=some σ'/\∀σv',MR G F.toFx ρ H σv' tv {s with σ:=σ'}->Q σv' H
noncomputable def tGs(G:Gx)(F:Fy)(g:List Tg):TGs:=λvs σv H Q=> ∃tv ρ s ts,MRL G F.toFx ρ H σv tv s ts vs/\∃σ',asgL g ts s.σ=some σ'/\∀σv',MR G F.toFx ρ H σv' tv {s with σ:=σ'}->Q σv' H
noncomputable def SG(X:Cx)(G:Gx)(F:Fy)(tg:bi)(g:Tg):Prop:=PG X tg (tGn G F g)
noncomputable def SGs(X:Cx)(G:Gx)(F:Fy)(tgs:List bi)(g:List Tg):Prop:=PGs X tgs (tGs G F g)
def MRL.setS{σv tv:List (Option V)}(i:Nat)(M:MRL G F.toFx ρ H σv tv s (t::ts) (v::vs)):MRL G F.toFx ρ H (σv.set i (some v)) tv {s with σ:=s.σ.set i (some t)} ts vs:=by
 have h:=M.rd
 erw[RDs] at h
 obtain⟨_,_,e,h1,h2⟩:=h
 cases e
 have lb1: ∀l∈labs t,l<s.n/\(F.A0 (ρ l)\/F.H0 (ρ l)=none):=λl h=>M.lb l (by erw[labsL];exact i8 _ h)
 have all: ∀l∈G9 {s with σ:=s.σ.set i (some t)},l<s.n/\(F.A0 (ρ l)\/F.H0 (ρ l)=none):=λl h=>by
  rcases l4.mp h with h|h
  .rcases z2v l h with q|q
   .exact⟨M.m.lab l (i8 _ q),M.m.own l (i8 _ q)⟩
   .exact lb1 l q
  .exact⟨M.m.lab l (i4 _ h),M.m.own l (i4 _ h)⟩
 exact⟨⟨M.m.sl.set i h1,M.m.tm,M.m.inj,M.m.dom,λl h=>(all l h).1,λl h=>(all l h).2,M.m.frm,M.m.kd,M.m.frb,M.m.bas⟩,h2,λl h=>M.lb l (by erw[labsL];exact i4 _ h)⟩
def sg_name{i:Nat}(h:PG X (.Name x p) (z72 i)):SG X G F (.Name x p) (.nm i):=by
 intro pins s σ H v u Q I r ⟨tv,ρ,ms,t,M,σ',e,k⟩
 erw[asg,Option.some.injEq] at e
 subst e
 exact h pins s σ H v u Q I r (k _ (M.setS i).m)
def sgs_nil:SGs X G F [] []:=by
 intro pins s σ H vs us Q I r ⟨tv,ρ,ms,ts,M,σ',e,k⟩
 cases ts with
 |nil=>
  erw[asgL,Option.some.injEq] at e
  subst e
  have h:=M.rd
  erw[RDs] at h
  exact zcD pins s σ H vs us Q I r ⟨h,k _ M.m⟩
 |cons d ds=>erw[asgL] at e;cases e
def MRL.cons_inv{s:Stt}(M:MRL G F.toFx ρ H σv tv s (t::ts) vs): ∃v r,vs=v::r/\MRL G F.toFx ρ H σv tv s [t] [v]/\RDs G ρ H ts r/\LB F.toFx ρ s.n (labsL ts):=by
 have h:=M.rd
 erw[RDs] at h
 obtain⟨v,r,rfl,h1,h2⟩:=h
 exact⟨v,r,rfl,⟨M.m,RDs.one h1,λl h=>M.lb l (by erw[labsL,l0] at h⊢;exact i8 _ h)⟩,h2,λl h=>M.lb l (by erw[labsL];exact i4 _ h)⟩
def PGs.imp0(h:PGs X es t)(hi: ∀vs σ H Q,t' vs σ H Q->t vs σ H Q):PGs X es t':=λpins s σ H vs us Q I r q=>h pins s σ H vs us Q I r (hi vs σ H Q q)
def PG.imp0(h:PG X e t)(hi: ∀v σ H Q,t' v σ H Q->t v σ H Q):PG X e t':=λpins s σ H v u Q I r q=>h pins s σ H v u Q I r (hi v σ H Q q)
def sgs_cons(h1:SG X G F e g)(h2:SGs X G F es gs)(hs:(bu (e::es) X.env).map (·.2)=cE e X.env::(bu es X.env).map (·.2):=by rfl):SGs X G F (e::es) (g::gs):=by
 refine PGs.imp0 (zac h1 h2 hs) λvs σv H Q ⟨tv,ρ,s,ts,M,σ',e,k⟩=> ?_
 cases ts with
 |nil=>erw[asgL] at e;cases e
 |cons d ds=>
  erw[asgL] at e
  cases e1:asg g d s.σ with
  |none=>rw[e1] at e;cases e
  |some σ1=>
   rw[e1] at e
   obtain⟨v,r,rfl,M1,h2,lb⟩:=M.cons_inv
   exact⟨v,r,rfl,tv,ρ,s,d,M1,σ1,e1,λ σv1 M2=>⟨tv,ρ,{s with σ:=σ1},ds,⟨M2,h2,lb⟩,σ',e,k⟩⟩
def sg_tup{k:Nat}{gs:List Tg}(hk:X.K=G.K)(hc:X.calm=true)(h:SGs X G F es gs)(hn:(bu es X.env).length=gs.length:=by rfl)(hst:(bu es X.env).findIdx? (·.1)=none:=by rfl):SG X G F (.Tuple es k pos) (.tp gs):=by
 refine PG.imp0 (zfx hc h hn hst) λv σv H Q ⟨tv,ρ,s,t,M,σ',e,kk⟩=> ?_
 have len: ∀{gs:List Tg} {ds:List D} {σ σ':List (Option D)},asgL gs ds σ=some σ'->ds.length=gs.length:=by
  intro gs
  induction gs with
  |nil=>intro ds σ σ' e;cases ds with
   |nil=>rfl
   |cons _ _=>erw[asgL] at e;cases e
  |cons g gs ih=>intro ds σ σ' e;cases ds with
   |nil=>erw[asgL] at e;cases e
   |cons d ds=>
    erw[asgL] at e
    cases e1:asg g d σ with
    |none=>rw[e1] at e;cases e
    |some σ1=>rw[e1] at e;rw[A3,A3,ih e]
 cases t with
 |tup ds=>
  erw[asg] at e
  obtain⟨a,xs,rfl,sq,r⟩:=M.rd1.tupq
  refine⟨a,xs,rfl, .inl (hk▸sq),by rw[<-r.length];exact len e,tv,ρ,s,ds,⟨M.m,r,λl h=>M.lb1 l (by erw[labs];exact h)⟩,σ',e,kk⟩
 |lst l ds=>
  erw[asg] at e
  obtain⟨a,xs,rfl,sq,r,sub⟩:=M.rd1.lstq (ds:=ds) rfl
  refine⟨a,xs,rfl, .inr (hk▸sq),by rw[<-r.length];exact len e,tv,ρ,s,ds,⟨M.m,r,λl h=>M.lb1 l (sub l h)⟩,σ',e,kk⟩
 |_=>erw[asg] at e;cases e
def ss_asg(he:SE X G F e m)(hg:SG X G F tg g)(hs:cu [tg] e pos.line X.env=pure false:=by rfl)(hw:cw [tg] e X.env=pure none:=by rfl)
 (h1:(bu [tg] X.env).map (·.2)=[cE tg X.env]:=by rfl):SS X G F (.Assign [tg] e pos) (Y5 g m):=by
 refine PS.imp0 (zby he hg hs hw h1) λD σ H ⟨tv,h⟩=>⟨tv,(z0X h).mono λv H1 ⟨ρ1,s1,t,M1,W⟩=> ?_⟩
 cases e:asg g t s1.σ with
 |none=>erw[e] at W;exact False.elim W
 |some σ'=>
  erw[e] at W
  exact⟨tv,ρ1,s1,t,M1,σ',e,λ σv' M2=>W ρ1 σv' H1 M2⟩
def ss_set{i:Nat}(h: ∀{te:TE},PE X e te->PS X (.Assign [.Name x p] e pos) (zhl te (z72 i)))(he:SE X G F e m):SS X G F (.Assign [.Name x p] e pos) (Y5 (.nm i) m):=by
 refine PS.imp0 (h he) λD σ H ⟨tv,h⟩=>⟨tv,(z0X h).mono λv H1 ⟨ρ1,s1,t,M1,W⟩=> ?_⟩
 erw[asg] at W
 exact W ρ1 _ H1 (M1.setS i).m
noncomputable def Q0(c:M Bool)(b:MS):Nat->MS
 |0=>λ_=> .no
 |f+1=>z0K c λk=>zbP k (λs=>match b s with
  | .nx s'=>Q0 c b f s'
  | .ct s'=>Q0 c b f s'
  | .bk s'=> .nx s'
  | .rt d s'=> .rt d s'
  | .ex d s'=> .ex d s'
  | .no=> .no) sNx
noncomputable def z18(fuel:Stt->Nat)(c:M Bool)(b:MS):MS:=λs=>Q0 c b (fuel s) s
def ss_while(hp:cq (bn X.prog X.w) X.A X.env X.xe)(hc:SB X G F c mc)(hb:SSs X G F body mb):SS X G F (.While c body [] pos) (z18 fuel mc mb):=by
 refine PS.imp0 (zad hp hc hb) λD σ H ⟨tv,hs,ρ,s,M,W⟩=> ?_
 refine⟨λm σ H=>tSv G F (Q0 mc mb m) tv D σ H,⟨fuel s,hs,ρ,s,M,W⟩,λm σ H h=> ?_⟩
 cases m with
 |zero=>obtain⟨_,_,_,_,W⟩:=h;exact False.elim W
 |succ f=>
  refine⟨tv,(z4X h).mono λk H1 ⟨ρ1,s1,M1,W1⟩=> ?_⟩
  cases k with
  |false=>rw[if_neg A9];exact W1 ρ1 σ H1 M1
  |true=>
   rw[if_pos rfl]
   refine⟨λ σ' H'=>tSv G F (Q0 mc mb f) tv D σ' H',λ σ' H' q=>⟨f,B4 _,q⟩,tv,hs,ρ1,s1,M1, ?_⟩
   erw[zbP] at W1
   cases e:mb s1 with
   |nx s'=>rw[e] at W1;exact λ ρ' σv' H' M'=>⟨hs,ρ',s',M',W1⟩
   |ct s'=>rw[e] at W1;exact λ ρ' σv' H' M'=>⟨hs,ρ',s',M',W1⟩
   |bk s'=>rw[e] at W1;exact W1
   |rt d s'=>rw[e] at W1;exact W1
   |ex d s'=>rw[e] at W1;exact W1
   |no=>rw[e] at W1;exact W1
end
end Mi
namespace L2
open PySem PySem.Spec PyProof.Rows
noncomputable abbrev z8H(ifs:List bi)(env:dC):Sem Bool:=forIn ifs true λc r=>if r=true then do let ok<-fo c env (bB c env);pure (ForInStep.yield ok) else pure (ForInStep.yield r)
def z0Z{prog:bm}{w:bo}{A:bq}{R:Result->bf->Prop}{s:bf}{elt target iter:bi}{ifs:List bi}{scope:Scope}{pos:bG}{it acc:be}{env:dC}(I:Nat->bf->Prop)
 (turn: ∀n s,I n s->bj (bn prog w) A (cF it) (λr s₁=>match r with
  |none=>R (.ok .next) s₁
  |some v=>bj (bn prog w) A (cz target it v) (λ_ s₁=>bj (bn prog w) A (cE target env v) (λ_ s₂=>bj (bn prog w) A (z8H ifs env) (λok s₃=>
   if ok=true then bj (bn prog w) A (bB elt env) (λx s₃=>
   bj (bn prog w) A (call (.builtin "list.append") [acc,x]) (λ_ s₄=> ∃m,m<n/\I m s₄) (λ_ _=>False) s₃)
   (λ_ _=>False) s₃ else ∃m,m<n/\I m s₃) (λ_ _=>False) s₂) (λ_ _=>False) s₁) (λ_ _=>False) s₁) (λ_ _=>False) s)
 (n:Nat) (h:I n s):
 cR (bn prog w) A (.compLoop (.ListComp elt [⟨target,iter,ifs,0⟩] scope pos) 0 it acc env) R s:=by
 refine codeAny_loop rfl I (λn s hI=> ?_) n h
 show bj _ _ ((compTurn (.ListComp elt [⟨target,iter,ifs,0⟩] scope pos) 0 it acc env).onRaise (λx=>do noteFrame x env;theTreesLotGoes x)) _ _ s
 refine wpAny_noted ?_
 rw[compTurn_list]
 refine bb (cJ (bb (bE (turn n s hI) (λr s₁ h₁=> ?_) λ_ _ h'=>h'.elim)))
 cases r with
 |none=>exact bg h₁
 |some v=>
  refine bb (bE h₁ (λ_ s₁ h₁=> ?_) λ_ _ h'=>h'.elim)
  refine bb (bE h₁ (λ_ s₂ h₂=>bb (bE h₂ (λok s₃ h₃=> ?_) λ_ _ h'=>h'.elim)) λ_ _ h'=>h'.elim)
  cases ok with
  |false=>exact bg ⟨rfl,h₃⟩
  |true=>
   exact bb (bb (bE h₃ (λx s₄ h₄=>bb (bE h₄ (λ_ s₅ h₅=>bg (bg ⟨rfl,h₅⟩)) λ_ _ h'=>h'.elim)) λ_ _ h'=>h'.elim))
noncomputable def PTs(X:Cx)(ifs:List bi)(t:TT):Prop:=
 ∀(pins:List (Addr×bK)) (s:bf) (σ:St) (H:Hp) (Q:Bool->Hp->Prop),Inv X pins σ H s->t σ H Q->bj (bn X.prog X.w) X.A (z8H ifs X.env) (TP X pins σ Q) X.xe s
def zdk:PTs X [] (λ_ H Q=>Q true H):=λpins s σ H Q I h=>wpAny_tests_nil ⟨H,I,h⟩
section
variable{X:Cx}{tg iter elt:bi}{ifs:List bi}{pos:bG}{scope:Scope}{own frees:List Str}{ix:List Nat}{wi:TI}{g:TG}{tt:TT}{te:TE}
noncomputable def z6A(K:W.Frag)(wi:TI)(g:TG)(tt:TT)(te:TE)(k:Nat)(ix:List Nat):TE:=λ σ H Q=>wi σ H λJ H1=> ∀D,H1 D=none->(∀a o,K.lookup a=some o->upd H1 D (.lst []) a=none)->
 ∃W:Nat->Nat->List V->St->Hp->Prop,(∃m,W 0 m [] (z1s k ix σ) (upd H1 D (.lst [])))/\
  ∀i m ys σ' H',W i m ys σ' H'->H' D=some (.lst ys)/\((J.stop i H'/\Q (.ref D) H')\/
   (J.go i H'/\∀x H2,J.yld i H' x H2->g x σ' H2 λ σ2 H3=>tt σ2 H3 λok H3=>if ok=true then te σ2 H3 λy H4=>H4 D=some (.lst ys)/\ys.length<sizeLine/\∃m',m'<m/\W (i+1) m' (ys++[y]) σ2 (upd H4 D (.lst (ys++[y])))
    else ∃m',m'<m/\W (i+1) m' ys σ2 H3))
def z2x(hc:X.calm=true)(S:U2 X.env.scope scope own frees X.N ix)(hi:PI X tg iter wi)
 (hg: ∀cl C s₀ H₀ fp pn,PG (J5 X scope own frees cl C s₀ H₀ fp pn) tg g) (ht: ∀cl C s₀ H₀ fp pn,PTs (J5 X scope own frees cl C s₀ H₀ fp pn) ifs tt) (he: ∀cl C s₀ H₀ fp pn,PE (J5 X scope own frees cl C s₀ H₀ fp pn) elt te)
 (hs: ∀x,bw iter X.env x=pure x:=by intro _;rfl):
 PE X (.ListComp elt [⟨tg,iter,ifs,0⟩] scope pos) (z6A X.K wi g tt te own.length ix):=by
 intro pins s σ H Q I h
 have hclos:closureFor scope X.env=pure (z1r X.env scope.names []):=z3T λy hy e=>I.ok.has y.1 (S.fr y hy e)
 rw[eval_ListComp]
 refine wpAny_comprehension_free (use:=none) rfl hs hclos S.kind S.names (thn (hi pins s σ H _ I h) λv s1 h1=>thn h1 λitv s2 h2=> ?_)
 obtain⟨it,fp,tn,J,H2,e,I2,T,st2,f2,hD⟩:=h2
 subst e
 refine bt ?_
 have I3:Inv X pins σ (upd H2 s2.heap.objs.size (.lst [])) {s2 with heap:=s2.heap.push {cls:= .type "list",data:= .seq ([]:List be).toArray}}:=I2.lnew (t':=s2.toks) .nil (C0 _)
 have nD:H2 s2.heap.objs.size=none:=I2.fresh
 obtain⟨W,⟨m0,w0⟩,turn⟩:=hD _ nD λa o e=>(I3.bs a o (I3.ok.mod.kin a o e)).2
 have fpl: ∀b∈fp,b<s2.heap.objs.size:=λb z=>by
  obtain⟨o,q,_⟩:=T.obj _ _ st2 b z
  exact Heap.lt_size q
 generalize hs3:({s2 with heap:=s2.heap.push {cls:= .type "list",data:= .seq ([]:List be).toArray}}:bf)=s3 at I3
 have hpush: ∀b o,s2.heap.get? b=some o->s3.heap.get? b=some o:=λb o q=>by rw[<-hs3];exact Heap.get?_push_of_some _ q
 have hsz3:s2.heap.objs.size<s3.heap.objs.size:=by rw[<-hs3];show _<(s2.heap.push _).objs.size;rw[Heap.size_push];exact B4 _
 have f3: ∀b∈fp,z7K X pins (upd H2 s2.heap.objs.size (.lst [])) b:=λb z=>⟨by rw[y9 (B1 (fpl b z))];exact(f2 b z).1,(f2 b z).2⟩
 have st3:tn 0 s3.heap:=T.keep _ _ _ st2 λb _ o q=>hpush b o q
 generalize hDd:s2.heap.objs.size=D at*
 generalize hH3:upd H2 D (.lst [])=H3 at*
 have goal:bj (bn X.prog X.w) X.A (newFunctionEnv scope X.env.globals (z1r X.env scope.names []) [] X.env.qual none .none (some X.env)) (λcenv s₄=>
  cR (bn X.prog X.w) X.A (.compStart (.ListComp elt [⟨tg,iter,ifs,0⟩] scope pos) 0 (.ref it) (.ref D) {cenv with scope:=relabel scope X.env}) (compPost (bn X.prog X.w) X.A X.xe none (EP X pins σ Q) (.ref D) cenv.locals) s₄) X.xe s3:=by
  refine wpAny_newFunctionEnv S.nocell (by intro y hy;simp at hy) (λh1 hns hsb=> ?_) S.kind
  have hns:h1.Ns s3.heap.objs.size (λ_=>none):=hns
  have keep4: ∀b o,s3.heap.get? b=some o->h1.get? b=some o:=λb o q=>hsb.extBut b o (B1 (Heap.lt_size q)) (Heap.get?_push_of_some _ q)
  have fpl3: ∀b∈fp,b<s3.heap.objs.size:=λb z=>u0a (fpl b z) hsz3
  generalize hs4:({s3 with heap:=h1,toks:=s3.toks+([]:List (Str×be)).length}:bf)=s4
  have I4:Inv (J5 X scope own frees (z1r X.env scope.names []) s3.heap.objs.size s3 H3 fp (X.pn++pins)) [] (z1s own.length ix σ) H3 s4:=
   z7f S I3 f3 fpl3 (by rw[<-hs4]) (by rw[<-hs4]) (λb o q=>by rw[<-hs4];exact keep4 b o q) (by rw[<-hs4];exact hns)
  have st4:tn 0 s4.heap:=T.keep _ _ _ st3 λb _ o q=>by rw[<-hs4];exact keep4 b o q
  generalize hXc:J5 X scope own frees (z1r X.env scope.names []) s3.heap.objs.size s3 H3 fp (X.pn++pins)=Y at I4
  have eP:Y.prog=X.prog:=by rw[<-hXc];rfl
  have eW:Y.w=X.w:=by rw[<-hXc];rfl
  have eK:Y.K=X.K:=by rw[<-hXc];rfl
  have eA:Y.A=X.A:=by rw[<-hXc];rfl
  have eC:Y.calm=true:=by rw[<-hXc];exact hc
  have eE:Y.env=compEnvC scope (z1r X.env scope.names []) s3.heap.objs.size X.env:=by rw[<-hXc];rfl
  have eX:Y.xe=λ_ _=>False:=by rw[<-hXc];rfl
  have eF: ∀{H':Hp},(∀b∈fp,H' b=none)->∀b∈fp,z7K Y [] H' b:=λ{H'} hn b hb=>by
   rw[<-hXc]
   obtain⟨g1,g2,g3,g4,g5,g6⟩:=f3 b hb
   refine⟨hn b hb,B1 (fpl3 b hb),λq=> ?_, .inl hb,λx c e=> ?_,λp hp=> ?_⟩
   .rcases l7.mp (I3.stkSub b q) with r|r
    .exact g2 r
    .exact g3 r
   .rcases z3U _ _ e with q|q
    .exact nomatch q
    .exact g5 x c q.1
   .have hp:p∈(X.pn++pins)++[]:=hp
    rw[l0] at hp
    exact g6 p hp
  have gY:PG Y tg g:=by rw[<-hXc];exact hg _ _ _ _ _ _
  have tY:PE Y elt te:=by rw[<-hXc];exact he _ _ _ _ _ _
  have sY:PTs Y ifs tt:=by rw[<-hXc];exact ht _ _ _ _ _ _
  have loop:cR (bn X.prog X.w) X.A (.compLoop (.ListComp elt [⟨tg,iter,ifs,0⟩] scope pos) 0 (.ref it) (.ref D) (compEnvC scope (z1r X.env scope.names []) s3.heap.objs.size X.env))
   (compPost (bn X.prog X.w) X.A X.xe none (EP X pins σ Q) (.ref D) s3.heap.objs.size) s4:=by
   refine z0Z (λn s'=> ∃i ys σ' H',Inv Y [] σ' H' s'/\tn i s'.heap/\(∀b∈fp,H' b=none)/\W i n ys σ' H') ?_ m0 ⟨0,[],_,_,I4,st4,λb hb=>(f3 b hb).1,w0⟩
   rintro n s5 ⟨i,ys,σ5,H5,I5,st5,fr5,w5⟩
   obtain⟨hD5,alt⟩:=turn i n ys σ5 H5 w5
   rcases alt with⟨stop,qn⟩|⟨go,step⟩
   .have d:=T.done Y eP eW eK eC i [] s5 σ5 H5 (λ_ _=>False) I5 (eF fr5) st5 stop
    rw[eA] at d
    refine thn d λr s6 ⟨hr,I6⟩=> ?_
    subst hr
    subst hXc
    obtain⟨m6,n6,_⟩:=I6.loc
    exact⟨m6,n6,λh'' hs''=>⟨.ref D,H5,zaw I3 f3 (i7 _) I6 hs'',rfl,qn⟩⟩
   .have d:=T.item Y eP eW eK eC i [] s5 σ5 H5 (λ_ _=>False) I5 (eF fr5) st5 go
    rw[eA] at d
    refine thn d λr s6 ⟨u,hr,h6⟩=> ?_
    subst hr
    refine thn h6 λ_ s7 ⟨x,H7,I7,r7,y7,st7,fr7⟩=> ?_
    have I7':=I7.pinned (eF fr7) (T.obj _ _ st7)
    have e1:=gY _ s7 σ5 H7 x u _ I7' r7 (step x H7 y7)
    rw[eP,eW,eA,eE,eX] at e1
    refine thn e1 λ_ s8 ⟨σ8,H8,I8,q8⟩=> ?_
    have e1':=sY _ s8 σ8 H8 _ I8 q8
    rw[eP,eW,eA,eE,eX] at e1'
    refine thn e1' λok s8 ⟨H8,I8,q8⟩=> ?_
    cases ok with
    |false=>
     rw[if_neg A9] at q8⊢
     obtain⟨m',hm',w9⟩:=q8
     refine⟨m',hm',i+1,_,σ8,_,I8.unpinned,T.keep _ _ _ st7 λb hb o e=> ?_,λb hb=> ?_,w9⟩
     .exact(I8.pin (b,o) (i4 _ (i4 _ (X7 hb e)))).1
     .obtain⟨o,e,d⟩:=T.obj _ _ st7 b hb
      exact(I8.pin (b,o) (i4 _ (i4 _ (X7 hb e)))).2.1
    |true=>
    rw[if_pos rfl] at q8⊢
    have e2:=tY _ s8 σ8 H8 _ I8 q8
    rw[eP,eW,eA,eE,eX] at e2
    refine thn e2 λyv s9 ⟨y,H9,I9,r9,hD9,hz9,m',hm',w9⟩=> ?_
    have e3:=z4N (X:=Y) _ s9 σ8 H9 (.ref D) [y] (.ref D) [yv] (λv H'=>v= .non/\H'=upd H9 D (.lst (ys++[y]))) I9 rfl (.cons r9 .nil) ⟨D,ys,y,rfl,rfl,hD9,hz9,rfl,rfl⟩
    rw[eP,eW,eA,eX] at e3
    refine thn e3 λ_ s10 ⟨v10,H10,I10,r10,_,e10⟩=> ?_
    subst e10
    refine⟨m',hm',i+1,_,σ8,_,I10.unpinned,T.keep _ _ _ st7 λb hb o e=> ?_,λb hb=> ?_,w9⟩
    .exact(I10.pin (b,o) (i4 _ (i4 _ (X7 hb e)))).1
    .obtain⟨o,e,d⟩:=T.obj _ _ st7 b hb
     exact(I10.pin (b,o) (i4 _ (i4 _ (X7 hb e)))).2.1
  exact codeAny_compStart_list loop (T.self _ 0 _ _ _ st4 loop)
 exact goal
end
structure zem(osc sc:Scope)(own frees N:List Str)(ix:List Nat):Prop where
 kind:sc.kind= .function
 names: ∀y∈sc.names,y.2= .local->sc.names.lookup y.1=some .local
 fr: ∀y∈sc.names,y.2= .free->osc.names.lookup y.1=some .cell\/osc.names.lookup y.1=some .free
 nd:(own++frees).Nodup
 frl: ∀x∈frees,sc.names.lookup x=some .free
 ixs:ix.map (λi=>N[i]?)=frees.map some
 frc: ∀y∈sc.names,y.2= .cell->y.1∉frees
 owf: ∀y∈sc.names,y.2= .free->y.1∉own
def Inv.turnedL{X:Cx}{pins:List (Addr×bK)}{σ:List (Option V)}{H:Hp}{s:bf}{h':Heap}{t':Nat}{fp:List Addr}(I:Inv X pins σ H s)(k: ∀b o,b∉fp->s.heap.get? b=some o->h'.get? b=some o)(hf: ∀b∈fp,z7K X pins H b):Inv X pins σ H {s with heap:=h',toks:=t'}:=by
 have nit: ∀b u,H b=some u->b∉fp:=λb u e z=>by rw[(hf b z).1] at e;cases e
 refine I.step (g':=s.gens) (d':=s.drawn) (ch:=fp) (λb hb=> ?_) (λb o _ _ hc e _=>k b o hc e) (λb o _ _ hc e _=>⟨o.slots,k b o hc e⟩) (λ_ _ _ _ n=>n)
  (λb o hc e=>⟨o,k b o hc e⟩) (λ_ _ e=>e) (λ_ _ _ e=>e) (λb ps e=>⟨#[],by rw[e];simp⟩) (λm hm=> ?_) (λb u e=> ?_) I.bare
 .obtain⟨f0,f1,f2,f3,f4,f5⟩:=hf b hb
  exact⟨f3,f1,f4,f5⟩
 .obtain⟨o,es,ep,ho,r⟩:=hm
  exact⟨o,es,ep,k _ o (λz=>(hf _ z).2.1 rfl) ho,r⟩
 .refine(I.hok b u e).stay (λc v hc q=>k c v ?_ q) (λ_ q=>q) λ_ _ q=>q
  rcases hc with z|z
  .rw[z];exact nit b u e
  .exact nit c _ z
section
variable{X:Cx}{tg:bi}
noncomputable def Rg3(i j c:Int):Prop:=c≠0/\c.natAbs<1073741824/\Builtin.Range.small i j c=true/\0<=Builtin.Range.rangeSize i j c
instance(i j c:Int):Decidable (Rg3 i j c):=by unfold Rg3;infer_instance
end
end L2
namespace Mi
open PySem L2
structure ItK where
 k:Nat
 at':Nat->List (Option D)->Option (Option D)
 len:List (Option D)->Nat
noncomputable def zfR(i:Nat):List (Option D)->Option (Option D)
 |some c::_=>(zeh c).map λds=>ds[i]?
 |_=>none
noncomputable def zfS(i:Nat):List (Option D)->Option (Option D)
 |some (.tup ds)::_=>some ds[i]?
 |_=>none
noncomputable def zbQ:List (Option D)->Nat
 |some (.tup ds)::_=>ds.length
 |some (.lst _ ds)::_=>ds.length
 |some (.ro ds)::_=>ds.length
 |_=>0
noncomputable def kLst:ItK:=⟨1,zfR,zbQ⟩
noncomputable def zaF:ItK:=⟨1,zfS,zbQ⟩
noncomputable def z6B(lo:Int)(n:Nat):ItK:=⟨0,λi _=>some (if i<n then some (.int (lo+i)) else none),λ_=>n⟩
noncomputable def Stt.popn(s:Stt)(k:Nat):Stt:={s with tm:=s.tm.drop k}
section
variable{X:Cx}{G:Gx}{F:Fy}{e a b c tg iter:bi}{pos:bG}
def MR.popn{F:Fx}{ρ:Nat->Addr}{H:Hp}{σv tvs tv:List (Option V)}{s:Stt}(M:MR G F ρ H σv (tvs++tv) s):MR G F ρ H σv tv (s.popn tvs.length):=by
 have sub: ∀l∈G9 (s.popn tvs.length),l∈G9 s:=λl h=>by
  rcases l4.mp h with h|h
  .exact i8 _ h
  .refine i4 _ ?_
   have e:=W3 (s.tm.take tvs.length) (s.tm.drop tvs.length)
   rw[I0] at e
   rw[e]
   exact i4 _ h
 exact⟨M.sl,(Sl.split tvs M.tm).2,M.inj,M.dom,λl h=>M.lab l (sub l h),λl h=>M.own l (sub l h),M.frm,M.kd,M.frb,M.bas⟩
noncomputable def zfT(G:Gx)(J:It)(K:ItK)(tvs:List (Option V)):Prop:= ∀(F:Fx) ρ H σv tvp tv s i,MR G F ρ H σv (tvp++(tvs++tv)) s->match K.at' i (s.tm.drop tvp.length) with
 |none=>True
 |some none=>J.stop i H
 |some (some d)=>J.go i H/\∀x H',J.yld i H x H'->MRL G F ρ H' σv (tvp++(tvs++tv)) s [d] [x]
noncomputable def tI(G:Gx)(F:Fy)(m:M ItK):TI:=λ σv H R=> ∃tv,F.tv0<:+tv/\∃ρ s,MR G F.toFx ρ H σv tv s/\match m s with
 | .ok K s'=> ∀ρ' H' tvs J,tvs.length=K.k->MR G F.toFx ρ' H' σv (tvs++tv) s'->zfT G J K tvs->R J H'
 | .ex d s'=>F.xw d s'
 | .no=>False
noncomputable def SI(X:Cx)(G:Gx)(F:Fy)(tg iter:bi)(m:M ItK):Prop:=PI X tg iter (tI G F m)
def PI.imp0(h:PI X tg iter w)(hi: ∀σ H R,w' σ H R->w σ H R):PI X tg iter w':=λpins s σ H R I q=>h pins s σ H R I (hi σ H R q)
noncomputable def zjN(K:W.Frag)(tl:TE):TI:=λ σ H R=>tl σ H λx H1=> ∃a,x= .ref a/\(((∃xs,SqL K H1 a xs)/\R (Itl K a) H1)\/((∃xs,SqT K H1 a xs)/\R (Itt K a) H1))
def zfU(hl:PE X l tl):PI X tg l (zjN X.K tl):=by
 intro pins s σ H R I h
 refine thn (hl pins s σ H _ I h) λv s1 ⟨x,H1,I1,r1,q1⟩=> ?_
 obtain⟨a,e,q|q⟩:=q1
 .subst e
  cases r1
  obtain⟨⟨xs,hq⟩,q⟩:=q
  obtain⟨its,rv,p,hz⟩:=I1.list hq
  refine cn p.isList ?_
  refine⟨s1.heap.objs.size,[s1.heap.objs.size],_,_,H1,rfl,I1.kept (t':=s1.toks) λb o e=>Heap.get?_push_of_some _ e,z7V a _,⟨_,Heap.get?_push_size _ rfl,rfl,rfl⟩,λb hb=> ?_,q⟩
  have e:b=s1.heap.objs.size:=by simpa using hb
  subst e
  exact I1.fpOk (i7 _) (I1.hok.fresh (i7 _))
 .subst e
  cases r1
  obtain⟨⟨xs,hq⟩,q⟩:=q
  obtain⟨its,rv,p,hz⟩:=I1.tuple hq
  refine wpAny_pyIter_tuple (show s1.heap.IsTuple a its.toArray from p) ?_
  refine⟨s1.heap.objs.size,[s1.heap.objs.size],_,_,H1,rfl,I1.kept (t':=s1.toks) λb o e=>Heap.get?_push_of_some _ e,z73 a _,⟨_,Heap.get?_push_size _ rfl,rfl,rfl⟩,λb hb=> ?_,q⟩
  have e:b=s1.heap.objs.size:=by simpa using hb
  subst e
  exact I1.fpOk (i7 _) (I1.hok.fresh (i7 _))
noncomputable def Q8(m:M D):M ItK:=bd m λd s=>match d with
 | .tup _=> .ok zaF (s.psh d)
 | .lst _ _=> .ok kLst (s.psh d)
 | .ro _=> .ok kLst (s.psh d)
 |_=> .no
def SqT.two{K:W.Frag}{H:Hp}{a:Addr}{xs ys:List V}(k:KD K H)(h:SqT K H a xs)(h':SqT K H a ys):xs=ys:=by
 rcases h with(h|⟨o,h⟩)|⟨o,its,n,h,_,hd,_,r⟩<;>rcases h' with(h'|⟨o',h'⟩)|⟨o',its',n',h',_,hd',_,r'⟩
 .rw[h] at h';cases h';rfl
 .rw[h] at h';cases h'
 .rw[k _ _ h'] at h;cases h
 .rw[h] at h';cases h'
 .rw[h] at h';cases h';rfl
 .rw[k _ _ h'] at h;cases h
 .rw[k _ _ h] at h';cases h'
 .rw[k _ _ h] at h';cases h'
 .rw[h] at h';cases h';rw[hd] at hd';cases hd';exact r.inj r'
def SqL.two{K:W.Frag}{H:Hp}{a:Addr}{xs ys:List V}(k:KD K H)(h:SqL K H a xs)(h':SqL K H a ys):xs=ys:=by
 rcases h with(h|⟨o,h⟩)|⟨o,its,n,h,_,_,hd,_,r⟩<;>rcases h' with(h'|⟨o',h'⟩)|⟨o',its',n',h',_,_,hd',_,r'⟩
 .rw[h] at h';cases h';rfl
 .rw[h] at h';cases h'
 .rw[k _ _ h'] at h;cases h
 .rw[h] at h';cases h'
 .rw[h] at h';cases h';rfl
 .rw[k _ _ h'] at h;cases h
 .rw[k _ _ h] at h';cases h'
 .rw[k _ _ h] at h';cases h'
 .rw[h] at h';cases h';rw[hd] at hd';cases hd';exact r.inj r'
def MR.head{F:Fx}{ρ:Nat->Addr}{H:Hp}{σv tv:List (Option V)}{s:Stt}{v:V}{c:D}{r:List (Option D)}(M:MR G F ρ H σv (some v::tv) s)(e:s.tm=some c::r):RD G ρ H c v/\LB F ρ s.n (labs c):=by
 obtain⟨σ,tm,n⟩:=s
 have e:tm=some c::r:=e
 subst e
 exact⟨MR.top (s:=⟨σ,r,n⟩) M,MR.topl (s:=⟨σ,r,n⟩) M⟩
def z6C{a:Addr}:zfT G (Itl G.K a) kLst [some (.ref a)]:=by
 intro F ρ H σv tvp tv s i M
 dsimp only[kLst]
 cases e:s.tm.drop tvp.length with
 |nil=>trivial
 |cons o r=>
  cases o with
  |none=>trivial
  |some c=>
   erw[zfR]
   obtain⟨h,lb⟩:=MR.head (s:=s.popn tvp.length) M.popn e
   cases e1:zeh c with
   |none=>trivial
   |some ds=>
    erw[l6]
    obtain⟨a',xs,ea,sq,rr,sub⟩:=h.lstq e1
    cases ea
    cases e2:ds[i]? with
    |none=>
     refine⟨xs,sq, ?_⟩
     rw[<-rr.length]
     exact List.getElem?_eq_none_iff.mp e2
    |some d=>
     obtain⟨x,ex,rx⟩:=rr.get i d e2
     refine⟨⟨xs,x,sq,ex⟩, ?_⟩
     rintro x' H' ⟨rfl,hx⟩
     rw[hx xs sq] at ex
     cases ex
     exact⟨M,RDs.one rx,λl hl=>lb l (sub l (labsL_mem (List.mem_of_getElem? e2) l (by simpa only[labsL,l0] using hl)))⟩
def zaG{a:Addr}:zfT G (Itt G.K a) zaF [some (.ref a)]:=by
 intro F ρ H σv tvp tv s i M
 dsimp only[zaF]
 cases e:s.tm.drop tvp.length with
 |nil=>trivial
 |cons o r=>
  cases o with
  |none=>trivial
  |some c=>
   obtain⟨h,lb⟩:=MR.head (s:=s.popn tvp.length) M.popn e
   cases c with
   |tup ds=>
    erw[zfS]
    obtain⟨a',xs,ea,sq,rr⟩:=h.tupq
    cases ea
    cases e2:ds[i]? with
    |none=>
     refine⟨xs,sq, ?_⟩
     rw[<-rr.length]
     exact List.getElem?_eq_none_iff.mp e2
    |some d=>
     obtain⟨x,ex,rx⟩:=rr.get i d e2
     refine⟨⟨xs,x,sq,ex⟩, ?_⟩
     rintro x' H' ⟨rfl,hx⟩
     rw[hx xs sq] at ex
     cases ex
     exact⟨M,RDs.one rx,λl hl=>lb l (by erw[labs];exact labsL_mem (List.mem_of_getElem? e2) l (by simpa only[labsL,l0] using hl))⟩
   |_=>trivial
def si_seq(hk:X.K=G.K)(h:SE X G F e m):SI X G F tg e (Q8 m):=by
 refine PI.imp0 (zfU h) λ σ H R ⟨tv,hs,ρ,s,M,W⟩=>⟨tv,hs,ρ,s,M, ?_⟩
 unfold Q8 bd at W
 cases e:m s with
 |ex d s1=>rw[e] at W;exact W
 |no=>rw[e] at W;exact W
 |ok t s1=>
  rw[e] at W
  intro ρ1 v H1 M1
  rw[hk]
  cases t with
  |tup ds=>
   obtain⟨a,xs,rfl,sq,r⟩:=M1.rd1.tupq
   exact⟨a,rfl, .inr ⟨⟨xs,sq⟩,W ρ1 H1 [some (.ref a)] _ rfl M1.push zaG⟩⟩
  |lst n ds=>
   obtain⟨a,xs,rfl,sq,r,_⟩:=M1.rd1.lstq (ds:=ds) rfl
   exact⟨a,rfl, .inl ⟨⟨xs,sq⟩,W ρ1 H1 [some (.ref a)] _ rfl M1.push z6C⟩⟩
  |ro ds=>
   obtain⟨a,xs,rfl,sq,r,_⟩:=M1.rd1.lstq (ds:=ds) rfl
   exact⟨a,rfl, .inl ⟨⟨xs,sq⟩,W ρ1 H1 [some (.ref a)] _ rfl M1.push z6C⟩⟩
  |_=>exact False.elim W
noncomputable def zfV(ts:List D):M ItK:=match ts with
 |[.int j]=>if -(2^62)<=j/\j<2^62 then rt (z6B 0 j.toNat) else fl
 |_=>fl
noncomputable def zfW(ts:List D):M ItK:=match ts with
 |[.int i, .int j]=>if -(2^62)<=i/\i<2^62/\-(2^62)<=j/\j<2^62 then rt (z6B i (j -i).toNat) else fl
 |_=>fl
noncomputable def v7(ms:List (M D)):M ItK:=bd (Z9 ms) zfV
noncomputable def z5L(ms:List (M D)):M ItK:=bd (Z9 ms) zfW
def z6D{lo:Int}{n:Nat}:zfT G (Itr lo n) (z6B lo n) []:=by
 intro F ρ H σv tvp tv s i M
 erw[z6B]
 by_cases h:i<n
 .rw[if_pos h]
  refine⟨h, ?_⟩
  rintro x H' ⟨rfl,rfl⟩
  exact⟨M,RDs.one (by erw[RD]),λl hl=>by simp[labsL,labs] at hl⟩
 .rw[if_neg h]
  exact O7.mp h
def si_rng1{p:bG}(hg:Gl X "range")(hm:X.mg "range" =none)(ha:SA X G F [a] (Z9 ms))(hs:bh [a] X.env=[(false,bB a X.env)]:=by rfl):SI X G F tg (.Call (.Name "range" p) [a] [] pos) (v7 ms):=by
 refine PI.imp0 (z7W hg hm ha hs) λ σ H R ⟨tv,hs,ρ,s,M,W⟩=>⟨tv,hs,ρ,s,M, ?_⟩
 unfold v7 bd at W
 cases e:Z9 ms s with
 |ex d s1=>rw[e] at W;exact W
 |no=>rw[e] at W;exact W
 |ok ts s1=>
  rw[e] at W
  intro ρ1 vs H1 M1
  unfold zfV at W
  dsimp only at W
  split at W
  .rename_i ts' j K s' hh
   split at hh
   .split at hh
    .rename_i j' hc
     cases hh
     obtain⟨v,rfl,h,_⟩:=M1.one
     erw[RD] at h
     subst h
     exact⟨j',rfl,hc.1,hc.2,W ρ1 H1 [] _ rfl M1.m z6D⟩
    .cases hh
   .cases hh
  .rename_i hh
   split at hh
   .split at hh<;>cases hh
   .cases hh
  .exact False.elim W
def si_rng2{p:bG}(hg:Gl X "range")(hm:X.mg "range" =none)(ha:SA X G F [a,b] (Z9 ms))(hs:bh [a,b] X.env=[(false,bB a X.env),(false,bB b X.env)]:=by rfl)(hs2:bh [b] X.env=[(false,bB b X.env)]:=by rfl):SI X G F tg (.Call (.Name "range" p) [a,b] [] pos) (z5L ms):=by
 refine PI.imp0 (z7X hg hm ha hs hs2) λ σ H R ⟨tv,hs,ρ,s,M,W⟩=>⟨tv,hs,ρ,s,M, ?_⟩
 unfold z5L bd at W
 cases e:Z9 ms s with
 |ex d s1=>rw[e] at W;exact W
 |no=>rw[e] at W;exact W
 |ok ts s1=>
  rw[e] at W
  intro ρ1 vs H1 M1
  unfold zfW at W
  dsimp only at W
  split at W
  .rename_i ts' j K s' hh
   split at hh
   .split at hh
    .rename_i i' j' hc
     cases hh
     obtain⟨v,u,rfl,h,h'⟩:=M1.two
     erw[RD] at h h'
     subst h h'
     exact⟨i',j',rfl,hc,W ρ1 H1 [] _ rfl M1.m z6D⟩
    .cases hh
   .cases hh
  .rename_i hh
   split at hh
   .split at hh<;>cases hh
   .cases hh
  .exact False.elim W
noncomputable def forGo(K:ItK)(g:Tg)(b:MS):Nat->Nat->MS
 |f,i=>λs=>match K.at' i s.tm with
  |none=> .no
  |some none=> .nx (s.popn K.k)
  |some (some d)=>match f with
   |0=> .no
   |f+1=>match asg g d s.σ with
    |none=> .no
    |some σ'=>match b {s with σ:=σ'} with
     | .nx s'=>forGo K g b f (i+1) s'
     | .ct s'=>forGo K g b f (i+1) s'
     | .bk s'=> .nx (s'.popn K.k)
     | .rt t s'=> .rt t (s'.popn K.k)
     | .ex d s'=> .ex d s'
     | .no=> .no
noncomputable def z01(mi:M ItK)(g:Tg)(b:MS):MS:=z0K mi λK s=>forGo K g b (K.len s.tm) 0 s
def MRL.popn{σv tvs tv:List (Option V)}{s:Stt}(M:MRL G F.toFx ρ H σv (tvs++tv) s ts vs):MRL G F.toFx ρ H σv tv (s.popn tvs.length) ts vs:=⟨M.m.popn,M.rd,M.lb⟩
def zjO(h:F.tv0<:+tv):F.tv0<:+tvs++tv:=h.trans (T2 _ _)
def z8I{m:M ItK}{f:ItK->MS}{tv:List (Option V)}{D:z5u}{σ:St}{H:Hp}{R:It->Hp->Prop}(h:tSv G F (z0K m f) tv D σ H)
 (k: ∀K ρ' H' tvs J s',tvs.length=K.k->MR G F.toFx ρ' H' σ (tvs++tv) s'->zfT G J K tvs->wS G F tv (f K s') D->R J H'):tI G F m σ H R:=by
 obtain⟨hs,ρ,s,M,W⟩:=h
 refine⟨tv,hs,ρ,s,M, ?_⟩
 unfold z0K at W
 cases e:m s with
 |ok K s1=>rw[e] at W;exact λ ρ' H' tvs J hl M' hok=>k K ρ' H' tvs J s1 hl M' hok W
 |ex d s1=>rw[e] at W;exact W
 |no=>rw[e] at W;exact W
def ss_for{body:List Stmt}{mi:M ItK}{g:Tg}{mb:MS}(hp:cq (bn X.prog X.w) X.A X.env X.xe)(hc:X.calm=true)(hi:SI X G F tg iter mi)(hg:SG X G F tg g)(hb:SSs X G F body mb)(hst: ∀x,bw iter X.env x=pure x:=by intro _;rfl):SS X G F (.For tg iter body [] pos) (z01 mi g mb):=by
 refine PS.imp0 (zbz hp hc hi hg hb hst) λD σ H ⟨tv,h⟩=>z8I h λK ρ' H' tvs J s' hl M' hok W=> ?_
 have hs:=h.1
 refine⟨λi m σ H=> ∃ρ s,MR G F.toFx ρ H σ (tvs++tv) s/\wS G F tv (forGo K g mb m i s) D,⟨_,ρ',s',M',W⟩, ?_⟩
 rintro i m σ H ⟨ρ,s,M,W⟩
 have ok:=hok F.toFx ρ H σ [] tv s i M
 erw[B2,L3,A6] at ok
 unfold forGo at W
 cases e:K.at' i s.tm with
 |none=>erw[e] at W;exact False.elim W
 |some o=>
  cases o with
  |none=>
   erw[e] at W ok
   refine .inl ⟨ok,W ρ σ H ?_⟩
   rw[<-hl]
   exact M.popn
  |some d=>
   erw[e] at W ok
   cases m with
   |zero=>exact False.elim W
   |succ f=>
    dsimp only at W
    cases e2:asg g d s.σ with
    |none=>erw[e2] at W;exact False.elim W
    |some σ'=>
     erw[e2] at W
     refine .inr ⟨ok.1,λ σ H=> ∃ρ s,MR G F.toFx ρ H σ (tvs++tv) s/\wS G F tv (forGo K g mb f (i+1) s) D,λ σ' H' q=>⟨f,B4 _,q⟩,λx H2 y=> ?_⟩
     refine⟨tvs++tv,ρ,s,d,ok.2 x H2 y,σ',e2,λ σv' M2=>⟨tvs++tv,zjO hs,ρ,_,M2, ?_⟩⟩
     cases e3:mb {s with σ:=σ'} with
     |nx s2=>erw[e3] at W;exact λ ρ3 σ3 H3 M3=>⟨ρ3,s2,M3,W⟩
     |ct s2=>erw[e3] at W;exact λ ρ3 σ3 H3 M3=>⟨ρ3,s2,M3,W⟩
     |bk s2=>erw[e3] at W;exact λ ρ3 σ3 H3 M3=>W ρ3 σ3 H3 (by rw[<-hl];exact M3.popn)
     |rt t s2=>erw[e3] at W;exact λ ρ3 σ3 v H3 M3=>W ρ3 σ3 v H3 (by rw[<-hl];exact M3.popn)
     |ex d s2=>erw[e3] at W;exact W
     |no=>erw[e3] at W;exact W
end
noncomputable def Y2:List (Option D)->Option (List D)
 |[]=>some []
 |some d::r=>(Y2 r).map (d:: ·)
 |none::_=>none
noncomputable def v0(K:ItK)(g:Tg)(mt:M Bool)(me:M D)(ol:Nat):Nat->Nat->Nat->M D
 |f,i,k=>λs=>match K.at' i (s.tm.drop (k+ol)) with
  |none=> .no
  |some none=>match Y2 (s.tm.take k).reverse with
   |some ds=> .ok (.lst s.n ds) {σ:=(s.tm.drop k).take ol,tm:=s.tm.drop (k+ol+K.k),n:=s.n+1}
   |none=> .no
  |some (some d)=>match f with
   |0=> .no
   |f+1=>match asg g d s.σ with
    |none=> .no
    |some σ'=>match mt {s with σ:=σ'} with
     | .ok false s1=>v0 K g mt me ol f (i+1) k s1
     | .ok true s1=>if k<sizeLine then match me s1 with
      | .ok y s2=>v0 K g mt me ol f (i+1) (k+1) (s2.psh y)
      |_=> .no
      else .no
     |_=> .no
noncomputable def z8J(own:Nat)(ix:List Nat)(s:Stt):Stt:={σ:=m9 own none++ix.map (λi=>(s.σ[i]?).getD none),tm:=s.σ++s.tm,n:=s.n}
noncomputable def J1(mi:M ItK)(g:Tg)(mt:M Bool)(me:M D)(own:Nat)(ix:List Nat):M D:=bd mi λK s=>v0 K g mt me s.σ.length (K.len s.tm) 0 0 (z8J own ix s)
section
variable{X:Cx}{G:Gx}{F:Fy}{e a b c tg iter elt:bi}{pos:bG}
noncomputable def Fy.prot(F:Fy)(D:Addr)(ys:List V)(h:F.H0 D=none):Fy where
 A0:=F.A0
 H0:=upd F.H0 D (.lst ys)
 Z:=λa=>a=D\/F.Z a
 zA:=λa z=>by
  rcases z with rfl|z
  .exact⟨⟨_,y8⟩,λq=>by obtain⟨o,e⟩:=F.aH _ q;rw[h] at e;cases e⟩
  .obtain⟨⟨o,e⟩,n⟩:=F.zA a z
   exact⟨⟨o,by rw[y9 (G3 e h)];exact e⟩,n⟩
 aH:=λa q=>by
  obtain⟨o,e⟩:=F.aH a q
  exact⟨o,by rw[y9 (G3 e h)];exact e⟩
 n0:=F.n0
 ρ0:=F.ρ0
 tv0:=[]
 xw:=λ_ _=>False
theorem Sl.none_map: ∀k:Nat,Sl G ρ H (m9 k none) (m9 k none)
 |0=>by simp[Sl]
 |k+1=>by erw[C9,Sl];exact⟨_,_,rfl,Sl.none_map k⟩
theorem Sl.pick(h:Sl G ρ H σ σv): ∀ix:List Nat,Sl G ρ H (ix.map λi=>(σ[i]?).getD none) (ix.map λi=>(σv[i]?).getD none)
 |[]=>by simp[Sl]
 |i::ix=>by
  erw[i6]
  cases e:σ[i]? with
  |none=>erw[M9,Sl];exact⟨_,_,rfl,Sl.pick h ix⟩
  |some o=>
   cases o with
   |none=>erw[B5,Sl];exact⟨_,_,rfl,Sl.pick h ix⟩
   |some d=>
    obtain⟨v,e1,r⟩:=h.get i d e
    erw[B5,Sl,e1]
    exact⟨_,_,rfl,r,Sl.pick h ix⟩
theorem z1v{l:Nat}: ∀{ix:List Nat},l∈Z4 (ix.map λi=>(σ[i]?).getD none)->l∈Z4 σ
 |[],h=>by simp[Z4] at h
 |i::ix,h=>by
  erw[i6] at h
  cases e:σ[i]? with
  |none=>rw[e] at h;erw[M9,Z4] at h;exact z1v h
  |some o=>
   rw[e] at h
   cases o with
   |none=>erw[B5,Z4] at h;exact z1v h
   |some d=>
    erw[B5,Z4] at h
    rcases l4.mp h with h|h
    .exact z1u e l h
    .exact z1v h
theorem z2y{l:Nat}: ∀k:Nat,¬l∈Z4 (m9 k (none:Option D))
 |0,h=>by simp[Z4] at h
 |k+1,h=>by erw[C9,Z4] at h;exact z2y k h
def MR.enter{ρ:Nat->Addr}{H:Hp}{σv tv:List (Option V)}{s:Stt}{D:Addr}(M:MR G F.toFx ρ H σv tv s)(hD:H D=none)(k:KD G.K (upd H D (.lst [])))(own:Nat)(ix:List Nat):
 MR G (F.prot D [] (M.fresh0 hD)).toFx ρ (upd H D (.lst [])) (z1s own ix σv) (σv++tv) (z8J own ix s):=by
 have sm:=z39.new (.lst []) hD
 have M1:=M.same sm k
 have nD: ∀l,l<s.n->ρ l≠D:=λl hl e=>by
  obtain⟨o,q⟩:=M.dom l hl
  rw[e,hD] at q;cases q
 have sub: ∀l∈G9 (z8J own ix s),l∈G9 s:=λl h=>by
  rcases l4.mp h with h|h
  .have h:l∈Z4 (m9 own none++ix.map (λi=>(s.σ[i]?).getD none)):=h
   rw[W3] at h
   rcases l4.mp h with h|h
   .exact absurd h (z2y own)
   .exact i8 _ (z1v h)
  .have h:l∈Z4 (s.σ++s.tm):=h
   rw[W3] at h
   exact h
 refine⟨?_,M1.sl.append M1.tm,M1.inj,M1.dom,λl h=>M.lab l (sub l h),λl h=> ?_,λa o e=> ?_,k,λl hl z=> ?_,M.bas⟩
 .exact(Sl.none_map own).append (M1.sl.pick ix)
 .rcases M.own l (sub l h) with q|q
  .exact .inl q
  .refine .inr ?_
   show upd F.H0 D (.lst []) (ρ l)=none
   rw[y9 (nD l (M.lab l (sub l h)))];exact q
 .have e:upd F.H0 D (.lst []) a=some o:=e
  by_cases ha:a=D
  .subst ha
   rw[y8] at e;cases e
   exact⟨⟨_,y8⟩,λ_=>y8⟩
  .rw[y9 ha] at e
   exact M1.frm a o e
 .rcases z with z|z
  .exact nD l hl z
  .exact M.frb l hl z
def MR.turnD{ρ:Nat->Addr}{H:Hp}{σv tv:List (Option V)}{s:Stt}{D:Addr}{ys ys':List V}{hf:F.H0 D=none}(M:MR G (F.prot D ys hf).toFx ρ H σv tv s):
 H D=some (.lst ys)/\MR G (F.prot D ys' hf).toFx ρ (upd H D (.lst ys')) σv tv s:=by
 have hD:H D=some (.lst ys):=(M.frm D (.lst ys) y8).2 ((F.prot D ys hf).zA D (.inl rfl)).2
 have nD: ∀l,l<s.n->ρ l≠D:=λl hl e=>M.frb l hl (.inl e)
 have st:G6 H (upd H D (.lst ys')):=⟨λb xs e=>by rw[y9 (z07 e hD (by intro z;cases z))];exact e,λb o u e=>by rw[y9 (z07 e hD (by intro z;cases z))];exact e⟩
 refine⟨hD,⟨Sl.stay st M.sl λl hl=>⟨rfl,λo e=> ?_⟩,Sl.stay st M.tm λl hl=>⟨rfl,λo e=> ?_⟩,M.inj,λl hl=> ?_,M.lab,λl h=> ?_,λa o e=> ?_,λa o e=> ?_,λl hl=>M.frb l hl,M.bas⟩⟩
 .rw[y9 (nD l (M.lab l (i8 _ hl)))];exact e
 .rw[y9 (nD l (M.lab l (i4 _ hl)))];exact e
 .rw[y9 (nD l hl)];exact M.dom l hl
 .rcases M.own l h with q|q
  .exact .inl q
  .refine .inr ?_
   have q:upd F.H0 D (.lst ys) (ρ l)=none:=q
   show upd F.H0 D (.lst ys') (ρ l)=none
   rw[y9 (nD l (M.lab l h))] at q⊢;exact q
 .have e:upd F.H0 D (.lst ys') a=some o:=e
  by_cases ha:a=D
  .subst ha
   rw[y8] at e;cases e
   exact⟨⟨_,y8⟩,λ_=>y8⟩
  .rw[y9 ha] at e⊢
   exact M.frm a o (by show upd F.H0 D (.lst ys) a=some o;rw[y9 ha];exact e)
 .by_cases ha:a=D
  .subst ha
   rw[M.kd a o e] at hD;cases hD
  .rw[y9 ha];exact M.kd a o e
theorem Sl.all: ∀{tm:List (Option D)} {ys:List V} {ds:List D},Sl G ρ H tm (ys.map some)->Y2 tm=some ds->RDs G ρ H ds ys/\labsL ds=Z4 tm
 |[],ys,ds,h,e=>by
  erw[Sl] at h
  erw[Y2,Option.some.injEq] at e
  subst e
  have:ys=[]:=by simpa using h
  subst this
  simp[RDs,labsL,Z4]
 |none::r,ys,ds,h,e=>by erw[Y2] at e;cases e
 |some d::r,ys,ds,h,e=>by
  erw[Sl] at h
  obtain⟨v,q,e1,h1,h2⟩:=h
  cases ys with
  |nil=>cases e1
  |cons y ys=>
   erw[i6,List.cons.injEq,Option.some.injEq] at e1
   obtain⟨rfl,rfl⟩:=e1
   erw[Y2] at e
   cases e2:Y2 r with
   |none=>rw[e2] at e;cases e
   |some es=>
    rw[e2] at e
    cases e
    obtain⟨r1,r2⟩:=Sl.all h2 e2
    refine⟨?_,by erw[labsL,Z4,r2]⟩
    erw[RDs]
    exact⟨_,_,rfl,h1,r1⟩
theorem Sl.reverse: ∀{tm:List (Option D)} {ys:List (Option V)},Sl G ρ H tm ys->Sl G ρ H tm.reverse ys.reverse
 |[],ys,h=>by erw[Sl] at h;subst h;simp[Sl]
 |none::r,ys,h=>by
  erw[Sl] at h
  obtain⟨o,q,rfl,h⟩:=h
  rw[C2,C2]
  exact(Sl.reverse h).append (by erw[Sl];exact⟨_,_,rfl,rfl⟩)
 |some d::r,ys,h=>by
  erw[Sl] at h
  obtain⟨o,q,rfl,h1,h⟩:=h
  rw[C2,C2]
  exact(Sl.reverse h).append (by erw[Sl];exact⟨_,_,rfl,h1,rfl⟩)
theorem z2z{l:Nat}: ∀{tm:List (Option D)},l∈Z4 tm.reverse↔l∈Z4 tm
 |[]=>by simp
 |none::r=>by
  rw[C2,W3]
  erw[Z4,l0]
  exact z2z
 |some d::r=>by
  rw[C2,W3]
  erw[Z4,l0,l4]
  rw[z2z]
  exact Or.comm
def MR.leave{ρ:Nat->Addr}{H:Hp}{σi σv tvs tv:List (Option V)}{s:Stt}{ys:List V}{hf:F.H0 A1=none}{ds:List D}{kk:Nat}
 (M:MR G (F.prot A1 ys hf).toFx ρ H σi ((ys.reverse.map some)++(σv++(tvs++tv))) s) (hk:tvs.length=kk) (ol:Nat) (ho:σv.length=ol) (e:Y2 (s.tm.take ys.length).reverse=some ds):
 MRL G F.toFx (ext ρ s.n A1) H σv tv {σ:=(s.tm.drop ys.length).take ol,tm:=s.tm.drop (ys.length+ol+kk),n:=s.n+1} [.lst s.n ds] [.ref A1]:=by
 subst hk ho
 have hD:=(MR.turnD (ys':=ys) M).1
 have nD: ∀l,l<s.n->ρ l≠A1:=λl hl e=>M.frb l hl (.inl e)
 have t0:=Sl.split (ys.reverse.map some) M.tm
 erw[i9,L6] at t0
 obtain⟨t1,t2⟩:=t0
 obtain⟨t3,t4⟩:=Sl.split σv t2
 obtain⟨_,t6⟩:=Sl.split tvs t4
 rw[M7] at t4
 rw[M7,M7] at t6
 have t6':Sl G ρ H (s.tm.drop (ys.length+σv.length+tvs.length)) tv:=by rw[N2];exact t6
 have t1':=t1.reverse
 rw[<-List.map_reverse,List.reverse_reverse] at t1'
 obtain⟨r1,r2⟩:=Sl.all t1' e
 have lt: ∀l,l∈Z4 (s.tm.take ys.length)->l∈G9 s:=λl h=>i4 _ (by
  have e:=W3 (s.tm.take ys.length) (s.tm.drop ys.length)
  rw[I0] at e
  rw[e];exact i8 _ h)
 have ld: ∀l k,l∈Z4 (s.tm.drop k)->l∈G9 s:=λl k h=>i4 _ (by
  have e:=W3 (s.tm.take k) (s.tm.drop k)
  rw[I0] at e
  rw[e];exact i4 _ h)
 have ldt: ∀l k j,l∈Z4 ((s.tm.drop k).take j)->l∈G9 s:=λl k j h=>ld l k (by
  have e:=W3 ((s.tm.drop k).take j) ((s.tm.drop k).drop j)
  rw[I0] at e
  rw[e];exact i8 _ h)
 have own: ∀l∈G9 s,F.A0 (ρ l)\/F.H0 (ρ l)=none:=λl h=>by
  rcases M.own l h with q|q
  .exact .inl q
  .refine .inr ?_
   have q:upd F.H0 A1 (.lst ys) (ρ l)=none:=q
   rw[y9 (nD l (M.lab l h))] at q;exact q
 have st:=G6.refl H
 have stay: ∀l,l<s.n->ext ρ s.n A1 l=ρ l/\∀o,H (ρ l)=some o->H (ρ l)=some o:=λl hl=>⟨Q2 hl,λo e=>e⟩
 have all: ∀l∈G9 {σ:=(s.tm.drop ys.length).take σv.length,tm:=s.tm.drop (ys.length+σv.length+tvs.length),n:=s.n+1},l∈G9 s:=λl h=>by
  rcases l4.mp h with h|h
  .exact ldt l _ _ h
  .exact ld l _ h
 have dsl: ∀l∈labsL ds,l∈G9 s:=λl h=>lt l (by rw[r2] at h;exact z2z.mp h)
 refine⟨⟨Sl.stay st t3 λl hl=>stay l (M.lab l (ldt l _ _ hl)),Sl.stay st t6' λl hl=>stay l (M.lab l (ld l _ hl)),λi j hi hj eq=> ?_,λl hl=> ?_,λl h=>E9 (M.lab l (all l h)),λl h=> ?_,λa o e=> ?_,M.kd,λl hl z=> ?_,⟨T6 M.bas.1,λl hl=>by rw[Q2 (A8 hl M.bas.1)];exact M.bas.2 l hl⟩⟩, ?_,λl h=> ?_⟩
 .have hi:i<s.n+1:=hi
  have hj:j<s.n+1:=hj
  by_cases h1:i=s.n
  .by_cases h2:j=s.n
   .lia
   .rw[h1,J7,Q2 (by lia)] at eq
    exact absurd eq.symm (nD j (by lia))
  .by_cases h2:j=s.n
   .rw[h2,J7,Q2 (by lia)] at eq
    exact absurd eq (nD i (by lia))
   .rw[Q2 (by lia),Q2 (by lia)] at eq
    exact M.inj i j (by lia) (by lia) eq
 .have hl:l<s.n+1:=hl
  by_cases h1:l=s.n
  .subst h1;rw[J7];exact⟨_,hD⟩
  .rw[Q2 (by lia)];exact M.dom l (by lia)
 .rw[Q2 (M.lab l (all l h))];exact own l (all l h)
 .exact M.frm a o (by show upd F.H0 A1 (.lst ys) a=some o;rw[y9 (G3 e hf)];exact e)
 .have hl:l<s.n+1:=hl
  by_cases h1:l=s.n
  .subst h1;rw[J7] at z
   obtain⟨⟨o,e⟩,_⟩:=F.zA A1 z
   rw[hf] at e;cases e
  .rw[Q2 (by lia)] at z
   exact M.frb l (by lia) (.inr z)
 .refine RDs.one ?_
  erw[RD]
  rw[J7]
  exact⟨rfl,ys,hD,RDs.stay st ds ys r1 λl hl=>stay l (M.lab l (dsl l hl))⟩
 .erw[labsL,labs,l0] at h
  rcases l7.mp h with q|q
  .rw[q,J7];exact⟨B4 _, .inr hf⟩
  .have q2:=dsl l q
   exact⟨E9 (M.lab l q2),by rw[Q2 (M.lab l q2)];exact own l q2⟩
noncomputable def tMx(G:Gx)(m:M D):TE:=λ σ H Q=> ∃F:Fy,tM G F m σ H Q
noncomputable def tBx(G:Gx)(m:M Bool):TT:=λ σ H Q=> ∃F:Fy,tMB G F m σ H Q
noncomputable def tGx(G:Gx)(g:Tg):TG:=λv σ H Q=> ∃F:Fy,tGn G F g v σ H Q
noncomputable def STs(X:Cx)(G:Gx)(F:Fy)(ifs:List bi)(m:M Bool):Prop:=PTs X ifs (tMB G F m)
def sts_nil:STs X G F [] (rt true):=λpins s σ H Q I ⟨tv,hs,ρ,ms,M,W⟩=>zdk pins s σ H Q I (W ρ H M)
def zaH{K:W.Frag}{k:Nat}{ix:List Nat}{mi:M ItK}{g:Tg}{mt:M Bool}{me:M D}{σ:St}{H:Hp}{Q:VK}(hk:K=G.K)(h:tM G F (J1 mi g mt me k ix) σ H Q):z6A K (tI G F mi) (tGx G g) (tBx G mt) (tMx G me) k ix σ H Q:=by
 obtain⟨tv,hsf,ρ,s,M,W⟩:=h
 refine⟨tv,hsf,ρ,s,M, ?_⟩
 unfold J1 bd at W
 cases em:mi s with
 |ex d s1=>rw[em] at W;exact W
 |no=>rw[em] at W;exact W
 |ok K s1=>
  rw[em] at W
  intro ρ1 H1 tvs J hl M1 hok A1 hA1 kd
  subst hk
  have kd:KD G.K (upd H1 A1 (.lst [])):=kd
  have hf:=M1.fresh0 hA1
  refine⟨λi m ys σ' H'=> ∃ρ s,MR G (F.prot A1 ys hf).toFx ρ H' σ' ((ys.reverse.map some)++(σ++(tvs++tv))) s/\wM G F σ tv (v0 K g mt me s1.σ.length m i ys.length s) Q,⟨_,ρ1,_,M1.enter hA1 kd k ix,W⟩, ?_⟩
  rintro i m ys σ' H' ⟨ρ2,s2,M2,W2⟩
  have hD:=(MR.turnD (ys':=ys) M2).1
  refine⟨hD, ?_⟩
  have ol:s1.σ.length=σ.length:=M1.sl.length
  have ok:=hok (F.prot A1 ys hf).toFx ρ2 H' σ' ((ys.reverse.map some)++σ) tv s2 i (by rw[A5];exact M2)
  simp only[m5,i9,L6,<-ol,A5] at ok
  unfold v0 at W2
  cases e:K.at' i (s2.tm.drop (ys.length+s1.σ.length)) with
  |none=>erw[e] at W2;exact False.elim W2
  |some o=>
   rw[e] at ok
   cases o with
   |none=>
    erw[e] at W2 ok
    refine .inl ⟨ok, ?_⟩
    cases ea:Y2 (s2.tm.take ys.length).reverse with
    |none=>erw[ea] at W2;exact False.elim W2
    |some ds=>
     erw[ea] at W2
     exact W2 _ _ _ (MR.leave M2 hl _ ol.symm ea)
   |some d=>
    erw[e] at W2 ok
    cases m with
    |zero=>exact False.elim W2
    |succ f=>
     dsimp only at W2
     cases e2:asg g d s2.σ with
     |none=>erw[e2] at W2;exact False.elim W2
     |some σ3=>
      erw[e2] at W2
      refine .inr ⟨ok.1,λx H2 y=> ?_⟩
      have hx:=ok.2 x H2 y
      refine⟨F.prot A1 ys hf,_,ρ2,s2,d,hx,σ3,e2,λ σv' M3=>⟨F.prot A1 ys hf,_,F7,ρ2,_,M3, ?_⟩⟩
      cases e3:mt {s2 with σ:=σ3} with
      |ex d s4=>erw[e3] at W2;exact False.elim W2
      |no=>erw[e3] at W2;exact False.elim W2
      |ok b s4=>
       intro ρ4 H4 M4
       cases b with
       |false=>
        erw[e3] at W2
        rw[if_neg A9]
        exact⟨f,B4 _,ρ4,s4,M4,W2⟩
       |true=>
        erw[e3] at W2
        rw[if_pos rfl]
        by_cases hz:ys.length<sizeLine
        .rw[if_pos hz] at W2
         refine⟨F.prot A1 ys hf,_,F7,ρ4,s4,M4, ?_⟩
         cases e5:me s4 with
         |ex d s5=>erw[e5] at W2;exact False.elim W2
         |no=>erw[e5] at W2;exact False.elim W2
         |ok y s5=>
          erw[e5] at W2
          intro ρ5 v H5 M5
          obtain⟨hD5,M6⟩:=MR.turnD (ys':=ys++[v]) M5.push
          refine⟨hD5,hz,f,B4 _,ρ5,s5.psh y, ?_, ?_⟩
          .rw[E3,C2,D7,A6,t8]
           exact M6
          .rw[m5];exact W2
        .rw[if_neg hz] at W2;exact False.elim W2
def se_comp{scope:Scope}{own frees:List Str}{ix:List Nat}{ifs:List bi}{mi:M ItK}{g:Tg}{mt:M Bool}{me:M D}(hk:X.K=G.K)(hc:X.calm=true)(S:U2 X.env.scope scope own frees X.N ix)(hi:SI X G F tg iter mi)
 (hg: ∀(F:Fy) cl C s₀ H₀ fp pn,SG (J5 X scope own frees cl C s₀ H₀ fp pn) G F tg g) (ht: ∀(F:Fy) cl C s₀ H₀ fp pn,STs (J5 X scope own frees cl C s₀ H₀ fp pn) G F ifs mt) (he: ∀(F:Fy) cl C s₀ H₀ fp pn,SE (J5 X scope own frees cl C s₀ H₀ fp pn) G F elt me)
 (hs: ∀x,bw iter X.env x=pure x:=by intro _;rfl):SE X G F (.ListComp elt [⟨tg,iter,ifs,0⟩] scope pos) (J1 mi g mt me own.length ix):=
 PE.imp0 (z2x (g:=tGx G g) (tt:=tBx G mt) (te:=tMx G me) hc S hi (λcl C s₀ H₀ fp pn pins s σ H v u Q I r ⟨F',q⟩=>hg F' cl C s₀ H₀ fp pn pins s σ H v u Q I r q)
  (λcl C s₀ H₀ fp pn pins s σ H Q I ⟨F',q⟩=>ht F' cl C s₀ H₀ fp pn pins s σ H Q I q) (λcl C s₀ H₀ fp pn pins s σ H Q I ⟨F',q⟩=>he F' cl C s₀ H₀ fp pn pins s σ H Q I q) hs) λ σ H Q h=>zaH hk h
end
mutual
noncomputable def findT(l:Nat):D->Option D
 | .tup ds=>findL l ds
 | .ro ds=>findL l ds
 | .fdc _ vs=>findL l vs
 | .lst k ds=>if k=l then some (.lst k ds) else findL l ds
 | .dct k ks vs=>if k=l then some (.dct k ks vs) else findL l vs
 | .obj k c ns vs=>if k=l then some (.obj k c ns vs) else findL l vs
 | .non=>none| .bool _=>none| .int _=>none| .str _=>none| .exc _=>none| .fn _=>none
noncomputable def findL(l:Nat):List D->Option D
 |[]=>none
 |d::ds=>match findT l d with
  |some x=>some x
  |none=>findL l ds
end
section
variable{G:Gx}{ρ:Nat->Addr}{H:Hp}
mutual
theorem zaI(l:Nat): ∀(t:D) (v:V) (d:D),RD G ρ H t v->findT l t=some d->RD G ρ H d (.ref (ρ l))/\∀k∈labs d,k∈labs t
 | .non,v,d,h,e=>by erw[findT] at e;cases e
 | .bool b,v,d,h,e=>by erw[findT] at e;cases e
 | .int b,v,d,h,e=>by erw[findT] at e;cases e
 | .str b,v,d,h,e=>by erw[findT] at e;cases e
 | .exc b,v,d,h,e=>by erw[findT] at e;cases e
 | .fn b,v,d,h,e=>by erw[findT] at e;cases e
 | .tup ds,v,d,h,e=>by
  erw[findT,RD,labs] at h e⊢
  obtain⟨a,xs,_,_,r⟩:=h
  exact findL_rd l ds xs d r e
 | .ro ds,v,d,h,e=>by
  erw[findT,RD,labs] at h e⊢
  obtain⟨a,xs,_,_,r⟩:=h
  exact findL_rd l ds xs d r e
 | .fdc ks vs,v,d,h,e=>by
  erw[findT,RD,labs] at h e⊢
  obtain⟨a,o,kvs,_,_,_,r⟩:=h
  exact findL_rd l vs _ d r e
 | .lst k ds,v,d,h,e=>by
  erw[findT] at e
  by_cases hk:k=l
  .rw[if_pos hk] at e;cases e
   subst hk
   have h':=h
   erw[RD] at h'
   obtain⟨rfl,_⟩:=h'
   exact⟨h,λ_ q=>q⟩
  .rw[if_neg hk] at e
   erw[RD] at h
   obtain⟨_,xs,_,r⟩:=h
   obtain⟨q1,q2⟩:=findL_rd l ds xs d r e
   exact⟨q1,λj hj=>by erw[labs];exact i5 _ (q2 j hj)⟩
 | .dct k ks vs,v,d,h,e=>by
  erw[findT] at e
  by_cases hk:k=l
  .rw[if_pos hk] at e;cases e
   subst hk
   have h':=h
   erw[RD] at h'
   obtain⟨rfl,_⟩:=h'
   exact⟨h,λ_ q=>q⟩
  .rw[if_neg hk] at e
   erw[RD] at h
   obtain⟨_,⟨kvs,_,_,r⟩|⟨kvs,_,_,r⟩⟩:=h
   .obtain⟨q1,q2⟩:=findL_rd l vs _ d r e
    exact⟨q1,λj hj=>by erw[labs];exact i5 _ (i4 _ (q2 j hj))⟩
   .obtain⟨q1,q2⟩:=findL_rd l vs _ d r e
    exact⟨q1,λj hj=>by erw[labs];exact i5 _ (i4 _ (q2 j hj))⟩
 | .obj k c ns vs,v,d,h,e=>by
  erw[findT] at e
  by_cases hk:k=l
  .rw[if_pos hk] at e;cases e
   subst hk
   have h':=h
   erw[RD] at h'
   obtain⟨rfl,_⟩:=h'
   exact⟨h,λ_ q=>q⟩
  .rw[if_neg hk] at e
   erw[RD] at h
   obtain⟨_,C,dx,fs,_,_,_,r⟩:=h
   obtain⟨q1,q2⟩:=findL_rd l vs _ d r e
   exact⟨q1,λj hj=>by erw[labs];exact i5 _ (q2 j hj)⟩
theorem findL_rd(l:Nat): ∀(t:List D) (v:List V) (d:D),RDs G ρ H t v->findL l t=some d->RD G ρ H d (.ref (ρ l))/\∀k∈labs d,k∈labsL t
 |[],v,d,h,e=>by erw[findL] at e;cases e
 |t::ts,v,d,h,e=>by
  erw[findL,RDs,labsL] at h e⊢
  obtain⟨x,r,_,h1,h2⟩:=h
  cases e1:findT l t with
  |some y=>
   rw[e1] at e;cases e
   obtain⟨q1,q2⟩:=zaI l t x _ h1 e1
   exact⟨q1,λj hj=>i8 _ (q2 j hj)⟩
  |none=>
   rw[e1] at e
   obtain⟨q1,q2⟩:=findL_rd l ts r d h2 e
   exact⟨q1,λj hj=>i4 _ (q2 j hj)⟩
end
def roL_two(k:KD K H)(h:RoL K H a xs)(h':RoL K H a ys):xs=ys:=SqL.two k h.sq h'.sq
noncomputable def z6E(G:Gx)(H:Hp)(a:Addr):Nat->Prop
 |0=> ∃xs,SqT G.K H a xs
 |1=> ∃xs,RoL G.K H a xs
 |2=> ∃xs,H a=some (.lst xs)
 |3=>(∃kvs,H a=some (.dK kvs))\/∃kvs,H a=some (.dT kvs)
 |4=> ∃C dx fs,H a=some (.ins C dx fs)
 |5=> ∃o φ,H a=some (.frz o (.ext φ))
 |6=> ∃c,G.cl c=some a
 |_=> ∃o kvs,H a=some (.frz o (.dT kvs))
open Classical in
noncomputable def kd(K:W.Frag)(H:Hp)(a:Addr):Nat:=match H a with
 |some (.tup _)=>0|some (.frz _ (.tup _))=>0|some (.frz _ (.lst _))=>1|some (.lst _)=>2|some (.dK _)=>3|some (.dT _)=>3|some (.ins _ _ _)=>4|some (.frz _ (.ext _))=>5|some (.frz _ (.dT _))=>7
 |some _=>9
 |none=>match K.lookup a with
  |some o=>if(∃its n,o.data= .seq its n) then(if o.cls= .type "tuple" then 0 else 1) else 6
  |none=>8
def zfX(k:KD G.K H): ∀{i:Nat},z6E G H a i->i<=7->kd G.K H a=i:=by
 have tl: ¬((.type "list" :be)= .type "tuple"):=by intro h;injection h with h;exact absurd h (by decide)
 intro i hi li
 match i,hi,li with
 |0,⟨xs,h⟩,_=>
  rcases h with(h|⟨o,h⟩)|⟨o,its,n,h,hc,hd,_⟩
  .unfold kd;rw[h]
  .unfold kd;rw[h]
  .unfold kd;rw[k _ _ h];dsimp only;rw[h];dsimp only;rw[if_pos ⟨its,n,hd⟩,if_pos hc]
 |1,⟨xs,h⟩,_=>
  rcases h with⟨o,h⟩|⟨o,its,n,h,hc,_,hd,_⟩
  .unfold kd;rw[h]
  .unfold kd;rw[k _ _ h];dsimp only;rw[h];dsimp only;rw[if_pos ⟨its,n,hd⟩,if_neg (by rw[hc];exact tl)]
 |2,⟨xs,h⟩,_=>unfold kd;rw[h]
 |3,h,_=>rcases h with⟨_,h⟩|⟨_,h⟩<;>(unfold kd;rw[h])
 |4,⟨_,_,_,h⟩,_=>unfold kd;rw[h]
 |5,⟨_,_,h⟩,_=>unfold kd;rw[h]
 |6,⟨c,h⟩,_=>
  obtain⟨o,h1,h2⟩:=G.ck c a h
  unfold kd;rw[k _ _ h1];dsimp only;rw[h1];dsimp only;rw[if_neg (λ⟨its,n,q⟩=>h2 its n q)]
 |7,⟨_,_,h⟩,_=>unfold kd;rw[h]
 |n+8,_,li=>lia
def zaJ(k:KD G.K H){i j:Nat}(hi:z6E G H a i)(hj:z6E G H a j)(li:i<=7)(lj:j<=7):i=j:=(zfX k hi li).symm.trans (zfX k hj lj)
noncomputable def ix:D->Nat
 | .tup _=>0| .ro _=>1| .lst _ _=>2| .dct _ _ _=>3| .obj _ _ _ _=>4| .exc _=>5| .fn _=>6| .fdc _ _=>7|_=>8
noncomputable def flD:V->D
 | .bl b=> .bool b| .int b=> .int b| .str b=> .str b|_=> .non
def RD.kind(h:RD G ρ H t v):(t=flD v/\∀a,v≠ .ref a)\/∃a,v= .ref a/\ix t<=7/\z6E G H a (ix t):=by
 cases t<;>erw[RD] at h
 .exact .inl (by rw[h];exact⟨rfl,nofun⟩)
 .exact .inl (by rw[h];exact⟨rfl,nofun⟩)
 .exact .inl (by rw[h];exact⟨rfl,nofun⟩)
 .exact .inl (by rw[h];exact⟨rfl,nofun⟩)
 .obtain⟨a',xs,e,s,r⟩:=h;exact .inr ⟨a',e,C8 rfl,xs,SqT.of s⟩
 .obtain⟨a',xs,e,s,r⟩:=h;exact .inr ⟨a',e,C8 rfl,xs,s⟩
 .obtain⟨e,xs,s,r⟩:=h;exact .inr ⟨_,e,C8 rfl,xs,s⟩
 .obtain⟨e,⟨kvs,s,_⟩|⟨kvs,s,_⟩⟩:=h
  .exact .inr ⟨_,e,C8 rfl, .inl ⟨kvs,s⟩⟩
  .exact .inr ⟨_,e,C8 rfl, .inr ⟨kvs,s⟩⟩
 .obtain⟨e,C,dx,fs,_,s,_⟩:=h;exact .inr ⟨_,e,C8 rfl,C,dx,fs,s⟩
 .obtain⟨a',o,C,e,_,_,_,s⟩:=h;exact .inr ⟨a',e,C8 rfl,o,_,s⟩
 .obtain⟨a',e,s⟩:=h;exact .inr ⟨a',e,C8 rfl,_,s⟩
 .obtain⟨a',o,kvs,e,s,_⟩:=h;exact .inr ⟨a',e,C8 rfl,o,kvs,s⟩
def ix0(h:ix t=0): ∃ds,t= .tup ds:=by cases t<;>first|exact⟨_,rfl⟩|cases h
def ix1(h:ix t=1): ∃ds,t= .ro ds:=by cases t<;>first|exact⟨_,rfl⟩|cases h
def ix2(h:ix t=2): ∃l ds,t= .lst l ds:=by cases t<;>first|exact⟨_,_,rfl⟩|cases h
def ix3(h:ix t=3): ∃l ks vs,t= .dct l ks vs:=by cases t<;>first|exact⟨_,_,_,rfl⟩|cases h
def ix4(h:ix t=4): ∃l c ns vs,t= .obj l c ns vs:=by cases t<;>first|exact⟨_,_,_,_,rfl⟩|cases h
def ix5(h:ix t=5): ∃c,t= .exc c:=by cases t<;>first|exact⟨_,rfl⟩|cases h
def ix6(h:ix t=6): ∃c,t= .fn c:=by cases t<;>first|exact⟨_,rfl⟩|cases h
def ix7(h:ix t=7): ∃ks vs,t= .fdc ks vs:=by cases t<;>first|exact⟨_,_,rfl⟩|cases h
def RD.ixE(k:KD G.K H)(h:RD G ρ H t v)(h':RD G ρ H t' v):t=t'\/ix t=ix t':=by
 rcases RD.kind h with⟨e,n⟩|⟨a,e,l,q⟩<;>rcases RD.kind h' with⟨e',n'⟩|⟨a',e',l',q'⟩
 .exact .inl (e.trans e'.symm)
 .exact absurd e' (n _)
 .exact absurd e (n' _)
 .cases e.symm.trans e';exact .inr (zaJ k q q' l l')
section
variable(k:KD G.K H){n:Nat}(inj: ∀i j,i<n->j<n->ρ i=ρ j->i=j)
include k inj
mutual
theorem RD.uniq: ∀(t t':D) (v:V),RD G ρ H t v->RD G ρ H t' v->(∀l∈labs t,l<n)->(∀l∈labs t',l<n)->t=t'
 | .non,t',v,h,h',_,_=>(RD.kind h').elim (λe=>by erw[RD] at h;subst h;exact e.1.symm) λ⟨_,e,_⟩=>by erw[RD] at h;subst h;cases e
 | .bool b,t',v,h,h',_,_=>(RD.kind h').elim (λe=>by erw[RD] at h;subst h;exact e.1.symm) λ⟨_,e,_⟩=>by erw[RD] at h;subst h;cases e
 | .int b,t',v,h,h',_,_=>(RD.kind h').elim (λe=>by erw[RD] at h;subst h;exact e.1.symm) λ⟨_,e,_⟩=>by erw[RD] at h;subst h;cases e
 | .str b,t',v,h,h',_,_=>(RD.kind h').elim (λe=>by erw[RD] at h;subst h;exact e.1.symm) λ⟨_,e,_⟩=>by erw[RD] at h;subst h;cases e
 | .exc c,t',v,h,h',lb,lb'=>by
  rcases RD.ixE k h h' with e|e
  .exact e
  obtain⟨c',rfl⟩:=ix5 e.symm
  erw[RD] at h h'
  obtain⟨a,o,C,rfl,h1,h2,_,s⟩:=h
  obtain⟨a',o',C',e,h1',h2',_,s'⟩:=h'
  cases e
  rw[s] at s';cases s'
  rw[h2] at h2';cases h2'
  rw[G.ci c c' C h1 h1']
 | .fn c,t',v,h,h',lb,lb'=>by
  rcases RD.ixE k h h' with e|e
  .exact e
  obtain⟨c',rfl⟩:=ix6 e.symm
  erw[RD] at h h'
  obtain⟨a,rfl,h1⟩:=h
  obtain⟨a',e,h1'⟩:=h'
  cases e
  rw[G.ci c c' a h1 h1']
 | .tup ds,t',v,h,h',lb,lb'=>by
  rcases RD.ixE k h h' with e|e
  .exact e
  obtain⟨es,rfl⟩:=ix0 e.symm
  obtain⟨a,xs,rfl,s,r⟩:=h.tupq
  obtain⟨a',ys,e,s',r'⟩:=h'.tupq
  cases e
  cases SqT.two k s s'
  rw[RDs.uniq ds es xs r r' lb lb']
 | .fdc ks vs,t',v,h,h',lb,lb'=>by
  rcases RD.ixE k h h' with e|e
  .exact e
  obtain⟨ks',vs',rfl⟩:=ix7 e.symm
  erw[RD] at h h'
  obtain⟨a,o,kvs,rfl,s,s2,r⟩:=h
  obtain⟨a',o',kvs',e,s',s2',r'⟩:=h'
  cases e
  rw[s] at s';cases s'
  rw[s2,s2',RDs.uniq vs vs' _ r r' lb lb']
 | .ro ds,t',v,h,h',lb,lb'=>by
  rcases RD.ixE k h h' with e|e
  .exact e
  obtain⟨es,rfl⟩:=ix1 e.symm
  erw[RD] at h h'
  obtain⟨a,xs,rfl,s,r⟩:=h
  obtain⟨a',ys,e,s',r'⟩:=h'
  cases e
  cases roL_two k s s'
  rw[RDs.uniq ds es xs r r' lb lb']
 | .lst l ds,t',v,h,h',lb,lb'=>by
  rcases RD.ixE k h h' with e|e
  .exact e
  obtain⟨l',es,rfl⟩:=ix2 e.symm
  erw[RD] at h h'
  obtain⟨rfl,xs,s,r⟩:=h
  obtain⟨e,ys,s',r'⟩:=h'
  cases inj l l' (lb l (.head _)) (lb' l' (.head _)) (V.ref.inj e)
  rw[s] at s';cases s'
  rw[RDs.uniq ds es xs r r' (λj hj=>lb j (.tail _ hj)) λj hj=>lb' j (.tail _ hj)]
 | .dct l ks vs,t',v,h,h',lb,lb'=>by
  rcases RD.ixE k h h' with e|e
  .exact e
  obtain⟨l',ks',vs',rfl⟩:=ix3 e.symm
  erw[RD] at h h'
  obtain⟨rfl,q⟩:=h
  obtain⟨e,q'⟩:=h'
  cases inj l l' (lb l (.head _)) (lb' l' (.head _)) (V.ref.inj e)
  have b1: ∀j∈labsL vs,j<n:=λj hj=>lb j (.tail _ (i4 _ hj))
  have b2: ∀j∈labsL vs',j<n:=λj hj=>lb' j (.tail _ (i4 _ hj))
  rcases q with⟨kvs,s,s2,r⟩|⟨kvs,s,s2,r⟩<;>rcases q' with⟨kvs',s',s2',r'⟩|⟨kvs',s',s2',r'⟩<;>rw[s] at s'<;>cases s'
  .rw[s2,s2',RDs.uniq vs vs' _ r r' b1 b2]
  .rw[s2,s2',RDs.uniq vs vs' _ r r' b1 b2]
 | .obj l c ns vs,t',v,h,h',lb,lb'=>by
  rcases RD.ixE k h h' with e|e
  .exact e
  obtain⟨l',c',ns',vs',rfl⟩:=ix4 e.symm
  erw[RD] at h h'
  obtain⟨rfl,C,dx,fs,hC,s,s2,r⟩:=h
  obtain⟨e,C',dx',fs',hC',s',s2',r'⟩:=h'
  cases inj l l' (lb l (.head _)) (lb' l' (.head _)) (V.ref.inj e)
  rw[s] at s';cases s'
  rw[s2,s2',G.ci c c' C hC hC',RDs.uniq vs vs' _ r r' (λj hj=>lb j (.tail _ hj)) λj hj=>lb' j (.tail _ hj)]
theorem RDs.uniq: ∀(t t':List D) (v:List V),RDs G ρ H t v->RDs G ρ H t' v->(∀l∈labsL t,l<n)->(∀l∈labsL t',l<n)->t=t'
 |[],t',v,h,h',_,_=>by
  erw[RDs] at h;subst h
  cases t' with
  |nil=>rfl
  |cons d ds=>erw[RDs] at h';obtain⟨_,_,e,_⟩:=h';cases e
 |d::ds,t',v,h,h',lb,lb'=>by
  erw[RDs] at h
  obtain⟨x,q,rfl,h1,h2⟩:=h
  cases t' with
  |nil=>erw[RDs] at h';cases h'
  |cons d' ds'=>
   erw[RDs] at h'
   obtain⟨_,_,e,h1',h2'⟩:=h'
   cases e
   rw[RD.uniq d d' x h1 h1' (λl hl=>lb l (by erw[labsL];exact i8 _ hl)) λl hl=>lb' l (by erw[labsL];exact i8 _ hl),
    RDs.uniq ds ds' q h2 h2' (λl hl=>lb l (by erw[labsL];exact i4 _ hl)) λl hl=>lb' l (by erw[labsL];exact i4 _ hl)]
end
end
end
end Mi
namespace Mi
open PySem L2 PySem.Spec PyProof.Rows
inductive RF where
 |ok (t:D) (ts:List D) (n:Nat)|ex (d:D) (ts:List D) (n:Nat)|no
noncomputable abbrev FM:=List D->Nat->RF
structure z4Y(G:Gx)(ρ:Nat->Addr)(n:Nat)(ts:List D)(vs:List V)(H:Hp)(ρ':Nat->Addr)(n':Nat)(ts':List D)(H':Hp):Prop where
 old: ∀l,l<n->ρ' l=ρ l
 le:n<=n'
 inj: ∀i j,i<n'->j<n'->ρ' i=ρ' j->i=j
 dom: ∀l,l<n'->∃o,H' (ρ' l)=some o
 rd:RDs G ρ' H' ts' vs
 lb: ∀l∈labsL ts',l<n'/\(l<n->l∈labsL ts)
 fr: ∀a o,H a=some o->(∃o',H' a=some o')/\((∀l∈labsL ts,a≠ρ l)->H' a=some o)
 new: ∀l,n<=l->l<n'->H (ρ' l)=none
 kd:KD G.K H'
section
variable{G:Gx}{ρ ρ':Nat->Addr}{H H':Hp}
def z8K(k:Key):labs (z17 k)=[]:=by cases k<;>erw[z17,labs]
theorem z8L: ∀ks:List Key,labsL (ks.map z17)=[]
 |[]=>by erw[A2,labsL]
 |k::ks=>by erw[i6,labsL,z8K,z8L ks,l0]
def z5M(z:Key⊕List Key):labs (nkD z)=[]:=by
 cases z with
 |inl k=>exact z8K k
 |inr ks=>erw[nkD,labs,z8L]
mutual
theorem z8M: ∀(t:D) (v:V),RD G ρ H t v->∀l∈labs t,∃o,H (ρ l)=some o/\(∀xs,o≠ .tup xs)/\∀u w,o≠ .frz u w
 | .non,v,h,l,hl=>by erw[labs] at hl;cases hl
 | .bool b,v,h,l,hl=>by erw[labs] at hl;cases hl
 | .int b,v,h,l,hl=>by erw[labs] at hl;cases hl
 | .str b,v,h,l,hl=>by erw[labs] at hl;cases hl
 | .exc b,v,h,l,hl=>by erw[labs] at hl;cases hl
 | .fn b,v,h,l,hl=>by erw[labs] at hl;cases hl
 | .tup ds,v,h,l,hl=>by
  erw[labs,RD] at h hl
  obtain⟨a,xs,_,_,r⟩:=h
  exact labL_mut ds xs r l hl
 | .fdc ks vs,v,h,l,hl=>by
  erw[labs,RD] at h hl
  obtain⟨a,o,kvs,_,_,_,r⟩:=h
  exact labL_mut vs _ r l hl
 | .ro ds,v,h,l,hl=>by
  erw[labs,RD] at h hl
  obtain⟨a,xs,_,_,r⟩:=h
  exact labL_mut ds xs r l hl
 | .lst k ds,v,h,l,hl=>by
  erw[labs,RD] at h hl
  obtain⟨_,xs,s,r⟩:=h
  rcases l7.mp hl with rfl|hl
  .exact⟨_,s,(λ_ q=>nomatch q),(λ_ _ q=>nomatch q)⟩
  .exact labL_mut ds xs r l hl
 | .dct k ks vs,v,h,l,hl=>by
  erw[labs,RD] at h hl
  obtain⟨_,⟨kvs,s,s2,r⟩|⟨kvs,s,s2,r⟩⟩:=h
  .rcases l7.mp hl with rfl|hl
   .exact⟨_,s,(λ_ q=>nomatch q),(λ_ _ q=>nomatch q)⟩
   .rcases l4.mp hl with hl|hl
    .rw[s2] at hl
     obtain⟨d,hd,hl⟩:=X6 hl
     rcases l7.mp hd with rfl|hd
     .erw[labs] at hl;cases hl
     obtain⟨p,_,rfl⟩:=m8.mp hd
     obtain⟨kk,_⟩:=p
     cases kk<;>erw[z17,labs] at hl<;>cases hl
    .exact labL_mut vs _ r l hl
  .rcases l7.mp hl with rfl|hl
   .exact⟨_,s,(λ_ q=>nomatch q),(λ_ _ q=>nomatch q)⟩
   .rcases l4.mp hl with hl|hl
    .rw[s2] at hl
     obtain⟨d,hd,hl⟩:=X6 hl
     obtain⟨p,_,rfl⟩:=m8.mp hd
     erw[dkD,labs] at hl
     obtain⟨d,hd,hl⟩:=X6 hl
     obtain⟨kk,_,rfl⟩:=m8.mp hd
     rw[z5M] at hl;cases hl
    .exact labL_mut vs _ r l hl
 | .obj k c ns vs,v,h,l,hl=>by
  erw[labs,RD] at h hl
  obtain⟨_,C,dx,fs,_,s,_,r⟩:=h
  rcases l7.mp hl with rfl|hl
  .exact⟨_,s,(λ_ q=>nomatch q),(λ_ _ q=>nomatch q)⟩
  .exact labL_mut vs _ r l hl
theorem labL_mut: ∀(t:List D) (v:List V),RDs G ρ H t v->∀l∈labsL t,∃o,H (ρ l)=some o/\(∀xs,o≠ .tup xs)/\∀u w,o≠ .frz u w
 |[],v,h,l,hl=>by erw[labsL] at hl;cases hl
 |d::ds,v,h,l,hl=>by
  erw[labsL,RDs] at h hl
  obtain⟨x,r,_,h1,h2⟩:=h
  rcases l4.mp hl with hl|hl
  .exact z8M d x h1 l hl
  .exact labL_mut ds r h2 l hl
end
def z7j{kvs:List (Key×V)}{l:Nat}(hl:l∈labsL (kvs.map λp=>z17 p.1)):False:=by
 obtain⟨d,hd,hl⟩:=X6 hl
 obtain⟨p,_,rfl⟩:=m8.mp hd
 obtain⟨kk,_⟩:=p
 cases kk<;>erw[z17,labs] at hl<;>cases hl
def z5N{kvs:List (NK×V)}{l:Nat}(hl:l∈labsL (kvs.map λp=>dkD p.1)):False:=by
 obtain⟨d,hd,hl⟩:=X6 hl
 obtain⟨p,_,rfl⟩:=m8.mp hd
 erw[dkD,labs] at hl
 obtain⟨d,hd,hl⟩:=X6 hl
 obtain⟨kk,_,rfl⟩:=m8.mp hd
 rw[z5M] at hl;cases hl
mutual
theorem z7k(l:Nat): ∀(t:D) (v:V),RD G ρ H t v->l∈labs t->(findT l t).isSome=true
 | .non,v,h,hl=>by erw[labs] at hl;cases hl
 | .bool b,v,h,hl=>by erw[labs] at hl;cases hl
 | .int b,v,h,hl=>by erw[labs] at hl;cases hl
 | .str b,v,h,hl=>by erw[labs] at hl;cases hl
 | .exc b,v,h,hl=>by erw[labs] at hl;cases hl
 | .fn b,v,h,hl=>by erw[labs] at hl;cases hl
 | .tup ds,v,h,hl=>by
  erw[labs,RD,findT] at h hl⊢
  obtain⟨a,xs,_,_,r⟩:=h
  exact findL_some l ds xs r hl
 | .fdc ks vs,v,h,hl=>by
  erw[labs,RD,findT] at h hl⊢
  obtain⟨a,o,kvs,_,_,_,r⟩:=h
  exact findL_some l vs _ r hl
 | .ro ds,v,h,hl=>by
  erw[labs,RD,findT] at h hl⊢
  obtain⟨a,xs,_,_,r⟩:=h
  exact findL_some l ds xs r hl
 | .lst k ds,v,h,hl=>by
  erw[labs,RD,findT] at h hl⊢
  obtain⟨_,xs,s,r⟩:=h
  by_cases e:k=l
  .rw[if_pos e];rfl
  .rw[if_neg e]
   rcases l7.mp hl with q|q
   .exact absurd q.symm e
   .exact findL_some l ds xs r q
 | .dct k ks vs,v,h,hl=>by
  erw[labs,RD,findT] at h hl⊢
  obtain⟨_,⟨kvs,s,s2,r⟩|⟨kvs,s,s2,r⟩⟩:=h
  .by_cases e:k=l
   .rw[if_pos e];rfl
   .rw[if_neg e]
    rcases l7.mp hl with q|q
    .exact absurd q.symm e
    .rcases l4.mp q with q|q
     .rw[s2] at q;exact(z7j q).elim
     .exact findL_some l vs _ r q
  .by_cases e:k=l
   .rw[if_pos e];rfl
   .rw[if_neg e]
    rcases l7.mp hl with q|q
    .exact absurd q.symm e
    .rcases l4.mp q with q|q
     .rw[s2] at q;exact(z5N q).elim
     .exact findL_some l vs _ r q
 | .obj k c ns vs,v,h,hl=>by
  erw[labs,RD,findT] at h hl⊢
  obtain⟨_,C,dx,fs,_,s,_,r⟩:=h
  by_cases e:k=l
  .rw[if_pos e];rfl
  .rw[if_neg e]
   rcases l7.mp hl with q|q
   .exact absurd q.symm e
   .exact findL_some l vs _ r q
theorem findL_some(l:Nat): ∀(t:List D) (v:List V),RDs G ρ H t v->l∈labsL t->(findL l t).isSome=true
 |[],v,h,hl=>by erw[labsL] at hl;cases hl
 |d::ds,v,h,hl=>by
  erw[labsL,RDs,findL] at h hl⊢
  obtain⟨x,r,_,h1,h2⟩:=h
  cases e:findT l d with
  |some y=>rfl
  |none=>
   rcases l4.mp hl with q|q
   .have:=z7k l d x h1 q
    rw[e] at this;cases this
   .exact findL_some l ds r h2 q
end
def z4Y.stays{n n':Nat}(P:z4Y G ρ n ts vs H ρ' n' ts' H')(r:RDs G ρ H ts vs):G6 H H':=by
 refine⟨λb xs e=>(P.fr b _ e).2 λl hl z=> ?_,λb o u e=>(P.fr b _ e).2 λl hl z=> ?_⟩
 .obtain⟨o,q,q1,_⟩:=labL_mut ts vs r l hl
  rw[<-z,e] at q;cases q;exact q1 _ rfl
 .obtain⟨o,q,_,q1⟩:=labL_mut ts vs r l hl
  rw[<-z,e] at q;cases q;exact q1 _ _ rfl
section
variable(k:KD G.K H){n:Nat}(inj: ∀i j,i<n->j<n->ρ i=ρ j->i=j){ts:List D}{vs:List V}(r:RDs G ρ H ts vs)(lb: ∀l∈labsL ts,l<n)
include k inj r lb
mutual
theorem z3w: ∀(t:D) (v:V),RD G ρ H t v->(∀l∈labs t,l<n)->rp (λl=>findL l ts) t=t
 | .non,v,h,hl=>rfl
 | .bool b,v,h,hl=>rfl
 | .int b,v,h,hl=>rfl
 | .str b,v,h,hl=>rfl
 | .exc b,v,h,hl=>rfl
 | .fn b,v,h,hl=>rfl
 | .tup ds,v,h,hl=>by
  erw[labs,RD,rp] at h hl⊢
  obtain⟨a,xs,_,_,r1⟩:=h
  rw[rpL_find_id ds xs r1 hl]
 | .fdc ks vs,v,h,hl=>by
  erw[labs,RD,rp] at h hl⊢
  obtain⟨a,o,kvs,_,_,_,r1⟩:=h
  rw[rpL_find_id vs _ r1 hl]
 | .ro ds,v,h,hl=>by
  erw[labs,RD,rp] at h hl⊢
  obtain⟨a,xs,_,_,r1⟩:=h
  rw[rpL_find_id ds xs r1 hl]
 | .lst l ds,v,h,hl=>by
  erw[rp]
  cases e:findL l ts with
  |some d=>
   dsimp only
   obtain⟨q1,q2⟩:=findL_rd l ts vs d r e
   have h':=h
   erw[RD] at h'
   obtain⟨rfl,_⟩:=h'
   exact RD.uniq k inj _ _ _ q1 h (λj hj=>lb j (q2 j hj)) hl
  |none=>
   dsimp only
   erw[labs,RD] at h hl
   obtain⟨_,xs,s,r1⟩:=h
   rw[rpL_find_id ds xs r1 λj hj=>hl j (i5 _ hj)]
 | .dct l ks vs',v,h,hl=>by
  erw[rp]
  cases e:findL l ts with
  |some d=>
   dsimp only
   obtain⟨q1,q2⟩:=findL_rd l ts vs d r e
   have h':=h
   erw[RD] at h'
   obtain⟨rfl,_⟩:=h'
   exact RD.uniq k inj _ _ _ q1 h (λj hj=>lb j (q2 j hj)) hl
  |none=>
   dsimp only
   erw[labs,RD] at h hl
   obtain⟨_,⟨kvs,s,s2,r1⟩|⟨kvs,s,s2,r1⟩⟩:=h
   .rw[rpL_find_id vs' _ r1 λj hj=>hl j (i5 _ (i4 _ hj))]
   .rw[rpL_find_id vs' _ r1 λj hj=>hl j (i5 _ (i4 _ hj))]
 | .obj l c ns vs',v,h,hl=>by
  erw[rp]
  cases e:findL l ts with
  |some d=>
   dsimp only
   obtain⟨q1,q2⟩:=findL_rd l ts vs d r e
   have h':=h
   erw[RD] at h'
   obtain⟨rfl,_⟩:=h'
   exact RD.uniq k inj _ _ _ q1 h (λj hj=>lb j (q2 j hj)) hl
  |none=>
   dsimp only
   erw[labs,RD] at h hl
   obtain⟨_,C,dx,fs,_,s,_,r1⟩:=h
   rw[rpL_find_id vs' _ r1 λj hj=>hl j (i5 _ hj)]
theorem rpL_find_id: ∀(t:List D) (v:List V),RDs G ρ H t v->(∀l∈labsL t,l<n)->rpL (λl=>findL l ts) t=t
 |[],v,h,hl=>rfl
 |d::ds,v,h,hl=>by
  erw[labsL,RDs,rpL] at h hl⊢
  obtain⟨x,q,_,h1,h2⟩:=h
  rw[z3w d x h1 λj hj=>hl j (i8 _ hj),rpL_find_id ds q h2 λj hj=>hl j (i4 _ hj)]
end
theorem z0n: ∀(t:List (Option D)) (v:List (Option V)),Sl G ρ H t v->(∀l∈Z4 t,l<n)->rpO (λl=>findL l ts) t=t
 |[],v,h,hl=>rfl
 |none::r',v,h,hl=>by
  erw[Z4,Sl,rpO] at h hl⊢
  obtain⟨o,q,_,h⟩:=h
  rw[z0n r' q h hl]
 |some d::ds,v,h,hl=>by
  erw[Z4,Sl,rpO] at h hl⊢
  obtain⟨x,q,_,h1,h2⟩:=h
  rw[z3w k inj r lb d x h1 λj hj=>hl j (i8 _ hj),z0n ds q h2 λj hj=>hl j (i4 _ hj)]
end
variable{F:Fy}{σv tv:List (Option V)}{s:Stt}{np:Nat}
def MR.call{n':Nat}(M:MR G F.toFx ρ H σv tv s)(r:RDs G ρ H ts vs)(lb:LB F.toFx ρ s.n (labsL ts))(P:z4Y G ρ s.n ts vs H ρ' n' ts' H')
 (hc: ∀l∈G9 s,l∈labsL ts->(findL l ts').isSome=true):MR G F.toFx ρ' H' σv tv {σ:=rpO (λl=>findL l ts') s.σ,tm:=rpO (λl=>findL l ts') s.tm,n:=n'}:=by
 have st:=P.stays r
 have step: ∀l∈G9 s,ρ' l=ρ l/\(match findL l ts' with|some d=>RD G ρ' H' d (.ref (ρ l))|none=> ∀o,H (ρ l)=some o->H' (ρ l)=some o):=λl hl=>by
  have ol:=P.old l (M.lab l hl)
  refine⟨ol, ?_⟩
  cases e:findL l ts' with
  |some d=>
   have q:=(findL_rd l ts' vs d P.rd e).1
   rw[ol] at q;exact q
  |none=>
   intro o e1
   refine(P.fr _ _ e1).2 λj hj z=> ?_
   have:l=j:=M.inj l j (M.lab l hl) (lb j hj).1 z
   subst this
   have:=hc l hl hj
   rw[e] at this;cases this
 have hn: ∀l,l<n'->l<s.n\/H (ρ' l)=none:=λl hl=>by
  by_cases h:l<s.n
  .exact .inl h
  .exact .inr (P.new l (O7.mp h) hl)
 have hlab: ∀(xs:List (Option D)),(∀l∈Z4 xs,l∈G9 s)->∀l∈Z4 (rpO (λl=>findL l ts') xs),l<n'/\(l<s.n->l∈G9 s\/l∈labsL ts):=λxs hx l h=>by
  rcases z2c l xs h with q|⟨k,d,q1,q2,q3⟩
  .exact⟨A8 (M.lab l (hx l q)) P.le,λ_=> .inl (hx l q)⟩
  .obtain⟨b1,b2⟩:=P.lb l ((findL_rd k ts' vs d P.rd q2).2 l q3)
   exact⟨b1,λz=> .inr (b2 z)⟩
 have all: ∀l∈G9 {σ:=rpO (λl=>findL l ts') s.σ,tm:=rpO (λl=>findL l ts') s.tm,n:=n'},l<n'/\(l<s.n->l∈G9 s\/l∈labsL ts):=λl h=>by
  rcases l4.mp h with h|h
  .exact hlab s.σ (λl q=>i8 _ q) l h
  .exact hlab s.tm (λl q=>i4 _ q) l h
 refine⟨Sl.rp st M.sl λl hl=>step l (i8 _ hl),Sl.rp st M.tm λl hl=>step l (i4 _ hl),P.inj,P.dom,λl h=>(all l h).1,λl h=> ?_,λa o e=> ?_,P.kd,λl hl z=> ?_,⟨C1 M.bas.1 P.le,λl hl=> ?_⟩⟩
 .rcases hn l (all l h).1 with q|q
  .rw[P.old l q]
   rcases(all l h).2 q with z|z
   .exact M.own l z
   .exact(lb l z).2
  .exact .inr (M.fresh0 q)
 .obtain⟨⟨o1,e1⟩,e2⟩:=M.frm a o e
  obtain⟨e3,e4⟩:=P.fr a o1 e1
  refine⟨e3,λnA=> ?_⟩
  have e5:=e2 nA
  rw[e1] at e5;cases e5
  refine e4 λl hl z=> ?_
  rcases(lb l hl).2 with q|q
  .exact nA (z▸q)
  .rw[<-z,e] at q;cases q
 .rcases hn l hl with q|q
  .rw[P.old l q] at z;exact M.frb l q z
  .obtain⟨⟨o,e⟩,_⟩:=F.zA _ z
   obtain⟨⟨o',e'⟩,_⟩:=M.frm _ o e
   rw[q] at e';cases e'
 .rw[P.old l (A8 hl M.bas.1)];exact M.bas.2 l hl
def MR.call0{n':Nat}(M:MR G F.toFx ρ H σv tv s)(r:RDs G ρ H ts vs)(lb:LB F.toFx ρ s.n (labsL ts))(P:z4Y G ρ s.n ts vs H ρ' n' ts H'):MR G F.toFx ρ' H' σv tv {s with n:=n'}:=by
 have hf: ∀l∈labsL ts,(findL l ts).isSome=true:=λl hl=>findL_some l ts vs r hl
 have M2:=M.call r lb P λl _ hl=>hf l hl
 rw[z0n M.kd M.inj r (λl hl=>(lb l hl).1) s.σ σv M.sl λl hl=>M.lab l (i8 _ hl),z0n M.kd M.inj r (λl hl=>(lb l hl).1) s.tm tv M.tm λl hl=>M.lab l (i4 _ hl)] at M2
 exact M2
open Classical in
noncomputable def z1J(r:RF)(ts:List D):M D:=λs=>match r with
 | .ok t ts' n'=>if ts'=ts then .ok t {s with n:=n'} else
  if ∀l∈G9 s,l∈labsL ts->(findL l ts').isSome=true then .ok t {σ:=rpO (λl=>findL l ts') s.σ,tm:=rpO (λl=>findL l ts') s.tm,n:=n'} else .no
 |_=> .no
noncomputable def Z1(f:FM)(ms:List (M D)):M D:=bd (Z9 ms) λts s=>z1J (f ts s.n) ts s
noncomputable def spM(G:Gx)(np:Nat)(f:FM):Sp:=λvs H Q _=>vs.length=np/\∃ρ n ts,RDs G ρ H ts vs/\(∀i j,i<n->j<n->ρ i=ρ j->i=j)/\(∀l,l<n->∃o,H (ρ l)=some o)/\(∀l∈labsL ts,l<n)/\KD G.K H/\match f ts n with
 | .ok t ts' n'=> ∀ρ' v H',z4Y G ρ n ts vs H ρ' n' ts' H'->RD G ρ' H' t v->(∀l∈labs t,l<n'/\(l<n->l∈labsL ts))->Q v H'
 |_=>False
def z8N{vs:List V}(hl:vs.length=np)(M:MRL G F.toFx ρ H σv tv s ts vs)(W:wM G F σv tv (z1J (f ts s.n) ts s) Q):spM G np f vs H Q E:=by
 refine⟨hl,ρ,s.n,ts,M.rd,M.m.inj,M.m.dom,λl h=>(M.lb l h).1,M.m.kd, ?_⟩
 cases e:f ts s.n with
 |no=>rw[e] at W;exact W
 |ex d ts' n'=>rw[e] at W;exact W
 |ok t ts' n'=>
  rw[e] at W
  intro ρ' v H' P rd lbt
  have own: ∀l∈labs t,F.A0 (ρ' l)\/F.H0 (ρ' l)=none:=λl h=>by
   obtain⟨b1,b2⟩:=lbt l h
   by_cases hn:l<s.n
   .rw[P.old l hn];exact(M.lb l (b2 hn)).2
   .exact .inr (M.m.fresh0 (P.new l (O7.mp hn) b1))
  unfold z1J at W
  dsimp only at W
  split at W
  .rename_i et
   subst et
   exact W.out (M.m.call0 M.rd M.lb P) rd λl h=>⟨(lbt l h).1,own l h⟩
  .split at W
   .rename_i hc
    exact W.out (M.m.call M.rd M.lb P hc) rd λl h=>⟨(lbt l h).1,own l h⟩
   .exact False.elim W
def z8O: ∀(ms:List (M D)) (s:Stt) (ts:List D) (s':Stt),Z9 ms s= .ok ts s'->ts.length=ms.length:=by
 intro ms
 induction ms with
 |nil=>intro s ts s' e;erw[Z9,rt,Res.ok.injEq] at e;rw[<-e.1];rfl
 |cons m ms ih=>
  intro s ts s' e
  erw[Z9,bd,psh] at e
  cases e1:m s with
  |ok t s1=>
   erw[e1] at e
   cases e2:Z9 ms (s1.psh t) with
   |ok ys s2=>
    erw[e2,pop] at e
    cases e3:s2.tm with
    |nil=>erw[e3] at e;cases e
    |cons o r=>
     cases o with
     |none=>erw[e3] at e;cases e
     |some t'=>
      erw[e3,rt,Res.ok.injEq] at e
      rw[<-e.1,A3,A3,ih _ _ _ e2]
   |ex d s2=>erw[e2] at e;cases e
   |no=>erw[e2] at e;cases e
  |ex d s1=>erw[e1] at e;cases e
  |no=>erw[e1] at e;cases e
def se_call{X:Cx}{e:bi}{es:List bi}{pos p:bG}{k:Nat}{ps:List Str}{ms:List (M D)}(hk:X.K=G.K)(Fn:z0c X.prog X.w X.K X.mg X.base CX k fa fd ps (spM G ps.length f))(hr:z29 k X.A)(hg:Gl X x)(hm:X.mg x=some (.ref fa))(hkp:W.keepIn X.K (.ref fa)=true)(hb:z3c X.K fd ps [])(hx:z3p CX X E)
 (ha:SA X G F (e::es) (Z9 ms)) (hln:ms.length=ps.length) (hdb:(x==("__debug__" :Str))=false:=by decide) (he:bh (e::es) X.env=(false,bB e X.env)::bh es X.env:=by rfl) (hpl:(bC pos (bh es X.env)).any (·.1)=false:=by rfl):
 SE X G F (.Call (.Name x p) (e::es) [] pos) (Z1 f ms):=by
 refine PE.imp0 (zcI Fn hr hg hm hkp hb .nil hx ha hdb he hpl) λ σ H Q ⟨tv,hs,ρ,s,M,W⟩=>⟨tv,hs,ρ,s,M, ?_⟩
 unfold Z1 bd at W
 cases e1:Z9 ms s with
 |ex d s1=>rw[e1] at W;exact W
 |no=>rw[e1] at W;exact W
 |ok ts s1=>
  rw[e1] at W
  intro ρ1 vs H1 M1
  rw[l0]
  exact z8N (by rw[<-M1.rd.length,z8O ms s ts s1 e1,hln]) M1 W
noncomputable def z1K(nl:Nat)(mb:MS):FM:=λts n=>match mb {σ:=ts.map some++m9 (nl -ts.length) none,tm:=ts.map some,n:=n} with
 | .nx s'=>match Y2 s'.tm with|some ts'=> .ok .non ts' s'.n|none=> .no
 | .rt t s'=>match Y2 s'.tm with|some ts'=> .ok t ts' s'.n|none=> .no
 | .ex d s'=>match Y2 s'.tm with|some ts'=> .ex d ts' s'.n|none=> .no
 |_=> .no
noncomputable def zaK(G:Gx)(ρ:Nat->Addr)(n:Nat)(ts:List D)(vs:List V)(H:Hp)(lb: ∀l∈labsL ts,l<n)(dom: ∀l,l<n->∃o,H (ρ l)=some o):Fy where
 A0:=λa=> ∃l∈labsL ts,a=ρ l
 H0:=H
 Z:=λa=>(∃o,H a=some o)/\∀l,l<n->a≠ρ l
 zA:=λa z=>⟨z.1,λ⟨l,hl,e⟩=>z.2 l (lb l hl) e⟩
 aH:=λa ⟨l,hl,e⟩=>e▸dom l (lb l hl)
 n0:=n
 ρ0:=ρ
 tv0:=vs.map some
 xw:=λ_ _=>False
theorem RDs.sl: ∀{ts:List D} {vs:List V},RDs G ρ H ts vs->Sl G ρ H (ts.map some) (vs.map some)/\Z4 (ts.map some)=labsL ts
 |[],vs,h=>by erw[RDs] at h;subst h;simp[Sl,Z4,labsL]
 |d::ds,vs,h=>by
  erw[RDs] at h
  obtain⟨x,q,rfl,h1,h2⟩:=h
  obtain⟨q1,q2⟩:=RDs.sl h2
  refine⟨?_,by erw[i6,Z4,labsL,q2]⟩
  erw[i6,Sl]
  exact⟨_,_,rfl,h1,q1⟩
def z6F{ts ts':List D}{vs:List V}{n:Nat}{lb: ∀l∈labsL ts,l<n}{dom: ∀l,l<n->∃o,H (ρ l)=some o}(inj: ∀i j,i<n->j<n->ρ i=ρ j->i=j)(M:MR G (zaK G ρ n ts vs H lb dom).toFx ρ' H' σv (vs.map some) s)(e:Y2 s.tm=some ts'):
 z4Y G ρ n ts vs H ρ' s.n ts' H'/\∀l,l<s.n->((zaK G ρ n ts vs H lb dom).A0 (ρ' l)\/H (ρ' l)=none)->l<n->l∈labsL ts:=by
 have own: ∀l,l<s.n->((zaK G ρ n ts vs H lb dom).A0 (ρ' l)\/H (ρ' l)=none)->l<n->l∈labsL ts:=λl hl q hn=>by
  have ol:=M.bas.2 l hn
  have ol:ρ' l=ρ l:=ol
  rcases q with⟨j,hj,q⟩|q
  .rw[ol] at q
   rw[inj l j hn (lb j hj) q];exact hj
  .rw[ol] at q
   obtain⟨o,z⟩:=dom l hn
   rw[z] at q;cases q
 obtain⟨r1,r2⟩:=Sl.all M.tm e
 refine⟨⟨M.bas.2,M.bas.1,M.inj,M.dom,r1,λl hl=> ?_,λa o e1=> ?_,λl h1 h2=> ?_,M.kd⟩,own⟩
 .rw[r2] at hl
  have m:l∈G9 s:=i4 _ hl
  exact⟨M.lab l m,own l (M.lab l m) (M.own l m)⟩
 .obtain⟨q1,q2⟩:=M.frm a o e1
  exact⟨q1,λz=>q2 λ⟨l,hl,e⟩=>z l hl e⟩
 .cases q:H (ρ' l) with
  |none=>rfl
  |some o=>
   refine absurd ⟨⟨o,q⟩,λj hj e=> ?_⟩ (M.frb l h2)
   have oj:ρ' j=ρ j:=M.bas.2 j hj
   have:=M.inj l j h2 (A8 hj M.bas.1) (e.trans oj.symm)
   lia
def fn_M{P:bm}{w:bo}{K:W.Frag}{mg:Str->Option be}{base:Heap}{x qual:Str}{st:Stmt}{fa:Addr}{fd:bA}{N ps:List Str}{k:Nat}{mb:MS}(Fn:Fun K x qual st fa fd)(S:w6 N ps (y4 st))(hG:G.K=K)
 (hb: ∀(cdv:be) (A:bq) (outer:List dC) (s:bf) (H:Hp) (E:XK) (F:Fy),z29 k (A.deeper (envOfC qual (y4 st) s.heap.objs.size fa cdv))->SSs (zai CX0 P w K mg base N qual (y4 st) fa cdv A outer s H E).nox G F (k7 st) mb):
 z0c P w K mg base CX0 (k+1) fa fd ps (spM G ps.length (z1K N.length mb)):=by
 refine Fn.ok S (λvs H Q E h=>h.1) λcdv A outer s H vs Q E hr h=> ?_
 obtain⟨hl,ρ,n,ts,r,inj,dom,lb,kd,W⟩:=h
 refine⟨_,hb cdv A outer s H E (zaK G ρ n ts vs H lb dom) hr,vs.map some,List.suffix_refl _,ρ,{σ:=ts.map some++m9 (N.length -ts.length) none,tm:=ts.map some,n:=n}, ?_, ?_⟩
 .obtain⟨r1,r2⟩:=RDs.sl r
  have hlen:=r.length
  have sub: ∀l∈G9 {σ:=ts.map some++m9 (N.length -ts.length) none,tm:=ts.map some,n:=n},l∈labsL ts:=λl h=>by
   rcases l4.mp h with h|h
   .have h:l∈Z4 (ts.map some++m9 (N.length -ts.length) none):=h
    rw[W3] at h
    rcases l4.mp h with h|h
    .rw[<-r2];exact h
    .exact absurd h (z2y _)
   .rw[<-r2];exact h
  refine⟨?_,r1,inj,dom,λl h=>lb l (sub l h),λl h=> .inl ⟨l,sub l h,rfl⟩,λa o e=>⟨⟨o,e⟩,λ_=>e⟩,kd,λl hl z=>z.2 l hl rfl,⟨i7 _,λl _=>rfl⟩⟩
  show Sl G ρ H _ (vs.map some++m9 (N.length -vs.length) none)
  rw[<-hlen]
  exact r1.append (Sl.none_map _)
 .unfold z1K at W
  cases e:mb {σ:=ts.map some++m9 (N.length -ts.length) none,tm:=ts.map some,n:=n} with
  |nx s'=>
   erw[e] at W
   cases ea:Y2 s'.tm with
   |none=>erw[ea] at W
   |some ts'=>
    erw[ea] at W
    intro ρ' σv' H' M
    obtain⟨P,_⟩:=z6F inj M ea
    exact W ρ' .non H' P (by erw[RD]) λl h=>by simp[labs] at h
  |rt t s'=>
   erw[e] at W
   cases ea:Y2 s'.tm with
   |none=>erw[ea] at W
   |some ts'=>
    erw[ea] at W
    intro ρ' σv' v H' M
    obtain⟨P,own⟩:=z6F inj M.m ea
    exact W ρ' v H' P M.rd1 λl h=>⟨(M.lb1 l h).1,own l (M.lb1 l h).1 (M.lb1 l h).2⟩
  |bk s'=>erw[e] at W
  |ct s'=>erw[e] at W
  |ex d s'=>
   erw[e] at W
   cases ea:Y2 s'.tm with
   |none=>erw[ea] at W
   |some ts'=>erw[ea] at W
  |no=>erw[e] at W
end
mutual
noncomputable def sz:D->Nat
 | .tup ds=>szL ds+1
 | .ro ds=>szL ds+1
 | .fdc _ vs=>szL vs+1
 | .lst _ ds=>szL ds+1
 | .dct _ _ vs=>szL vs+1
 | .obj _ _ _ vs=>szL vs+1
 | .non=>1| .bool _=>1| .int _=>1| .str _=>1| .exc _=>1| .fn _=>1
noncomputable def szL:List D->Nat
 |[]=>0
 |d::ds=>sz d+szL ds
end
mutual
theorem zaL(l:Nat): ∀(t d:D),findT l t=some d->sz d<=sz t
 | .non,d,e=>by erw[findT] at e;cases e
 | .bool b,d,e=>by erw[findT] at e;cases e
 | .int b,d,e=>by erw[findT] at e;cases e
 | .str b,d,e=>by erw[findT] at e;cases e
 | .exc b,d,e=>by erw[findT] at e;cases e
 | .fn b,d,e=>by erw[findT] at e;cases e
 | .tup ds,d,e=>by erw[findT,sz] at e⊢;have:=findL_sz l ds d e;lia
 | .ro ds,d,e=>by erw[findT,sz] at e⊢;have:=findL_sz l ds d e;lia
 | .fdc ks vs,d,e=>by erw[findT,sz] at e⊢;have:=findL_sz l vs d e;lia
 | .lst k ds,d,e=>by
  erw[findT] at e
  by_cases h:k=l
  .rw[if_pos h] at e;cases e;exact i7 _
  .rw[if_neg h] at e;erw[sz];have:=findL_sz l ds d e;lia
 | .dct k ks vs,d,e=>by
  erw[findT] at e
  by_cases h:k=l
  .rw[if_pos h] at e;cases e;exact i7 _
  .rw[if_neg h] at e;erw[sz];have:=findL_sz l vs d e;lia
 | .obj k c ns vs,d,e=>by
  erw[findT] at e
  by_cases h:k=l
  .rw[if_pos h] at e;cases e;exact i7 _
  .rw[if_neg h] at e;erw[sz];have:=findL_sz l vs d e;lia
theorem findL_sz(l:Nat): ∀(t:List D) (d:D),findL l t=some d->sz d<=szL t
 |[],d,e=>by erw[findL] at e;cases e
 |t::ts,d,e=>by
  erw[findL] at e
  erw[szL]
  cases e1:findT l t with
  |some y=>rw[e1] at e;cases e;have:=zaL l t _ e1;lia
  |none=>rw[e1] at e;have:=findL_sz l ts d e;lia
end
section
variable{G:Gx}{F:Fy}{ρ:Nat->Addr}{H:Hp}{σv tv:List (Option V)}{s:Stt}{t:D}{ts ds es:List D}{v:V}{vs xs ys:List V}{l:Nat}{Q:VK}
def z5O(M:MR G F.toFx ρ H σv tv s)(h:RD G ρ H (.lst l ds) v)(lb: ∀j∈labs (.lst l ds),j<s.n):l∉labsL ds:=λhl=>by
 have h0:=h
 erw[RD] at h0
 obtain⟨rfl,xs,q,r⟩:=h0
 have:=findL_some l ds xs r hl
 cases e:findL l ds with
 |none=>rw[e] at this;cases this
 |some d=>
  obtain⟨q1,q2⟩:=findL_rd l ds xs d r e
  have e2:=RD.uniq M.kd M.inj _ _ _ q1 h (λj hj=>lb j (by erw[labs];exact i5 _ (q2 j hj))) lb
  have e3:=findL_sz l ds d e
  rw[e2] at e3
  erw[sz] at e3
  lia
def MR.put2(M:MR G F.toFx ρ H σv tv s)(ln:l<s.n)(ow:F.A0 (ρ l)\/F.H0 (ρ l)=none)(ts:G6 H (upd H (ρ l) o))(k:KD G.K (upd H (ρ l) o))(hd:RD G ρ (upd H (ρ l) o) d (.ref (ρ l)))(hb:LB F.toFx ρ s.n (labs d)):
 MR G F.toFx ρ (upd H (ρ l) o) σv tv (s.put l d):=by
 have step: ∀k,k∈G9 s->ρ k=ρ k/\(match (if k=l then some d else none:Option D) with|some d=>RD G ρ (upd H (ρ l) o) d (.ref (ρ k))|none=> ∀o',H (ρ k)=some o'->upd H (ρ l) o (ρ k)=some o'):=λk hk=>by
  refine⟨rfl, ?_⟩
  by_cases e:k=l
  .rw[if_pos e];subst e;exact hd
  .rw[if_neg e]
   intro o' q
   rw[y9 (λz=>e (M.inj k l (M.lab k hk) ln z))]
   exact q
 have sub: ∀(xs:List (Option D)) (j:Nat),j∈Z4 (rpO (λk=>if k=l then some d else none) xs)->(∀i∈Z4 xs,i∈G9 s)->j<s.n/\(F.A0 (ρ j)\/F.H0 (ρ j)=none):=λxs j h hx=>by
  rcases z2c j xs h with q|⟨k,d',q1,q2,q3⟩
  .exact⟨M.lab j (hx j q),M.own j (hx j q)⟩
  .by_cases e:k=l
   .rw[if_pos e] at q2;cases q2;exact hb j q3
   .rw[if_neg e] at q2;cases q2
 have all: ∀j∈G9 (s.put l d),j<s.n/\(F.A0 (ρ j)\/F.H0 (ρ j)=none):=λj h=>by
  rcases l4.mp h with h|h
  .exact sub s.σ j h λi hi=>i8 _ hi
  .exact sub s.tm j h λi hi=>i4 _ hi
 refine⟨Sl.rp ts M.sl λk hk=>step k (i8 _ hk),Sl.rp ts M.tm λk hk=>step k (i4 _ hk),M.inj,λk hk=> ?_,λj h=>(all j h).1,λj h=>(all j h).2,λa o' e=> ?_,k,M.frb,M.bas⟩
 .by_cases e:ρ k=ρ l
  .rw[e];exact⟨o,y8⟩
  .rw[y9 e];exact M.dom k hk
 .obtain⟨⟨o1,e1⟩,e2⟩:=M.frm a o' e
  by_cases ea:a=ρ l
  .subst ea
   refine⟨⟨o,y8⟩,λn=> ?_⟩
   rcases ow with q|q
   .exact absurd q n
   .rw[e] at q;cases q
  .rw[y9 ea]
   exact⟨⟨o1,e1⟩,e2⟩
def z2A(k:KD G.K H)(e:H a=some o):KD G.K (upd H a o'):=λb ob q=>by
 by_cases h:b=a
 .subst h;rw[k _ _ q] at e;cases e
 .rw[y9 h];exact k _ _ q
def z4Z(e:H a=some (.lst xs)):G6 H (upd H a o'):=
 ⟨λb ys q=>by rw[y9 (z07 q e (by intro z;cases z))];exact q,λb o u q=>by rw[y9 (z07 q e (by intro z;cases z))];exact q⟩
def RDs.upd{a:Addr}(st:G6 H (upd H (ρ l) o))(inj: ∀i j,i<s.n->j<s.n->ρ i=ρ j->i=j)(ln:l<s.n)(r:RDs G ρ H ds xs)(lb: ∀j∈labsL ds,j<s.n/\j≠l):RDs G ρ (L2.upd H (ρ l) o) ds xs:=
 RDs.stay st ds xs r λj hj=>⟨rfl,λo' e=>by rw[y9 (λz=>(lb j hj).2 (inj j l (lb j hj).1 ln z))];exact e⟩
def MR.putL(M:MR G F.toFx ρ H σv tv s)(hl:H (ρ l)=some (.lst xs))(ln:l<s.n)(ow:F.A0 (ρ l)\/F.H0 (ρ l)=none)(r:RDs G ρ H es ys)(lb:LB F.toFx ρ s.n (labsL es))(ne:l∉labsL es):
 MR G F.toFx ρ (upd H (ρ l) (.lst ys)) σv tv (s.put l (.lst l es)):=by
 refine M.put2 ln ow (z4Z hl) (z2A M.kd hl) ?_ λj hj=> ?_
 .erw[RD]
  exact⟨trivial,ys,y8,RDs.upd (a:=0) (z4Z hl) M.inj ln r λj hj=>⟨(lb j hj).1,λz=>ne (z▸hj)⟩⟩
 .erw[labs] at hj
  rcases l7.mp hj with q|q
  .rw[q];exact⟨ln,ow⟩
  .exact lb j q
end
noncomputable def z2B:D->List D->M D
 | .lst l ds,[y]=>λs=>if ds.length<sizeLine/\l∉labs y then .ok .non (s.put l (.lst l (ds++[y]))) else .no
 |_,_=>fl
noncomputable def z25:D->List D->M D
 | .lst l ds,[y]=>λs=>match z7M y with
  |some es=>if ds.length+es.length<=sizeLine/\l∉labsL es then .ok .non (s.put l (.lst l (ds++es))) else .no
  |none=> .no
 |_,_=>fl
noncomputable def isL(x:D):M Unit:=λs=>match zeh x with|some _=> .ok () s|none=> .no
noncomputable def J2(mo:M D)(ms:List (M D))(g:D->List D->M D):M D:=bd mo λx=>bd (isL x) λ_=>bd (psh x) λ_=>bd (Z9 ms) λys=>bd pop λx'=>g x' ys
section
variable{X:Cx}{G:Gx}{F:Fy}{e o:bi}{es:List bi}{apos cpos:bG}
noncomputable def zfY(G:Gx)(F:Fy)(r:V->List V->Hp->VK->Prop)(g:D->List D->M D):Prop:= ∀ρ s t ts v vs H σv tv Q,MRL G F.toFx ρ H σv tv s (t::ts) (v::vs)->wM G F σv tv (g t ts s) Q->r v vs H (λw H'=>KD G.K H'->Q w H')
def MRL.hd{s:Stt}(M:MRL G F.toFx ρ H σv tv s (t::ts) (v::vs)):RD G ρ H t v/\RDs G ρ H ts vs/\LB F.toFx ρ s.n (labs t)/\LB F.toFx ρ s.n (labsL ts):=by
 have h:=M.rd
 erw[RDs] at h
 obtain⟨_,_,e,h1,h2⟩:=h
 cases e
 exact⟨h1,h2,λl h=>M.lb l (by erw[labsL];exact i8 _ h),λl h=>M.lb l (by erw[labsL];exact i4 _ h)⟩
def zfZ:zfY G F z88 z2B:=by
 intro ρ s t ts v vs H σv tv Q M W
 obtain⟨h1,h2,b1,b2⟩:=M.hd
 unfold z2B at W
 split at W
 .rename_i l ds y
  split at W
  .rename_i hc
   have h1':=h1
   erw[RD] at h1
   obtain⟨rfl,xs,hx,r⟩:=h1
   erw[RDs] at h2
   obtain⟨u,q,rfl,h2,rfl⟩:=h2
   have ns:=z5O M.m h1' λj hj=>(b1 j hj).1
   have bl:=b1 l (by erw[labs];exact l5 ..)
   refine⟨_,xs,u,rfl,rfl,hx,by rw[<-r.length];exact hc.1,λ_=>W.out (M.m.putL hx bl.1 bl.2 (r.append (RDs.one h2)) ?_ ?_) (by erw[RD]) λl h=>by simp[labs] at h⟩
   .intro j hj
    rw[j9] at hj
    rcases l4.mp hj with q|q
    .exact b1 j (by erw[labs];exact i5 _ q)
    .exact b2 j q
   .intro hj
    rw[j9] at hj
    rcases l4.mp hj with q|q
    .exact ns q
    .erw[labsL,l0] at q;exact hc.2 q
  .exact False.elim W
 .exact wfl W
def zg0:zfY G F (zfu G.K) z25:=by
 intro ρ s t ts v vs H σv tv Q M W
 obtain⟨h1,h2,b1,b2⟩:=M.hd
 unfold z25 at W
 split at W
 .rename_i l ds y
  cases ey:z7M y with
  |none=>erw[ey] at W;exact False.elim W
  |some es=>
   erw[ey] at W
   split at W
   .rename_i hc
    have h1':=h1
    erw[RD] at h1
    obtain⟨rfl,xs,hx,r⟩:=h1
    erw[RDs] at h2
    obtain⟨u,q,rfl,h2,rfl⟩:=h2
    obtain⟨a,ys,rfl,sq,r2,sub⟩:=h2.seq ey
    have ns:=z5O M.m h1' λj hj=>(b1 j hj).1
    have bl:=b1 l (by erw[labs];exact l5 ..)
    refine⟨_,a,xs,ys,rfl,rfl,hx,sq.symm,by rw[<-r.length,<-r2.length];exact hc.1,λ_=>W.out (M.m.putL hx bl.1 bl.2 (r.append r2) ?_ ?_) (by erw[RD]) λl h=>by simp[labs] at h⟩
    .intro j hj
     rw[j9] at hj
     rcases l4.mp hj with q|q
     .exact b1 j (by erw[labs];exact i5 _ q)
     .exact b2 j (by erw[labsL,l0];exact sub j q)
    .intro hj
     rw[j9] at hj
     rcases l4.mp hj with q|q
     .exact ns q
     .exact hc.2 q
   .exact False.elim W
 .exact wfl W
def zaM{r:V->List V->Hp->VK->Prop}(hT:T= "list")(hg:zfY G F r g)(h:tM G F (J2 mo ms g) σ H Q):
 tM G F mo σ H λx H1=>tyV G.K T x H1/\tML G F (Z9 ms) σ H1 λxs H2=>r x xs H2 λw H'=>KD G.K H'->Q w H':=by
 obtain⟨tv,h⟩:=h
 have hs:=h.1
 refine⟨tv,(zay h).mono λv H1 ⟨ρ1,s1,t,M1,W⟩=> ?_⟩
 erw[bd,isL] at W
 cases e1:zeh t with
 |none=>erw[e1] at W;exact False.elim W
 |some ds=>
  erw[e1,psh] at W
  obtain⟨a,xs,rfl,sq,_⟩:=M1.rd1.lstq e1
  refine⟨.inl ⟨hT,xs,sq⟩,some (.ref a)::tv,z8y hs,ρ1,s1.psh t,M1.push, ?_⟩
  cases e2:Z9 ms (s1.psh t) with
  |ex d s2=>erw[e2] at W;exact W
  |no=>erw[e2] at W;exact W
  |ok ys s2=>
   erw[e2,pop] at W
   intro ρ2 us H2 M2
   cases e3:s2.tm with
   |nil=>erw[e3] at W;exact False.elim W
   |cons o r=>
    cases o with
    |none=>erw[e3] at W;exact False.elim W
    |some t'=>
     erw[e3] at W
     exact hg _ _ _ _ _ _ _ _ _ _ (M2.down e3) W
def zdl{name:Str}{id:String}{r:V->List V->Hp->VK->Prop}{mo:M D}{ms:List (M D)}{g:D->List D->M D}(hk:X.K=G.K)(slot:Slot "list" name id)(hty:fN (.builtin id)=pure (.type "method_descriptor"))(hm:MtR X id r)(hg:zfY G F r g)(ho:SE X G F o mo)(ha:SA X G F (e::es) (Z9 ms))
 (hbase:bN o name X.env (bB o X.env)=bB o X.env:=by rfl)
 (hfew:((bC cpos (bh (e::es) X.env)).all (λx=> !x.1)&&(cm cpos (bS [] X.env)).all (λx=>x.1.isSome)
  &&decide ((e::es).length+([]:List bM).length+(if([]:List bM).isEmpty then 0 else 1)<30))=true:=by rfl)
 (hline:(apos.endLine==cpos.line)=true:=by rfl) (hs:bh (e::es) X.env=(false,bB e X.env)::bh es X.env:=by rfl) (hplain:(bC cpos (bh es X.env)).any (·.1)=false:=by rfl):SE X G F (.Call (.Attribute o name apos) (e::es) [] cpos) (J2 mo ms g):=by
 refine PE.imp hk (zhX PySem.F.plainAttrs_list slot hty hm ho ha hbase hfew hline hs hplain) λ σ H Q h=> ?_
 rw[hk]
 exact zaM rfl hg h
noncomputable def zbR(o i v:D):MS:=λs=>match o,i with
 | .lst l ds, .int k=>match ixN ds.length k with
  |some j=>if l∉labs v then .nx (s.put l (.lst l (ds.set j v))) else .no
  |none=> .no
 |_,_=> .no
noncomputable def z1f(me mo mi:M D)(g:D->D->D->MS):MS:=z0K me λv=>z0K (psh v) λ_=>z0K mo λo=>z0K (psh o) λ_=>z0K mi λi=>z0K pop λo'=>z0K pop λv'=>g o' i v'
def zaN{mo mi:M D}{g:D->D->D->MS}{Dd:z5u}(hs:F.tv0<:+tv)(M1:MRL G F.toFx ρ1 H1 σ tv s1 [t] [v])
 (W:wS G F tv ((z0K (psh t) λ_=>z0K mo λo=>z0K (psh o) λ_=>z0K mi λi=>z0K pop λo'=>z0K pop λv'=>g o' i v') s1) Dd):
 tM G F mo σ H1 λo H2=>tM G F mi σ H2 λi H3=> ∃ρ s t1 t2 t3,MRL G F.toFx ρ H3 σ tv s [t1,t2,t3] [v,o,i]/\wS G F tv (g t2 t3 t1 s) Dd:=by
 refine⟨some v::tv,z8y hs,ρ1,s1.psh t,M1.push, ?_⟩
 erw[z0K,psh] at W
 cases e1:mo (s1.psh t) with
 |ex d s2=>erw[e1] at W;exact W
 |no=>erw[e1] at W;exact W
 |ok o s2=>
  erw[e1] at W
  intro ρ2 u H2 M2
  refine⟨some u::some v::tv,z8y (z8y hs),ρ2,s2.psh o,M2.push, ?_⟩
  cases e2:mi (s2.psh o) with
  |ex d s3=>erw[e2] at W;exact W
  |no=>erw[e2] at W;exact W
  |ok i s3=>
   erw[e2,pop] at W
   intro ρ3 w H3 M3
   cases e3:s3.tm with
   |nil=>erw[e3] at W;exact False.elim W
   |cons o3 r3=>
    cases o3 with
    |none=>erw[e3] at W;exact False.elim W
    |some x3=>
     erw[e3] at W
     cases r3 with
     |nil=>exact False.elim W
     |cons o4 r4=>
      cases o4 with
      |none=>exact False.elim W
      |some x4=>
       have M4:=M3.down e3
       have M5:=M4.down (s':={s3 with tm:=some x4::r4}) rfl
       exact⟨ρ3,_,x4,x3,i,M5,W⟩
def z3X(h:tSv G F (z1f me mo mi g) tv Dd σ H):
 tM G F me σ H λv H1=>tM G F mo σ H1 λo H2=>tM G F mi σ H2 λi H3=> ∃ρ s t1 t2 t3,MRL G F.toFx ρ H3 σ tv s [t1,t2,t3] [v,o,i]/\wS G F tv (g t2 t3 t1 s) Dd:=
 ⟨tv,(z0X h).mono λv H1 ⟨ρ1,s1,t,M1,W⟩=>zaN h.1 M1 W⟩
def zg1{ρ:Nat->Addr}{s:Stt}{t1 t2 t3:D}{v o i:V}{H:Hp}{σv tv:List (Option V)}{Dd:z5u}(M:MRL G F.toFx ρ H σv tv s [t1,t2,t3] [v,o,i])(W:wS G F tv (zbR t2 t3 t1 s) Dd):zal o i v H λH'=>Dd.nx σv H':=by
 have h:=M.rd
 erw[RDs] at h
 obtain⟨_,_,e,h1,_,_,e2,h2,_,_,e3,h3,_⟩:=h
 cases e;cases e2;cases e3
 have b1:LB F.toFx ρ s.n (labs t1):=λl h=>M.lb l (by erw[labsL];exact i8 _ h)
 have b2:LB F.toFx ρ s.n (labs t2):=λl h=>M.lb l (by erw[labsL];exact i4 _ (i8 _ h))
 cases t2 with
 |lst l ds=>
  cases t3 with
  |int k=>
   erw[zbR] at W
   cases ek:ixN ds.length k with
   |none=>erw[ek] at W;exact False.elim W
   |some j=>
    erw[ek] at W
    by_cases hc:l∉labs t1
    .rw[if_pos hc] at W
     have h2':=h2
     erw[RD] at h2 h3
     obtain⟨rfl,xs,hx,r⟩:=h2
     subst h3
     have ns:=z5O M.m h2' λj hj=>(b2 j hj).1
     have bl:=b2 l (by erw[labs];exact l5 ..)
     have mm: ∀q,q∈labsL (ds.set j t1)->q∈labsL ds\/q∈labs t1:=λq hq=>by
      obtain⟨d,h1,h2⟩:=X6 hq
      rcases List.mem_or_eq_of_mem_set h1 with z|z
      .exact .inl (labsL_mem z q h2)
      .subst z;exact .inr h2
     refine⟨_,xs,k,j,rfl,rfl,hx,by rw[<-r.length];exact ek,W ρ σv _ (M.m.putL hx bl.1 bl.2 (r.set j h1) (λq hq=> ?_) λhq=> ?_)⟩
     .rcases mm q hq with z|z
      .exact b2 q (by erw[labs];exact i5 _ z)
      .exact b1 q z
     .rcases mm l hq with z|z
      .exact ns z
      .exact hc z
    .rw[if_neg hc] at W;exact False.elim W
  |_=>exact False.elim W
 |_=>exact False.elim W
def ss_setI{ob ix:bi}{pos tpos:bG}{mo mi me:M D}(he:SE X G F e me)(ho:SE X G F ob mo)(hi:SE X G F ix mi)(hg: ∀{to ti:TE},PE X ob to->PE X ix ti->PG X (.Subscript ob ix tpos) (zhH to ti zal))(hs:cu [.Subscript ob ix tpos] e pos.line X.env=pure false:=by rfl)(hw:cw [.Subscript ob ix tpos] e X.env=pure none:=by rfl)
 (h1:(bu [.Subscript ob ix tpos] X.env).map (·.2)=[cE (.Subscript ob ix tpos) X.env]:=by rfl):SS X G F (.Assign [.Subscript ob ix tpos] e pos) (z1f me mo mi zbR):=by
 refine PS.imp0 (zby he (hg ho hi) hs hw h1) λDd σ H ⟨tv,h⟩=> ?_
 exact(z3X h).mono λv H1 h1=>h1.mono λo H2 h2=>h2.mono λi H3 ⟨ρ,s,t1,t2,t3,M,W⟩=>zg1 M W
end
end Mi
namespace Mi
open PySem L2
section
variable{X:Cx}{G:Gx}{F:Fy}{e a b c:bi}{pos:bG}{ma mb mc m:M D}
def se_add(hk:X.K=G.K)(ha:SE X G F a ma)(hb:SE X G F b mb):SE X G F (.BinOp a .Add b pos) (y2 ma mb v6):=
 z8A hk (r:=λx y H Q=>rI0 (λi j=> .int (i+j)) x y H Q\/zd6 G.K x y H Q\/zhY x y H Q\/∃i j,x= .str i/\y= .str j/\i.length+j.length<=sizeLine/\Q (.str (i++j)) H) (hk▸OpR.or zeJ (OpR.or zd7 (OpR.or zeY z76))) zfz ha hb
def se_mul(hk:X.K=G.K)(ha:SE X G F a ma)(hb:SE X G F b mb):SE X G F (.BinOp a .Mult b pos) (y2 ma mb z7h):=z8A hk (r:=λx y H Q=>rI zaf (λi j=> .int (i*j)) x y H Q\/(zhZ x y H Q\/zd8 G.K x y H Q)) (OpR.or zeK (OpR.or zeZ (hk▸zd9))) zfE ha hb
def se_fdiv(hk:X.K=G.K)(ha:SE X G F a ma)(hb:SE X G F b mb):SE X G F (.BinOp a .FloorDiv b pos) (y2 ma mb z3g):=z8A hk zcE zdc ha hb
def se_mod(hk:X.K=G.K)(ha:SE X G F a ma)(hb:SE X G F b mb):SE X G F (.BinOp a .Mod b pos) (y2 ma mb z24):=z8A hk zeL zfA ha hb
def se_pow(hk:X.K=G.K)(ha:SE X G F a ma)(hb:SE X G F b mb):SE X G F (.BinOp a .Pow b pos) (y2 ma mb zaB):=z8A hk zeM zfB ha hb
structure Cm(X:Cx)(G:Gx)(F:Fy)(op:dN)(g:D->D->M D):Prop where
 h: ∃r,OpR X (bX op) r/\z3f G F r g
def zaO:Cm X G F .Lt ltD:=⟨_,zhN,zic⟩
def z8P:Cm X G F .Gt gtD:=⟨_,zhO,zid⟩
def z3j(hk:X.K=G.K)(hu:X.A.units+64<cLine):Cm X G F .Eq eqD:=⟨_,hk▸zfs hu,zie⟩
def z8Q(hk:X.K=G.K)(hu:X.A.units+64<cLine):Cm X G F .NotEq neD:=⟨_,hk▸zft hu,zif⟩
def zbS:Cm X G F .Is isN:=⟨_,zeO,zfC⟩
def se_cmp(hc:Cm X G F op g)(ha:SE X G F a ma)(hb:SE X G F b mb)(hm:bI op b=false):SE X G F (.Compare a [op] [b] pos) (y2 ma mb g):=by
 obtain⟨r,h1,h2⟩:=hc.h
 exact zda h1 h2 ha hb hm
def sb_cmp(hc:Cm X G F op g)(ha:SE X G F a ma)(hb:SE X G F b mb)(hm:bI op b=false):SB X G F (.Compare a [op] [b] pos) (G7 (y2 ma mb g)):=by
 obtain⟨r,h1,h2⟩:=hc.h
 exact zdg h1 h2 ha hb hm
def se_idx(hk:X.K=G.K)(ha:SE X G F a ma)(hb:SE X G F b mb)(hs:z0H b):SE X G F (.Subscript a b pos) (y2 ma mb ixD):=zib hk (hk▸IxR.or zcO zeW) zig ha hb hs
structure Cb(X:Cx)(G:Gx)(F:Fy)(f:be)(g:List D->M D):Prop where
 h: ∃r,CallR X f r/\V7 G F r g
def zg2(hk:X.K=G.K):Cb X G F (.builtin "len") U3:=⟨_,hk▸z4L,zfJ⟩
def zg3:Cb X G F (.builtin "abs") zej:=⟨_,zah,zfK⟩
def zbT(hc:X.calm=true):Cb X G F (.builtin "min") zdi:=⟨_,z80 hc,zfL⟩
def zg4(hc:X.calm=true):Cb X G F (.builtin "max") zek:=⟨_,z7Z hc,zfM⟩
def zbU(hk:X.K=G.K)(hd:X.A.handled=none):Cb X G F (.builtin "all") zaD:=⟨_,hk▸z8n hd,zfN⟩
def zg5(hk:X.K=G.K)(hd:X.A.handled=none):Cb X G F (.builtin "any") zel:=⟨_,hk▸z8o hd,zfO⟩
def z8R:Cb X G F (.type "int") za4:=⟨_,z81,zfP⟩
def z2e(hk:X.K=G.K):Cb X G F (.type "tuple") z6z:=⟨_,hk▸z8u,zdj⟩
def z5P(hk:X.K=G.K):Cb X G F (.type "list") z3i:=⟨_,hk▸z4M,zaE⟩
def se_cb{x:Str}{p:bG}{es:List bi}{ms:List (M D)}{g:List D->M D}{id:String}(hk:X.K=G.K)(hc:Cb X G F (.builtin id) g)(hgl:Gl X x)(hm:X.mg x=none)(hv:bF x=some (.builtin id))(ha:SA X G F (e::es) (Z9 ms))(hn:x≠ "__name__" :=by decide)(hdb:(x==("__debug__" :Str))=false:=by decide)
 (he:bh (e::es) X.env=(false,bB e X.env)::bh es X.env:=by rfl) (hpl:(bC pos (bh es X.env)).any (·.1)=false:=by rfl):SE X G F (.Call (.Name x p) (e::es) [] pos) (mCB ms g):=by
 obtain⟨r,h1,h2⟩:=hc.h
 exact zaz hk h1 h2 hgl hm hv ha hn hdb he hpl
def se_ct{p:bG}(hk:X.K=G.K)(hc:Cb X G F (.type T) g)(hgl:Gl X x)(hm:X.mg x=none)(hv:bF x=some (.type T))(ha:SA X G F (e::es) (Z9 ms))(hn:x≠ "__name__" :=by decide)(hdb:(x==("__debug__" :Str))=false:=by decide)
 (he:bh (e::es) X.env=(false,bB e X.env)::bh es X.env:=by rfl) (hpl:(bC pos (bh es X.env)).any (·.1)=false:=by rfl):SE X G F (.Call (.Name x p) (e::es) [] pos) (mCB ms g):=by
 obtain⟨r,h1,h2⟩:=hc.h
 exact z8D hk h1 h2 hgl hm hv ha hn hdb he hpl
structure Cl(X:Cx)(G:Gx)(F:Fy)(id:String)(g:D->List D->M D):Prop where
 h: ∃r,MtR X id r/\zfY G F r g
def V8:Cl X G F "list.append" z2B:=⟨_,z4N,zfZ⟩
def V9(hk:X.K=G.K):Cl X G F "list.extend" z25:=⟨_,hk▸zd4,zg0⟩
end
end Mi
namespace Mi
open PySem L2 PySem.Spec PyProof.Rows
end Mi
namespace Mi
open PySem L2
noncomputable def G0(K:W.Frag):Gx:=⟨K,λ_=>none,λ_ _ _ h=>(by cases h),λ_ _ h=>(by cases h)⟩
section
variable{X:Cx}{G:Gx}{F:Fy}{e o:bi}{es:List bi}{apos cpos:bG}
def se_cl{name:Str}{id:String}{mo:M D}{ms:List (M D)}{g:D->List D->M D}(hk:X.K=G.K)(slot:Slot "list" name id)(hty:fN (.builtin id)=pure (.type "method_descriptor"))(hm:Cl X G F id g)(ho:SE X G F o mo)(ha:SA X G F (e::es) (Z9 ms))
 (hbase:bN o name X.env (bB o X.env)=bB o X.env:=by rfl)
 (hfew:((bC cpos (bh (e::es) X.env)).all (λx=> !x.1)&&(cm cpos (bS [] X.env)).all (λx=>x.1.isSome)
  &&decide ((e::es).length+([]:List bM).length+(if([]:List bM).isEmpty then 0 else 1)<30))=true:=by rfl)
 (hline:(apos.endLine==cpos.line)=true:=by rfl) (hs:bh (e::es) X.env=(false,bB e X.env)::bh es X.env:=by rfl) (hplain:(bC cpos (bh es X.env)).any (·.1)=false:=by rfl):SE X G F (.Call (.Attribute o name apos) (e::es) [] cpos) (J2 mo ms g):=by
 obtain⟨r,h1,h2⟩:=hm.h
 exact zdl hk slot hty h1 h2 ho ha hbase hfew hline hs hplain
end
inductive SEs(X:Cx)(G:Gx)(F:Fy):List bi->List (M D)->Prop
 |nil:SEs X G F [] []
 |cons {e:bi} {m:M D} {es:List bi} {ms:List (M D)}:SE X G F e m->nst e=true->SEs X G F es ms->SEs X G F (e::es) (m::ms)
def sa_of{X:Cx}{G:Gx}(hk:X.K=G.K)(h:SEs X G F es ms):SA X G F es (Z9 ms):=by
 induction h with
 |nil=>exact zfy hk
 |cons h1 h2 _ ih=>exact zdb hk h1 ih h2
end Mi
namespace L2
open PySem PySem.Spec PyProof.Rows
structure Fly(P:bm)(w:bo)(outer:List dC)(H:Hp)(s:bf)(H':Hp)(C:be)(e:Addr)(s':bf):Prop where
 os:s'.os=s.os
 bare:cB s'.gens
 un:Un (frs outer) [] H H' s.heap s'.heap
 hok:HOk P w H' s'.heap
 he:H' e=none
 se:s.heap.get? e=none
 tr: ∃oe vs a0 T oT ts,s'.heap.get? e=some oe/\(oe.cls=C/\vs[0]? =some a0)/\oe.data= .fields vs/\vs[1]? =some (.ref T)/\T≠e/\s'.heap.get? T=some oT/\oT.data= .fields ts/\ts[3]? =some .none/\H' T=none/\s.heap.get? T=none
noncomputable def CX1(P:bm)(w:bo):CXT:=λouter H s E e s'=> ∃a C H',e= .ref a/\Fly P w outer H s H' C a s'/\E C none H'
noncomputable def zii(X:Cx)(E:St->XK):Prop:= ∀(pins:List (Addr×bK)) (σ:St) (H:Hp) (s:bf) (e:be) (s':bf),Inv X pins σ H s->CX1 X.prog X.w X.stack H s (E σ) e s'->X.xe e s'
end L2
namespace L2
open PySem PySem.Spec PySem.Calls PyProof.Rows Builtin Builtin.ObjectAttr Builtin.Getset_descriptor
structure zkh(K:W.Frag)(C:Addr):Prop where
 ob:W.mroIn K C (.type "object")=some true
 ba:W.mroIn K C (.type "BaseException")=some true
 f1:W.findIn K (.ref C) "__getattribute__" =some (some (.builtin "BaseException.__getattribute__"))
 f2:W.findIn K (.ref C) "__getattr__" =some none
 f3:W.findIn K (.ref C) "__class__" =some (some (.builtin "object.__class__"))
end L2
namespace L2
open PySem PySem.Spec PySem.Calls PyProof.Rows
end L2
namespace L2
open PySem PySem.Spec PySem.SeqAt PySem.Calls PyProof.Rows
end L2
namespace L2
open PySem PySem.Spec PySem.Calls PyProof.Rows
structure zij(k:Nat)(A:bq):Prop where
 dp:A.depth+3*k+5<recursionLimit
 un:A.units+16*k+200<cLine
 gd:A.guards=some []
structure FnOkH(P:bm)(w:bo)(K:W.Frag)(mg:Str->Option be)(base:Heap)(CX:CXT)(k:Nat)(f:Addr)(fd:bA)(ps:List Str)(sp:Sp):Prop where
 len: ∀vs H Q E,sp vs H Q E->vs.length=ps.length
 run: ∀(A:bq) (outer:List dC) (s:bf) (H:Hp) (args:Args) (us:List be) (vs:List V) (Q:VK) (E:XK),zij k A->zeS P w K mg base A outer s H->cQ s fd args (ps.zip us)->J4 vs us->sp vs H Q E->
  cR (bn P w) A (.call (.ref f) args) (CR CX outer P w H s Q E) s
end L2
namespace L2
open PySem PySem.Spec PyProof.Rows
section
variable{X:Cx}
noncomputable def z8S(K:W.Frag)(tk tv:TE):TE:=λ σ H Q=> ∀p,H p=none->(∀a o,K.lookup a=some o->upd H p (.dT []) a=none)->z8d [(tk,tv)] σ (upd H p (.dT [])) λps H2=> ∃b y ks,ps=[(.ref b,y)]/\H2 p=some (.dT [])/\TK H2 ks b/\Q (.ref p) (upd H2 p (.dT [(ks,y)]))
def z8T(hu:X.A.units+2<cLine)(hk:PE X k tk)(hv:PE X v tv):PE X (.Dict [some k] [v] pos) (z8S X.K tk tv):=by
 intro pins s σ H Q I q
 have hn:=I.hok.fresh (i7 s.heap.objs.size)
 have I1:=I.laid (a:=s.heap.objs.size) (o:= .dT []) (h':=s.heap.push {cls:= .type "dict",data:= .dict #[]}) (t':=s.toks) (λ_ _ q=>Heap.get?_push_of_some _ q) (i7 _) (z6t s.heap I.big)
 have hall:([some k]:List (Option bi)).all (·.isSome)=true:=rfl
 have hshape:=zip_pairTrees [some k] [v] X.env pos hall rfl
 rw[arm_eval_Dict,hshape,dictDisplay_pairs (pairTrees [some k] [v] X.env pos) (by intro z;exact nomatch z) (by show 1<17;decide)]
 refine bb (cJ (bb ?_))
 unfold subDict
 refine bb (wpAny_alloc ?_)
 refine bb (br ?_)
 rw[if_pos (by show 1<=15;decide)]
 refine bb (thn (zap hk hv zcV pins _ σ _ _ I1 (q _ hn λa o e=>(I1.bs a o (I1.ok.mod.kin a o e)).2)) λws s2 ⟨ps,H2,I2,rel,hD⟩=> ?_)
 obtain⟨b,y,ks,rfl,hp,hb,q2⟩:=hD
 cases rel with
 | @cons _ w1 _ _ r1 r2=>
  cases r2
  obtain⟨kv,vv⟩:=w1
  obtain⟨rk,rv⟩:=r1
  cases(show kv=Value.ref b from rk)
  refine br ?_
  obtain⟨z,hd,xs,rel,dd⟩:=zf1 I2.hok hp
  cases rel
  show bj _ _ (forIn [(Value.ref b,vv)] PUnit.unit _>>=_) _ _ _
  rw[u05]
  refine bb (bb (bb (wpAny_dictSet_heap (hsz:=C0 _) (show X.A.units+1<cLine by lia) (z4P I2.hok hb) dd λh' dd' hs=>bg ?_)))
  refine bg (a:=PUnit.unit) (bg (bg (bg ?_)))
  obtain⟨o,es,ep,hq,h2,h3,h4,_,h5⟩:=dd'
  refine⟨.ref s.heap.objs.size,_,z5C (ob:= .dT [(ks,y)]) I2 (by rw[hp];exact True.intro) hs ⟨o,hq⟩ ⟨?_,hd,_,((KT.put (k:=ks) (H:=H2) (kvs:=[]) .nil hb rv)).keeps λc ys ec=> ?_,o,es,ep,hq,h2,h3,h4,h5⟩,rfl,q2⟩
  .rw[di,F9];decide
  .rw[y9 (z07 ec hp (λz=>nomatch z))]
   exact ec
end
end L2
namespace Mi
open PySem L2 PySem.Spec
open PyProof.Rows (envOfC)
structure XP(X:Cx)(G:Gx)(F:Fy)(E:L2.St->XK):Prop where
 ps:zii X E
 xw: ∀c s',F.xw (.exc c) s'->∀ρ σv tv H C,F.tv0<:+tv->MR G F.toFx ρ H σv tv s'->G.cl c=some C->E σv (.ref C) none H
 no: ∀d s',F.xw d s'->∃c,d= .exc c
open Classical in
noncomputable def zjm(r:RF)(ts:List D):M D:=λs=>match r with
 | .ok t ts' n'=>if ts'=ts then .ok t {s with n:=n'} else
  if ∀l∈G9 s,l∈labsL ts->(findL l ts').isSome=true then .ok t {σ:=rpO (λl=>findL l ts') s.σ,tm:=rpO (λl=>findL l ts') s.tm,n:=n'} else .no
 | .ex d ts' n'=>if ts'=ts then .ex d {s with n:=n'} else
  if ∀l∈G9 s,l∈labsL ts->(findL l ts').isSome=true then .ex d {σ:=rpO (λl=>findL l ts') s.σ,tm:=rpO (λl=>findL l ts') s.tm,n:=n'} else .no
 | .no=> .no
noncomputable def spX(G:Gx)(np:Nat)(f:FM):Sp:=λvs H Q E=>vs.length=np/\∃ρ n ts,RDs G ρ H ts vs/\(∀i j,i<n->j<n->ρ i=ρ j->i=j)/\(∀l,l<n->∃o,H (ρ l)=some o)/\(∀l∈labsL ts,l<n)/\KD G.K H/\match f ts n with
 | .ok t ts' n'=> ∀ρ' v H',z4Y G ρ n ts vs H ρ' n' ts' H'->RD G ρ' H' t v->(∀l∈labs t,l<n'/\(l<n->l∈labsL ts))->Q v H'
 | .ex d ts' n'=> ∃c,d= .exc c/\∀ρ' H' C,z4Y G ρ n ts vs H ρ' n' ts' H'->G.cl c=some C->E (.ref C) none H'
 | .no=>False
noncomputable def zik(k:Nat)(tm:List (Option D)):List (Option D):=tm.drop (tm.length -k)
end Mi
namespace Mi
open PySem L2 PySem.Spec
inductive Al(Φ:Addr->Prop):List (Str×Addr)->Prop
 |nil:Al Φ []
 |cons {c:Str} {a:Addr} {l:List (Str×Addr)}:Φ a->Al Φ l->Al Φ ((c,a)::l)
inductive Al2{β:Type}(Φ:Addr->β->Prop):List (Str×Addr)->List (Str×β)->Prop
 |nil:Al2 Φ [] []
 |cons {c:Str} {a:Addr} {b:β} {l:List (Str×Addr)} {r:List (Str×β)}:Φ a b->Al2 Φ l r->Al2 Φ ((c,a)::l) ((c,b)::r)
 |skip {c:Str} {a:Addr} {l:List (Str×Addr)} {r:List (Str×β)}:r.lookup c=none->Al2 Φ l r->Al2 Φ ((c,a)::l) r
section
variable{X:Cx}{G:Gx}{F:Fy}{E:L2.St->XK}
structure FnV(X:Cx)(G:Gx)(np:Nat)(a:Addr)(f:FM):Prop where
 ex: ∃k fd ps,ps.length=np/\z0c X.prog X.w X.K X.mg X.base (CX1 X.prog X.w) k a fd ps (spX G np f)/\z29 k X.A/\W.keepIn X.K (.ref a)=true/\z3c X.K fd ps []
end
end Mi
namespace Mi
open PySem L2 PySem.Spec
open PyProof.Rows (envOfC)
end Mi
namespace Mi
open PySem L2 PySem.Spec
noncomputable def z02:D->Option Key
 | .int i=>some (.inl i)
 | .str x=>some (.inr x)
 |_=>none
noncomputable def z0L:List D->Option (List Key)
 |[]=>some []
 |d::ds=>match z02 d with
  |some k=>match z0L ds with
   |some ks=>some (k::ks)
   |none=>none
  |none=>none
noncomputable def zbV:D->Option (Key⊕List Key)
 | .tup ds=>match z0L ds with|some ks=>some (.inr ks)|none=>none
 |d=>match z02 d with|some k=>some (.inl k)|none=>none
noncomputable def z2C:List D->Option NK
 |[]=>some []
 |d::ds=>match zbV d with
  |some k=>match z2C ds with
   |some ks=>some (k::ks)
   |none=>none
  |none=>none
noncomputable def z1n:D->Option NK
 | .tup ds=>z2C ds
 |_=>none
noncomputable def isT:List D->Bool
 | .non::_=>false
 |_=>true
section
variable{G:Gx}{ρ:Nat->Addr}{H:Hp}
def z3Y(h:RD G ρ H d v)(e:z02 d=some k):v=kV k/\d=z17 k:=by
 cases d<;>erw[z02] at e<;>cases e<;>(erw[RD] at h;exact⟨h,rfl⟩)
theorem z50: ∀{ds:List D} {xs:List V} {ks:List Key},RDs G ρ H ds xs->z0L ds=some ks->xs=ks.map kV/\ds=ks.map z17
 |[],xs,ks,h,e=>by erw[RDs] at h;erw[z0L] at e;cases e;exact⟨h,rfl⟩
 |d::ds,xs,ks,h,e=>by
  erw[RDs] at h
  obtain⟨x,r,rfl,h1,h2⟩:=h
  erw[z0L] at e
  cases e1:z02 d with
  |none=>rw[e1] at e;cases e
  |some k=>
   rw[e1] at e
   cases e2:z0L ds with
   |none=>erw[e2] at e;cases e
   |some ks'=>
    erw[e2] at e
    cases e
    obtain⟨a1,a2⟩:=z3Y h1 e1
    obtain⟨b1,b2⟩:=z50 h2 e2
    rw[a1,b1,a2,b2]
    exact⟨rfl,rfl⟩
def zdm(h:RD G ρ H d v)(e:zbV d=some k):TKi H k v/\d=nkD k:=by
 have flat: ∀{d:D} {v:V},RD G ρ H d v->(match z02 d with|some k=>some (Sum.inl k:Key⊕List Key)|none=>none)=some k->TKi H k v/\d=nkD k:=by
  intro d v h e
  cases e1:z02 d with
  |none=>rw[e1] at e;cases e
  |some k'=>
   rw[e1] at e
   cases e
   obtain⟨a1,a2⟩:=z3Y h e1
   exact⟨a1,a2⟩
 cases d with
 |tup ds=>
  erw[zbV] at e
  cases e1:z0L ds with
  |none=>rw[e1] at e;cases e
  |some ks=>
   rw[e1] at e
   cases e
   erw[RD] at h
   obtain⟨a,xs,e2,s,r⟩:=h
   obtain⟨b1,b2⟩:=z50 r e1
   exact⟨⟨a,e2,b1▸s⟩,by rw[b2];rfl⟩
 |_=>exact flat h e
theorem z6G: ∀{ds:List D} {xs:List V} {ks:NK},RDs G ρ H ds xs->z2C ds=some ks->bL (TKi H) ks xs/\ds=ks.map nkD
 |[],xs,ks,h,e=>by erw[RDs] at h;erw[z2C] at e;cases e;subst h;exact⟨.nil,rfl⟩
 |d::ds,xs,ks,h,e=>by
  erw[RDs] at h
  obtain⟨x,r,rfl,h1,h2⟩:=h
  erw[z2C] at e
  cases e1:zbV d with
  |none=>rw[e1] at e;cases e
  |some k=>
   rw[e1] at e
   cases e2:z2C ds with
   |none=>erw[e2] at e;cases e
   |some ks'=>
    erw[e2] at e
    cases e
    obtain⟨a1,a2⟩:=zdm h1 e1
    obtain⟨b1,b2⟩:=z6G h2 e2
    rw[a2,b2]
    exact⟨.cons a1 b1,rfl⟩
def z2D(h:RD G ρ H t v)(e:z1n t=some k): ∃b,v= .ref b/\TK H k b/\t=dkD k:=by
 cases t<;>erw[z1n] at e<;>try cases e
 erw[RD] at h
 obtain⟨a,xs,e1,s,r⟩:=h
 obtain⟨b1,b2⟩:=z6G r e
 exact⟨a,e1,⟨xs,s,b1⟩,by rw[b2];rfl⟩
theorem z3x: ∀k:List Key,z0L (k.map z17)=some k
 |[]=>rfl
 |k::ks=>by
  erw[i6,z0L]
  have:z02 (z17 k)=some k:=by cases k<;>rfl
  rw[this,z3x ks]
def zdn(z:Key⊕List Key):zbV (nkD z)=some z:=by
 cases z with
 |inl k=>cases k<;>rfl
 |inr ks=>erw[nkD,zbV,z3x]
theorem z51: ∀k:NK,z2C (k.map nkD)=some k
 |[]=>rfl
 |k::ks=>by erw[i6,z2C,zdn,z51 ks]
def z3Z(k:NK):z1n (dkD k)=some k:=z51 k
theorem z5Q: ∀k:List Key,RDs G ρ H (k.map z17) (k.map kV)
 |[]=>by erw[A2,RDs]
 | .inl i::k=>by erw[i6,RDs];exact⟨_,_,rfl,by erw[z17,RD];rfl,z5Q k⟩
 | .inr i::k=>by erw[i6,RDs];exact⟨_,_,rfl,by erw[z17,RD];rfl,z5Q k⟩
theorem z8U: ∀{k:NK} {xs:List V},bL (TKi H) k xs->RDs G ρ H (k.map nkD) xs
 |_,_, .nil=>by erw[A2,RDs]
 | .inl i::k,_, .cons a b=>by
  have e:=(show _=kV i from a)
  erw[i6,RDs]
  refine⟨_,_,rfl, ?_,z8U b⟩
  rw[e]
  cases i<;>(erw[nkD,z17,RD];rfl)
 | .inr ks::k,_, .cons a b=>by
  obtain⟨c,e,hc⟩:=a
  erw[i6,RDs]
  refine⟨_,_,rfl, ?_,z8U b⟩
  erw[nkD,RD]
  exact⟨c,_,e,hc,z5Q ks⟩
def zg6(h:TK H k b):RD G ρ H (dkD k) (.ref b):=by
 obtain⟨xs,h1,h2⟩:=h
 erw[dkD,RD]
 exact⟨b,xs,rfl,h1,z8U h2⟩
noncomputable def rdD:D->Option (List D×List D)
 | .dct _ ks vs=>if isT ks=true then some (ks,vs) else none
 | .fdc ks vs=>some (ks,vs)
 |_=>none
def RD.rdq(h:RD G ρ H t v)(e:rdD t=some (ks,vs)): ∃a kvs,v= .ref a/\Rd H a (.dT kvs)/\ks=kvs.map (λp:NK×V=>dkD p.1)/\RDs G ρ H vs (kvs.map (·.2))/\∀l∈labsL vs,l∈labs t:=by
 cases t<;>erw[rdD] at e<;>try cases e
 .rename_i l ks' vs'
  by_cases hT:isT ks'=true
  .rw[if_pos hT] at e;cases e
   erw[RD] at h
   obtain⟨e,⟨kvs,s,s2,r⟩|⟨kvs,s,s2,r⟩⟩:=h
   .rw[s2] at hT;cases hT
   .exact⟨ρ l,kvs,e, .inl s,s2,r,λj hj=>by erw[labs];exact i5 _ (i4 _ hj)⟩
  .rw[if_neg hT] at e;cases e
 .erw[RD] at h
  obtain⟨a,o,kvs,e,s,s2,r⟩:=h
  exact⟨a,kvs,e, .inr ⟨o,s⟩,s2,r,λj hj=>by erw[labs];exact hj⟩
def RD.dctq{l:Nat}(h:RD G ρ H (.dct l ks vs) v)(hn:isT ks=true):v= .ref (ρ l)/\∃kvs:List (NK×V),H (ρ l)=some (.dT kvs)/\ks=kvs.map (λp=>dkD p.1)/\RDs G ρ H vs (kvs.map (·.2)):=by
 erw[RD] at h
 obtain⟨e,⟨kvs,s,s2,r⟩|h⟩:=h
 .rw[s2] at hn;cases hn
 .exact⟨e,h⟩
noncomputable def findK:List D->List D->NK->Option D
 |d::ks,v::vs,k=>if z1n d=some k then some v else findK ks vs k
 |_,_,_=>none
theorem z1L: ∀(kvs:List (NK×V)) (vs:List D) (t:D),RDs G ρ H vs (kvs.map (·.2))->findK (kvs.map λp=>dkD p.1) vs k=some t->∃v,valV kvs k=some v/\RD G ρ H t v/\t∈vs
 |[],_,_,_,e=>by erw[A2,findK] at e;cases e
 |p::kvs,[],_,_,e=>by erw[i6,findK] at e;cases e
 |p::kvs,w::vs,t,h,e=>by
  erw[i6,RDs] at h
  obtain⟨x,r,e1,h1,h2⟩:=h
  cases e1
  erw[i6,findK,z3Z,Option.some.injEq] at e
  by_cases hk:p.1=k
  .rw[if_pos hk] at e;cases e
   exact⟨_,z2b hk,h1,l5 ..⟩
  .rw[if_neg hk] at e
   obtain⟨v,a,b,c⟩:=z1L kvs vs t h2 e
   exact⟨v,by rw[z1o hk];exact a,b,i5 _ c⟩
theorem z3y: ∀(kvs:List (NK×V)) (vs:List D),RDs G ρ H vs (kvs.map (·.2))->findK (kvs.map λp=>dkD p.1) vs k=none->valV kvs k=none
 |[],_,_,_=>rfl
 |p::kvs,[],h,_=>by erw[i6,RDs] at h;cases h
 |p::kvs,w::vs,h,e=>by
  erw[i6,RDs] at h
  obtain⟨x,r,e1,h1,h2⟩:=h
  cases e1
  erw[i6,findK,z3Z,Option.some.injEq] at e
  by_cases hk:p.1=k
  .rw[if_pos hk] at e;cases e
  .rw[if_neg hk] at e
   rw[z1o hk];exact z3y kvs vs h2 e
noncomputable def z2E(ks:List D)(k:NK):List D:=if(ks.any λd=>decide (z1n d=some k))=true then ks else ks++[dkD k]
noncomputable def z14(ks vs:List D)(k:NK)(v:D):List D:=if(ks.any λd=>decide (z1n d=some k))=true then O3 (λd w=>if z1n d=some k then v else w) ks vs else vs++[v]
def zg7(kvs:List (NK×V)):((kvs.map λp=>dkD p.1).any λd=>decide (z1n d=some k))=kvs.any λkv=>decide (kv.1=k):=by
 rw[R7]
 congr 1
 funext p
 erw[Function.comp,z3Z,Option.some.injEq]
theorem z5R{k:NK}(h:RD G ρ H t v): ∀(kvs:List (NK×V)) (vs:List D),RDs G ρ H vs (kvs.map (·.2))->
 RDs G ρ H (O3 (λd w=>if z1n d=some k then t else w) (kvs.map λp=>dkD p.1) vs) ((kvs.map (λkv=>if kv.1=k then(kv.1,v) else kv)).map (·.2))
 |[],[],_=>by simp[RDs]
 |[],_::_,h=>by erw[A2,RDs] at h;obtain⟨_,_,e,_⟩:=h;cases e
 |p::kvs,[],h=>by erw[i6,RDs] at h;cases h
 |p::kvs,w::vs,h'=>by
  erw[i6,RDs] at h'
  obtain⟨x,r,e1,h1,h2⟩:=h'
  cases e1
  erw[i6,E4,RDs,z3Z,Option.some.injEq]
  by_cases hk:p.1=k
  .rw[if_pos hk,if_pos hk];exact⟨_,_,rfl,h,z5R h kvs vs h2⟩
  .rw[if_neg hk,if_neg hk];exact⟨_,_,rfl,h1,z5R h kvs vs h2⟩
def zbW{k:NK}{kvs:List (NK×V)}(h:RD G ρ H t v)(r:RDs G ρ H vs (kvs.map (·.2))):
 z2E (kvs.map λp=>dkD p.1) k=(z2a kvs k v).map (λp=>dkD p.1)/\RDs G ρ H (z14 (kvs.map λp=>dkD p.1) vs k t) ((z2a kvs k v).map (·.2)):=by
 unfold z2E z14 z2a
 rw[zg7]
 cases e:kvs.any λkv=>decide (kv.1=k) with
 |true=>
  erw[if_true]
  refine⟨?_,z5R h kvs vs r⟩
  rw[D4]
  refine D2 λp _=> ?_
  erw[Function.comp]
  split<;>rfl
 |false=>
  erw[A4,if_false,t8,i6,A2]
  exact⟨trivial,r.append (RDs.one h)⟩
end
section
variable{X:Cx}{G:Gx}{F:Fy}{a b e:bi}{ma mb:M D}{pos:bG}
noncomputable def z15(o t:D):M D:=match rdD o with
 |some (ks,vs)=>match z1n t with
  |some k=>(match findK ks vs k with|some d=>rt d|none=>fl)
  |none=>fl
 |none=>fl
def zg8:za3 G F (λx y H Q=> ∃a v,x= .ref a/\zcR H a y (some v)/\Q v H) z15:=by
 intro ρ s t t' v u H σv tv Q M W
 obtain⟨h1,h2⟩:=M.rd2
 obtain⟨l1,l2⟩:=M.lb2
 unfold z15 at W
 cases er:rdD t with
 |none=>rw[er] at W;exact False.elim W
 |some p=>
  obtain⟨ks,vs⟩:=p
  rw[er] at W
  dsimp only at W
  cases ek:z1n t' with
  |none=>rw[ek] at W;exact False.elim W
  |some k=>
   rw[ek] at W
   dsimp only at W
   obtain⟨a,kvs,rfl,hx,rfl,r,sub⟩:=h1.rdq er
   obtain⟨b,rfl,hb,_⟩:=z2D h2 ek
   cases ef:findK (kvs.map λp=>dkD p.1) vs k with
   |none=>rw[ef] at W;exact False.elim W
   |some d=>
    rw[ef] at W
    obtain⟨w,hv,hd,hm⟩:=z1L kvs vs d r ef
    exact⟨a,w,rfl, .inr ⟨kvs,k,b,hx,rfl,hb,hv.symm⟩,λ_=>W.out M.m hd λj hj=>l1 j (sub j (labsL_mem hm j hj))⟩
def se_dgt(hk:X.K=G.K)(hu:X.A.units+64<cLine)(ha:SE X G F a ma)(hb:SE X G F b mb)(hs:z0H b):SE X G F (.Subscript a b pos) (y2 ma mb z15):=
 PE.imp hk (zcU (show X.A.units+2<cLine by lia) ha hb hs) λ_ _ _ h=>z8B zg8 h
noncomputable def z0o(t o:D):M D:=match rdD o with
 |some (ks,vs)=>match z1n t with
  |some k=>rt (.bool (!(findK ks vs k).isSome))
  |none=>fl
 |none=>fl
def zil{kvs:List (NK×V)}(r:RDs G ρ H vs (kvs.map (·.2))):(findK (kvs.map λp=>dkD p.1) vs k).isSome=(valV kvs k).isSome:=by
 cases ef:findK (kvs.map λp=>dkD p.1) vs k with
 |none=>rw[z3y kvs vs r ef];rfl
 |some d=>obtain⟨w,hv,_⟩:=z1L kvs vs d r ef;rw[hv];rfl
def zdo:z3f G F (λy x H Q=> ∃a o,x= .ref a/\zcR H a y o/\Q (.bl (!o.isSome)) H) z0o:=by
 intro ρ s t t' v u H σv tv Q M W
 obtain⟨h1,h2⟩:=M.rd2
 unfold z0o at W
 cases er:rdD t' with
 |none=>rw[er] at W;exact False.elim W
 |some p=>
  obtain⟨ks,vs⟩:=p
  rw[er] at W
  dsimp only at W
  cases ek:z1n t with
  |none=>rw[ek] at W;exact False.elim W
  |some k=>
   rw[ek] at W
   dsimp only at W
   obtain⟨a,kvs,rfl,hx,rfl,r,sub⟩:=h2.rdq er
   obtain⟨b,rfl,hb,_⟩:=z2D h1 ek
   refine⟨a,_,rfl, .inr ⟨kvs,k,b,hx,rfl,hb,rfl⟩, ?_⟩
   rw[<-zil r]
   exact W.flat M.m rfl
def zdp(hu:X.A.units+64<cLine):OpR X (bX .NotIn) (λy x H Q=> ∃a o,x= .ref a/\zcR H a y o/\Q (.bl (!o.isSome)) H):=by
 intro pins s σ H y x iv u Q I ry rx h
 obtain⟨a,o,rfl,g,q⟩:=h
 obtain rfl:u=Value.ref a:=rx
 exact zcS (show X.A.units+2<cLine by lia) I g ry λs3 I3=>⟨.bl (!o.isSome),H,I3,rfl,q⟩
def z40(hu:X.A.units+64<cLine):Cm X G F .NotIn z0o:=⟨_,zdp hu,zdo⟩
noncomputable def z2F:M D:=λs=> .ok (.dct s.n [] []) s.nxt
def se_dnew(hk:X.K=G.K):SE X G F (.Dict [] [] pos) z2F:=
 PE.imp hk zao λ σ H Q ⟨tv,hs,ρ,s,M,W⟩ p hp k=>by
  refine wM.out (ρ:=ext ρ s.n p) W (M.new hp k) ?_ λl hl=> ?_
  .erw[RD]
   rw[J7]
   exact⟨rfl, .inr ⟨[],y8,rfl,by simp[RDs]⟩⟩
  .erw[labs,labsL,l0,t9] at hl
   rw[hl]
   exact⟨B4 _,by rw[J7];exact .inr (M.fresh0 hp)⟩
noncomputable def z03(o i v:D):MS:=λs=>match o with
 | .dct l ks vs=>match z1n i with
  |some k=>if isT ks=true/\ks.length<sizeLine/\labs v=[]/\labsL vs=[] then .nx (s.put l (.dct l (z2E ks k) (z14 ks vs k v))) else .no
  |none=> .no
 |_=> .no
def z41(k:NK):labs (dkD k)=[]:=by
 have h: ∀k:NK,labsL (k.map nkD)=[]:=λk=>by
  induction k with
  |nil=>rfl
  |cons z k ih=>erw[i6,labsL,z5M,ih,l0]
 erw[dkD,labs,h]
theorem z42: ∀kvs:List (NK×V),labsL (kvs.map λp=>dkD p.1)=[]
 |[]=>rfl
 |p::kvs=>by
  have e:labs (dkD p.1)=[]:=z41 p.1
  erw[i6,labsL,e,z42 kvs];rfl
theorem W5: ∀{ds:List D},(∀d∈ds,labs d=[])->labsL ds=[]
 |[],_=>rfl
 |d::ds,h=>by erw[labsL,h d (l5 ..),W5 λx hx=>h x (i5 _ hx)];rfl
def z1Y(h:labsL ds=[]): ∀d∈ds,labs d=[]:=λd hd=>by
 cases e:labs d with
 |nil=>rfl
 |cons l r=>exact absurd (labsL_mem hd l (by rw[e];exact l5 ..)) (by rw[h];exact t7)
def z6H(hv:labs v=[])(h:labsL vs=[]):labsL (z14 ks vs k v)=[]:=by
 have h':=z1Y h
 unfold z14
 split
 .refine W5 λd hd=> ?_
  obtain⟨i,hi,e⟩:=L7 hd
  rw[N5] at e
  subst e
  split
  .exact hv
  .exact h' _ (B3 _)
 .refine W5 λd hd=> ?_
  rcases l4.mp hd with q|q
  .exact h' d q
  .rw[t9.mp q];exact hv
def zdq{Dd:z5u}(M:MRL G F.toFx ρ H σv tv s [t1,t2,t3] [v,o,i])(W:wS G F tv (z03 t2 t3 t1 s) Dd): ∃a H4,o= .ref a/\z7L H a i v H4/\Dd.nx σv H4:=by
 have h:=M.rd
 erw[RDs] at h
 obtain⟨_,_,e,h1,_,_,e2,h2,_,_,e3,h3,_⟩:=h
 cases e;cases e2;cases e3
 have b2:LB F.toFx ρ s.n (labs t2):=λl h=>M.lb l (by erw[labsL];exact i4 _ (i8 _ h))
 unfold z03 at W
 cases t2 with
 |dct l ks vs=>
  dsimp only at W
  cases ek:z1n t3 with
  |none=>rw[ek] at W;exact False.elim W
  |some k=>
   rw[ek] at W
   dsimp only at W
   by_cases hc:isT ks=true/\ks.length<sizeLine/\labs t1=[]/\labsL vs=[]
   .rw[if_pos hc] at W
    obtain⟨hT,hz,hv,hvs⟩:=hc
    obtain⟨rfl,kvs,hx,rfl,r⟩:=h2.dctq hT
    obtain⟨b,rfl,hb,_⟩:=z2D h3 ek
    have bl:=b2 l (by erw[labs];exact l5 ..)
    have st:G6 H (upd H (ρ l) (.dT (z2a kvs k v))):=
     ⟨λb ys q=>by rw[y9 (z07 q hx (by intro z;cases z))];exact q,λb o u q=>by rw[y9 (z07 q hx (by intro z;cases z))];exact q⟩
    have pr:=zbW (k:=k) h1 r
    refine⟨ρ l,_,rfl,z7L.t hx hb (by simpa using hz),W ρ σv _ (M.m.put2 bl.1 bl.2 st (z2A M.m.kd hx) ?_ λj hj=> ?_)⟩
    .erw[RD]
     refine⟨trivial, .inr ⟨z2a kvs k v,y8,pr.1, ?_⟩⟩
     exact RDs.stay st _ _ pr.2 λj hj=>by rw[z6H hv hvs] at hj;cases hj
    .erw[labs,pr.1,z42,z6H hv hvs,l0,t9] at hj
     rw[hj];exact bl
   .rw[if_neg hc] at W;exact False.elim W
 |_=>exact False.elim W
def ss_dput{ob ix:bi}{pos tpos:bG}{mo mi me:M D}(hu:X.A.units+64<cLine)(he:SE X G F e me)(ho:SE X G F ob mo)(hi:SE X G F ix mi)(hs:bO e (some (.Subscript ob ix tpos)) pos.line X.env=pure false:=by rfl):
 SS X G F (.Assign [.Subscript ob ix tpos] e pos) (z1f me mo mi z03):=by
 refine PS.imp0 (z5E (show X.A.units+2<cLine by lia) ho hi he hs) λDd σ H ⟨tv,h⟩=> ?_
 exact(z3X h).mono λv H1 h1=>h1.mono λo H2 h2=>h2.mono λi H3 ⟨ρ,s,t1,t2,t3,M,W⟩=>zdq M W
end
noncomputable def zg9(i:Nat):List (Option D)->Option (Option D)
 |some (.fdc ks _)::_=>some ks[i]?
 |_=>none
noncomputable def zbX:List (Option D)->Nat
 |some (.fdc ks _)::_=>ks.length
 |_=>0
noncomputable def z4A:ItK:=⟨1,zg9,zbX⟩
noncomputable def K0(m:M D):M ItK:=bd m λd s=>match d with
 | .dct l ks vs=>if isT ks=true/\labsL vs=[] then .ok z4A ((s.put l (.fdc ks vs)).psh (.fdc ks vs)) else .no
 |_=> .no
noncomputable def Fy.frz(F:Fy)(a:Addr)(o:HO)(ha:F.A0 a\/F.H0 a=none)(hz: ¬F.Z a):Fy where
 A0:=λx=>F.A0 x/\x≠a
 H0:=upd F.H0 a o
 Z:=F.Z
 zA:=λx z=>by
  have hn:x≠a:=λe=>hz (e▸z)
  obtain⟨⟨o',e⟩,n⟩:=F.zA x z
  exact⟨⟨o',by rw[y9 hn];exact e⟩,λq=>n q.1⟩
 aH:=λx q=>by
  obtain⟨o',e⟩:=F.aH x q.1
  exact⟨o',by rw[y9 q.2];exact e⟩
 n0:=F.n0
 ρ0:=F.ρ0
 tv0:=F.tv0
 xw:=F.xw
section
variable{G:Gx}{F:Fy}{ρ:Nat->Addr}{H:Hp}{σv tv:List (Option V)}{s:Stt}{a:Addr}{o:HO}{ha:F.A0 a\/F.H0 a=none}{hz: ¬F.Z a}
theorem z6I: ∀{os:List (Option D)} {vs:List (Option V)},Sl G ρ H os vs->∀l∈Z4 os,∃o,H (ρ l)=some o/\(∀xs,o≠ .tup xs)/\∀u w,o≠ .frz u w
 |[],_,_,l,hl=>by erw[Z4] at hl;cases hl
 |none::os,_,h,l,hl=>by
  erw[Sl,Z4] at h hl
  obtain⟨_,_,_,h⟩:=h
  exact z6I h l hl
 |some d::os,_,h,l,hl=>by
  erw[Sl,Z4] at h hl
  obtain⟨v,_,_,h1,h2⟩:=h
  rcases l4.mp hl with q|q
  .exact z8M d v h1 l q
  .exact z6I h2 l q
def MR.frzIn(M:MR G F.toFx ρ H σv tv s)(h:H a=some o)(hm: ∃u w,o= .frz u w):MR G (F.frz a o ha hz).toFx ρ H σv tv s:=by
 have ne: ∀l∈G9 s,ρ l≠a:=λl hl e=>by
  obtain⟨u,w,rfl⟩:=hm
  have: ∃o,H (ρ l)=some o/\(∀xs,o≠ .tup xs)/\∀u w,o≠ .frz u w:=by
   rcases l4.mp hl with q|q
   .exact z6I M.sl l q
   .exact z6I M.tm l q
  obtain⟨o',e1,_,e3⟩:=this
  rw[e,h] at e1
  cases e1
  exact e3 _ _ rfl
 refine⟨M.sl,M.tm,M.inj,M.dom,M.lab,λl hl=> ?_,λx o' e=> ?_,M.kd,M.frb,M.bas⟩
 .rcases M.own l hl with q|q
  .exact .inl ⟨q,ne l hl⟩
  .exact .inr (by show upd F.H0 a o (ρ l)=none;rw[y9 (ne l hl)];exact q)
 .have e:upd F.H0 a o x=some o':=e
  by_cases hx:x=a
  .subst hx
   rw[y8] at e
   cases e
   exact⟨⟨o,h⟩,λ_=>h⟩
  .rw[y9 hx] at e
   obtain⟨q1,q2⟩:=M.frm x o' e
   exact⟨q1,λn=>q2 λz=>n ⟨z,hx⟩⟩
def MR.frzOut(M:MR G (F.frz a o ha hz).toFx ρ H σv tv s):MR G F.toFx ρ H σv tv s:=by
 refine⟨M.sl,M.tm,M.inj,M.dom,M.lab,λl hl=> ?_,λx o' e=> ?_,M.kd,M.frb,M.bas⟩
 .rcases M.own l hl with q|q
  .exact .inl q.1
  .have q:upd F.H0 a o (ρ l)=none:=q
   by_cases hx:ρ l=a
   .rw[hx,y8] at q;cases q
   .rw[y9 hx] at q;exact .inr q
 .by_cases hx:x=a
  .subst hx
   have q:=(M.frm x o y8).1
   refine⟨q,λn=> ?_⟩
   rcases ha with z|z
   .exact absurd z n
   .rw[z] at e;cases e
  .obtain⟨q1,q2⟩:=M.frm x o' (by show upd F.H0 a o x=some o';rw[y9 hx];exact e)
   exact⟨q1,λn=>q2 λz=>n z.1⟩
def MRL.frzOut(M:MRL G (F.frz a o ha hz).toFx ρ H σv tv s ts vs):MRL G F.toFx ρ H σv tv s ts vs:=by
 refine⟨M.m.frzOut,M.rd,λl hl=> ?_⟩
 obtain⟨q1,q⟩:=M.lb l hl
 refine⟨q1, ?_⟩
 rcases q with q|q
 .exact .inl q.1
 .have q:upd F.H0 a o (ρ l)=none:=q
  by_cases hx:ρ l=a
  .rw[hx,y8] at q;cases q
  .rw[y9 hx] at q;exact .inr q
def MR.frzAt(M:MR G (F.frz a o ha hz).toFx ρ H σv tv s):H a=some o:=(M.frm a o y8).2 λz=>z.2 rfl
def MR.frzAt'{hf:(F.frz a o ha hz).H0 A1=none}(M:MR G ((F.frz a o ha hz).prot A1 ys hf).toFx ρ H σv tv s):H a=some o:=by
 have hne:a≠A1:=λe=>by
  have:upd F.H0 a o A1=none:=hf
  rw[e,y8] at this;cases this
 exact(M.frm a o (by show upd (upd F.H0 a o) A1 (.lst ys) a=some o;rw[y9 hne,y8])).2 λz=>z.2 rfl
def zbY{tvp:List (Option V)}(M:MR G F' ρ H σv (tvp++([some (.ref a)]++tv)) s)(h:H a=some (.frz u (.dT kvs)))(i:Nat):match z4A.at' i (s.tm.drop tvp.length) with
 |none=>True
 |some none=>(ItD a u kvs).stop i H
 |some (some d)=>(ItD a u kvs).go i H/\∀x H',(ItD a u kvs).yld i H x H'->MRL G F' ρ H' σv (tvp++([some (.ref a)]++tv)) s [d] [x]:=by
 dsimp only[z4A]
 cases e:s.tm.drop tvp.length with
 |nil=>trivial
 |cons c0 r=>
  cases c0 with
  |none=>trivial
  |some c=>
   obtain⟨hc,lb⟩:=MR.head (s:=s.popn tvp.length) M.popn e
   cases c with
   |fdc ks vs=>
    erw[zg9]
    erw[RD] at hc
    obtain⟨a',u',kvs',ea,hx,hk,_⟩:=hc
    cases ea
    rw[h] at hx
    cases hx
    subst hk
    cases e2:(kvs.map λp=>dkD p.1)[i]? with
    |none=>
     refine⟨?_,h⟩
     have:=List.getElem?_eq_none_iff.mp e2
     simpa using this
    |some d=>
     rw[List.getElem?_map] at e2
     cases e3:kvs[i]? with
     |none=>rw[e3] at e2;cases e2
     |some p=>
      rw[e3] at e2
      cases e2
      refine⟨⟨(List.getElem?_eq_some_iff.mp e3).1,h⟩, ?_⟩
      rintro x H' ⟨rfl,b,k,v,rfl,hk,hb⟩
      rw[hk] at e3
      cases e3
      refine⟨M,RDs.one ?_,λl hl=> ?_⟩
      .exact zg6 hb
      .have e:labsL [dkD k]=[]:=by erw[labsL,l0];exact z41 k
       rw[e] at hl;cases hl
   |_=>trivial
end
section
variable{X:Cx}{G:Gx}{F:Fy}{tg iter elt:bi}{pos:bG}
def z8V{K:W.Frag}{k:Nat}{ix:List Nat}{m0:M D}{g:Tg}{mt:M Bool}{me:M D}{σ:St}{H:Hp}{Q:VK}(hk:K=G.K)(h:tM G F (J1 (K0 m0) g mt me k ix) σ H Q):z6A K (zfv (tM G F m0)) (tGx G g) (tBx G mt) (tMx G me) k ix σ H Q:=by
 obtain⟨tv,hsf,ρ,s,M,W⟩:=h
 refine⟨tv,hsf,ρ,s,M, ?_⟩
 unfold J1 K0 bd at W
 cases em:m0 s with
 |ex d s1=>rw[em] at W;exact W
 |no=>rw[em] at W;exact W
 |ok t s0=>
  rw[em] at W
  dsimp only at W
  intro ρ1 v H1 M0
  cases t with
  |dct l ks vs=>
   dsimp only at W
   by_cases hc:isT ks=true/\labsL vs=[]
   .rw[if_pos hc] at W
    dsimp only at W
    obtain⟨hT,hvs⟩:=hc
    have rd0:=M0.rd1
    obtain⟨rfl,kvs,hx,hks,r⟩:=rd0.dctq hT
    have bl:=M0.lb1 l (by erw[labs];exact l5 ..)
    refine⟨ρ1 l,kvs,rfl,hx,λu A1 hA1 kd=> ?_⟩
    have st:G6 H1 (upd H1 (ρ1 l) (.frz u (.dT kvs))):=
     ⟨λb ys q=>by rw[y9 (z07 q hx (by intro z;cases z))];exact q,λb o w q=>by rw[y9 (z07 q hx (by intro z;cases z))];exact q⟩
    have rdF:RD G ρ1 (upd H1 (ρ1 l) (.frz u (.dT kvs))) (.fdc ks vs) (.ref (ρ1 l)):=by
     erw[RD]
     exact⟨ρ1 l,u,kvs,rfl,y8,hks,RDs.stay st _ _ r λj hj=>by rw[hvs] at hj;cases hj⟩
    have lbF: ∀j∈labs (.fdc ks vs),j<s0.n/\(F.A0 (ρ1 j)\/F.H0 (ρ1 j)=none):=λj hj=>by erw[labs,hvs] at hj;cases hj
    have M2:MR G F.toFx ρ1 (upd H1 (ρ1 l) (.frz u (.dT kvs))) σ tv (s0.put l (.fdc ks vs)):=M0.m.put2 bl.1 bl.2 st (z2A M0.m.kd hx) rdF lbF
    have M3:MR G F.toFx ρ1 (upd H1 (ρ1 l) (.frz u (.dT kvs))) σ (some (.ref (ρ1 l))::tv) ((s0.put l (.fdc ks vs)).psh (.fdc ks vs)):=
     MRL.push ⟨M2,RDs.one rdF,λj hj=>by erw[labsL,l0] at hj;exact lbF j hj⟩
    have M1:MR G (F.frz (ρ1 l) (.frz u (.dT kvs)) bl.2 (M0.m.frb l bl.1)).toFx ρ1 (upd H1 (ρ1 l) (.frz u (.dT kvs))) σ ([some (.ref (ρ1 l))]++tv) ((s0.put l (.fdc ks vs)).psh (.fdc ks vs)):=M3.frzIn y8 ⟨_,_,rfl⟩
    generalize hs1:(s0.put l (.fdc ks vs)).psh (.fdc ks vs)=s1 at M1 W
    generalize hF1:F.frz (ρ1 l) (.frz u (.dT kvs)) bl.2 (M0.m.frb l bl.1)=F1 at M1
    have out: ∀{ρ H s ts vs},MRL G F1.toFx ρ H σ tv s ts vs->MRL G F.toFx ρ H σ tv s ts vs:=by subst hF1;exact λh=>h.frzOut
    subst hk
    have kd:KD G.K (upd (upd H1 (ρ1 l) (.frz u (.dT kvs))) A1 (.lst [])):=kd
    have hf:=M1.fresh0 hA1
    refine⟨λi m ys σ' H'=> ∃ρ s,MR G (F1.prot A1 ys hf).toFx ρ H' σ' ((ys.reverse.map some)++(σ++([some (.ref (ρ1 l))]++tv))) s/\wM G F σ tv (v0 z4A g mt me s1.σ.length m i ys.length s) Q,⟨_,ρ1,_,M1.enter hA1 kd k ix,W⟩, ?_⟩
    rintro i m ys σ' H' ⟨ρ2,s2,M2',W2⟩
    have hD:=(MR.turnD (ys':=ys) M2').1
    refine⟨hD, ?_⟩
    have ol:s1.σ.length=σ.length:=M1.sl.length
    have hfz:H' (ρ1 l)=some (.frz u (.dT kvs)):=by subst hF1;exact MR.frzAt' M2'
    have ok:=zbY (tvp:=(ys.reverse.map some)++σ) (a:=ρ1 l) (tv:=tv) (by rw[A5];exact M2') hfz i
    simp only[m5,i9,L6,<-ol,A5] at ok
    unfold v0 at W2
    cases e:z4A.at' i (s2.tm.drop (ys.length+s1.σ.length)) with
    |none=>erw[e] at W2;exact False.elim W2
    |some o=>
     rw[e] at ok
     cases o with
     |none=>
      erw[e] at W2 ok
      refine .inl ⟨ok, ?_⟩
      cases ea:Y2 (s2.tm.take ys.length).reverse with
      |none=>erw[ea] at W2;exact False.elim W2
      |some ds=>
       erw[ea] at W2
       exact W2 _ _ _ (out (MR.leave M2' (kk:=z4A.k) rfl _ ol.symm ea))
     |some d=>
      erw[e] at W2 ok
      cases m with
      |zero=>exact False.elim W2
      |succ f=>
       dsimp only at W2
       cases e2:asg g d s2.σ with
       |none=>erw[e2] at W2;exact False.elim W2
       |some σ3=>
        erw[e2] at W2
        refine .inr ⟨ok.1,λx H2 y=> ?_⟩
        have hx:=ok.2 x H2 y
        refine⟨F1.prot A1 ys hf,_,ρ2,s2,d,hx,σ3,e2,λ σv' M3=>⟨F1.prot A1 ys hf,_,F7,ρ2,_,M3, ?_⟩⟩
        cases e3:mt {s2 with σ:=σ3} with
        |ex d s4=>erw[e3] at W2;exact False.elim W2
        |no=>erw[e3] at W2;exact False.elim W2
        |ok b s4=>
         intro ρ4 H4 M4
         cases b with
         |false=>
          erw[e3] at W2
          rw[if_neg A9]
          exact⟨f,B4 _,ρ4,s4,M4,W2⟩
         |true=>
          erw[e3] at W2
          rw[if_pos rfl]
          by_cases hz:ys.length<sizeLine
          .rw[if_pos hz] at W2
           refine⟨F1.prot A1 ys hf,_,F7,ρ4,s4,M4, ?_⟩
           cases e5:me s4 with
           |ex d s5=>erw[e5] at W2;exact False.elim W2
           |no=>erw[e5] at W2;exact False.elim W2
           |ok y s5=>
            erw[e5] at W2
            intro ρ5 v H5 M5
            obtain⟨hD5,M6⟩:=MR.turnD (ys':=ys++[v]) M5.push
            refine⟨hD5,hz,f,B4 _,ρ5,s5.psh y, ?_, ?_⟩
            .rw[E3,C2,D7,A6,t8]
             exact M6
            .rw[m5];exact W2
          .rw[if_neg hz] at W2;exact False.elim W2
   .rw[if_neg hc] at W;exact False.elim W
  |_=>exact False.elim W
def se_compD{scope:Scope}{own frees:List Str}{ix:List Nat}{ifs:List bi}{m0:M D}{g:Tg}{mt:M Bool}{me:M D}(hk:X.K=G.K)(hc:X.calm=true)(S:U2 X.env.scope scope own frees X.N ix)(hi:SE X G F iter m0)
 (hg: ∀(F:Fy) cl C s₀ H₀ fp pn,SG (J5 X scope own frees cl C s₀ H₀ fp pn) G F tg g) (ht: ∀(F:Fy) cl C s₀ H₀ fp pn,STs (J5 X scope own frees cl C s₀ H₀ fp pn) G F ifs mt) (he: ∀(F:Fy) cl C s₀ H₀ fp pn,SE (J5 X scope own frees cl C s₀ H₀ fp pn) G F elt me)
 (hs: ∀x,bw iter X.env x=pure x:=by intro _;rfl):SE X G F (.ListComp elt [⟨tg,iter,ifs,0⟩] scope pos) (J1 (K0 m0) g mt me own.length ix):=
 PE.imp0 (z2x (g:=tGx G g) (tt:=tBx G mt) (te:=tMx G me) hc S (z8s hi) (λcl C s₀ H₀ fp pn pins s σ H v u Q I r ⟨F',q⟩=>hg F' cl C s₀ H₀ fp pn pins s σ H v u Q I r q)
  (λcl C s₀ H₀ fp pn pins s σ H Q I ⟨F',q⟩=>ht F' cl C s₀ H₀ fp pn pins s σ H Q I q) (λcl C s₀ H₀ fp pn pins s σ H Q I ⟨F',q⟩=>he F' cl C s₀ H₀ fp pn pins s σ H Q I q) hs) λ σ H Q h=>z8V hk h
end
section
variable{X:Cx}{G:Gx}{F:Fy}{pos:bG}{kx vx:bi}
noncomputable def dp1(d k v:D):M D:=λs=>match d with
 | .dct l [] []=>match z1n k with
  |some ks=>if labs v=[] then .ok (.dct l [dkD ks] [v]) (s.put l (.dct l [dkD ks] [v])) else .no
  |none=> .no
 |_=> .no
noncomputable def v3(mk mv:M D):M D:=λs=>match mk (s.nxt.psh (.dct s.n [] [])) with
 | .ok k s2=>(match mv (s2.psh k) with
  | .ok v s3=>(match s3.tm with
   |some k'::some d'::r=>dp1 d' k' v {s3 with tm:=r}
   |_=> .no)
  | .ex d s'=> .ex d s'
  | .no=> .no)
 | .ex d s'=> .ex d s'
 | .no=> .no
def zaP(h:tM G F (v3 mk mv) σ H Q):z8S G.K (tM G F mk) (tM G F mv) σ H (λv H'=>KD G.K H'->Q v H'):=by
 obtain⟨tv,hs,ρ,s,M,W⟩:=h
 intro p hp kd
 have rd:RD G (ext ρ s.n p) (upd H p (.dT [])) (.dct s.n [] []) (.ref p):=by
  erw[RD]
  rw[J7]
  exact⟨rfl, .inr ⟨[],y8,rfl,by simp[RDs]⟩⟩
 have M1:MR G F.toFx (ext ρ s.n p) (upd H p (.dT [])) σ (some (.ref p)::tv) (s.nxt.psh (.dct s.n [] [])):=MRL.push ⟨M.new hp kd,RDs.one rd,λl hl=>by
  erw[labs,labsL,l0,t9] at hl
  rw[hl]
  exact⟨B4 _,by rw[J7];exact .inr (M.fresh0 hp)⟩⟩
 unfold v3 at W
 show tM G F mk σ _ λx H1=>tM G F mv σ H1 λy H2=>_
 refine⟨some (.ref p)::tv,z8y hs,_,_,M1, ?_⟩
 cases e1:mk (s.nxt.psh (.dct s.n [] [])) with
 |ex d s'=>rw[e1] at W;exact W
 |no=>rw[e1] at W;exact W
 |ok k s2=>
  rw[e1] at W
  dsimp only at W
  intro ρ2 x H2 M2
  refine⟨some x::some (.ref p)::tv,z8y (z8y hs),ρ2,s2.psh k,M2.push, ?_⟩
  cases e2:mv (s2.psh k) with
  |ex d s'=>rw[e2] at W;exact W
  |no=>rw[e2] at W;exact W
  |ok v s3=>
   rw[e2] at W
   dsimp only at W
   intro ρ3 y H3 M3
   cases e3:s3.tm with
   |nil=>erw[e3] at W;exact False.elim W
   |cons o3 r3=>
    cases o3 with
    |none=>erw[e3] at W;exact False.elim W
    |some x3=>
     erw[e3] at W
     cases r3 with
     |nil=>exact False.elim W
     |cons o4 r4=>
      cases o4 with
      |none=>exact False.elim W
      |some x4=>
       dsimp only at W
       have M4:=M3.down e3
       have M5:=M4.down (s':={s3 with tm:=some x4::r4}) rfl
       show ∃b y' ks,_
       have h:=M5.rd
       erw[RDs] at h
       obtain⟨_,_,ee,h1,_,_,ee2,h2,_,_,ee3,h3,_⟩:=h
       cases ee;cases ee2;cases ee3
       unfold dp1 at W
       cases x4 with
       |dct l ks vs=>
        cases ks with
        |cons _ _=>exact False.elim W
        |nil=>
         cases vs with
         |cons _ _=>exact False.elim W
         |nil=>
          dsimp only at W
          cases ek:z1n x3 with
          |none=>rw[ek] at W;exact False.elim W
          |some kk=>
           rw[ek] at W
           dsimp only at W
           by_cases hv:labs v=[]
           .rw[if_pos hv] at W
            obtain⟨ep,kvs,hx,hks,r⟩:=h1.dctq rfl
            have e0:kvs=[]:=by cases kvs with|nil=>rfl|cons _ _=>simp at hks
            subst e0
            obtain⟨b,rfl,hb,_⟩:=z2D h2 ek
            have ep:p=ρ3 l:=by cases ep;rfl
            subst ep
            refine⟨b,_,kk,rfl,hx,hb,λkd'=> ?_⟩
            have bl:l<s3.n/\(F.A0 (ρ3 l)\/F.H0 (ρ3 l)=none):=M5.lb l (by erw[labsL,labs];exact i8 _ (l5 ..))
            have st:G6 H3 (upd H3 (ρ3 l) (.dT [(kk,y)])):=
             ⟨λb ys q=>by rw[y9 (z07 q hx (by intro z;cases z))];exact q,λb o u q=>by rw[y9 (z07 q hx (by intro z;cases z))];exact q⟩
            have rd2:RD G ρ3 (upd H3 (ρ3 l) (.dT [(kk,y)])) (.dct l [dkD kk] [v]) (.ref (ρ3 l)):=by
             erw[RD]
             refine⟨trivial, .inr ⟨[(kk,y)],y8,rfl, ?_⟩⟩
             refine RDs.stay st _ _ (RDs.one h3) λj hj=> ?_
             erw[labsL,hv,l0] at hj;cases hj
            have lb2: ∀j∈labs (.dct l [dkD kk] [v]),j<s3.n/\(F.A0 (ρ3 j)\/F.H0 (ρ3 j)=none):=λj hj=>by
             have e:labs (dkD kk)=[]:=z41 kk
             erw[labs,labsL,e,hv,l0,t9] at hj
             rw[hj];exact bl
            exact W.out (M5.m.put2 bl.1 bl.2 st kd' rd2 lb2) rd2 lb2
           .rw[if_neg hv] at W;exact False.elim W
       |_=>exact False.elim W
def se_disp1(hK:X.K=G.K)(hu:X.A.units+64<cLine)(hk:SE X G F kx mk)(hv:SE X G F vx mv):SE X G F (.Dict [some kx] [vx] pos) (v3 mk mv):=
 PE.imp hK (z8T (show X.A.units+2<cLine by lia) hk hv) λ_ _ _ h=>hK▸zaP h
end
end Mi
namespace Mi
open PySem L2
end Mi
namespace PySem
end PySem
namespace L2
open PySem PySem.Spec PyProof.Rows
end L2
namespace Mi
open PySem L2 PySem.Spec
section
variable{G:Gx}{ρ:Nat->Addr}{H:Hp}
def z52(k:Key):z02 (z17 k)=some k:=by cases k<;>rfl
end
section
variable{X:Cx}{G:Gx}{F:Fy}{a b e:bi}{ma mb:M D}{pos:bG}
def ss_setN{i:Nat}(hN:X.N.Nodup)(hi:X.N[i]? =some x)(hx:Loc X.env.scope x)(hf:X.fn x=true\/X.env.scope.names.lookup x=some .local)(he:SE X G F e m)(hs:bO e (some (.Name x p)) pos.line X.env=pure false:=by rfl):SS X G F (.Assign [.Name x p] e pos) (Y5 (.nm i) m):=
 ss_set (λ{te} h=>z2j hN hi hx h hs hf) he
end
structure Dm(K:W.Frag)(C:Addr)(x qual:Str)(st:Stmt)(ps:List Str) where
 f:Addr
 d:bA
 F:Fun K x qual st f d
 b:z3c K d ps []
 h:zjG K C x f
end Mi
namespace Mi
open PySem L2 PySem.Spec PyProof.Rows
end Mi
namespace Mi
open PySem L2 PySem.Spec PySem.SeqAt PySem.Calls PyProof.Rows
end Mi
namespace Mi
open PySem L2 PySem.Spec PyProof.Rows
section
variable{X:Cx}{G:Gx}{F:Fy}
theorem RDs.at': ∀{ds:List D} {xs:List V} {i:Nat} {d:D},RDs G ρ H ds xs->ds[i]? =some d->∃x,xs[i]? =some x/\RD G ρ H d x
 |[],xs,i,d,h,e=>by simp at e
 |d::ds,xs,0,d',h,e=>by erw[RDs] at h;obtain⟨x,q,rfl,h1,_⟩:=h;simp at e;subst e;exact⟨x,rfl,h1⟩
 |d::ds,xs,i+1,d',h,e=>by
  erw[RDs] at h
  obtain⟨x,q,rfl,h1,h2⟩:=h
  erw[List.getElem?_cons_succ] at e⊢
  exact RDs.at' h2 e
end
end Mi
namespace L2
open PySem PySem.Spec PyProof.Rows
end L2
namespace Mi
open PySem L2
end Mi
namespace Mi
open PySem L2 PySem.Spec PyProof.Rows PySem F P
end Mi
namespace L2
open PySem PySem.Spec PyProof.Rows
section
variable{X:Cx}
noncomputable def z3a(ds:List PyData)(i j:Nat):Bool:=(So.ltD (ds.getD i .none) (ds.getD j .none)).getD false
noncomputable def z8W(ds:List PyData):Bool:=ds.all (λd=>So.hdI d&&d.canLay0&&decide (d.depth<=60))&&ds.all λd=>ds.all λe=>(So.ltD d e).isSome
theorem z8X: ∀{its:List be} {ds:List PyData} {as:List Addr},dm h its ds as->(∀d∈ds,So.hdI d=true)->∃fs:List be,W.KatTups h its fs/\fs.length=ds.length/\∀f∈fs,∃i t,f=Value.int i t
 |[],_,_, .nil,_=>⟨[], .nil,rfl,by simp⟩
 |v::its,d::ds,_, .cons r rs,hd=>by
  obtain⟨fs,t,hl,hf⟩:=z8X rs λd hd'=>hd d (i5 _ hd')
  obtain⟨i,xs,rfl⟩:=So.hd_int (hd _ l5)
  cases r with
  | @tuple l o vs n _ as₁ h1 h2 h3 h4=>
   generalize hv:vs.toList=us at h4
   cases h4 with
   |cons r1 r2=>
    cases r1 with
    |int _ tk=>
     refine⟨Value.int i tk::fs, .cons h1 h2 h3 ?_ t,by simp[hl],λf hf'=> ?_⟩
     .rw[<-Array.getElem?_toList,hv];rfl
     .rcases l7.mp hf' with rfl|hf'
      .exact⟨_,_,rfl⟩
      .exact hf f hf'
theorem z0M: ∀{its:List be} {ds:List PyData} {as:List Addr},dm h its ds as->∀i (hi:i<its.length),∃bs,fQ h its[i] (ds.getD i .none) bs/\ds.getD i .none∈ds
 |v::its,d::ds,_, .cons r rs,0,_=>⟨_,r,by simp⟩
 |v::its,d::ds,_, .cons r rs,i+1,hi=>by
  obtain⟨bs,h1,h2⟩:=z0M rs i (by simpa using hi)
  exact⟨bs,by simpa using h1,by simpa using Or.inr h2⟩
noncomputable def zga(K:W.Frag):List V->Hp->VK->Prop:=λxs H Q=> ∃p ys ds,xs=[.ref p]/\SqL K H p ys/\DpAll K H ds ys/\z8W ds=true/\∀l,H l=none->Q (.ref l) (upd H l (.lst ((So.perm ys.length (z3a ds)).map λi=>ys.getD i .non)))
theorem z2G{ys:List V}{its:List be}(h:J4 ys its): ∀(q:List Nat),(∀i∈q,i<its.length)->J4 (q.map λi=>ys.getD i .non) (q.map λi=>its.getD i Value.none)
 |[],_=> .nil
 |i::q,hq=>by
  refine .cons ?_ (z2G h q λj hj=>hq j (i5 _ hj))
  have hi:=hq i l5
  clear hq
  induction h generalizing i with
  |nil=>simp at hi
  |cons r t ih=>
   cases i with
   |zero=>simpa using r
   |succ i=>simpa using ih i (by simpa using hi)
def zaQ(hu:X.A.units+64<cLine):CallR X (.builtin "sorted") (zga X.K):=by
 intro pins s σ H xs us Q I r h
 obtain⟨p,ys,ds,rfl,hs,hd,ok,q⟩:=h
 obtain⟨u,rfl,ru⟩:=z3b r
 cases ru
 obtain⟨its,rv,pl,hz⟩:=I.list hs
 have hl:its.length=ys.length:=(Paired.length rv).symm
 unfold z8W at ok
 erw[A7,M8,decide_eq_true_eq] at ok
 obtain⟨ok1,ok2⟩:=ok
 refine So.call_sorted (cmp:=z3a ds) pl.isList (by lia) (λh' kp h2=> ?_) λh' D e1 kp hD hget=> ?_
 .have I':Inv X pins σ H {s with heap:=h'}:=I.kept (t':=s.toks) kp
  obtain⟨as,ra⟩:=DpAll.reads I' ds ys its hd rv
  refine⟨tuples' true,λQ E hq=> ?_,λi j hi hj C hC=> ?_⟩
  .obtain⟨fs,t,hfl,hf⟩:=z8X ra λd hd'=>(ok1 d hd').1.1
   have hdl:=SeqAt.ReadsAll.length _ _ _ ra
   refine W.kat_kind (T:= .type "int") t (by lia) (λv hv=> ?_) rfl hq
   obtain⟨i,tk,rfl⟩:=hf v hv
   exact W.Looks.of_pure rfl
  .obtain⟨bs,r1,m1⟩:=z0M ra i hi
   obtain⟨cs,r2,m2⟩:=z0M ra j hj
   obtain⟨b,hb⟩:=P2.mp (ok2 _ m1 _ m2)
   have o1:=ok1 _ m1
   have o2:=ok1 _ m2
   refine So.key_lt r1 r2 o1.1.2 o2.1.2 o1.1.1 o2.1.1 ?_ hb ?_
   .show X.A.units+1+1+_<_
    have:=S3 (ds.getD i .none).depth (ds.getD j .none).depth
    lia
   .have:z3a ds i j=b:=by unfold z3a;rw[hb];rfl
    rw[<-this];exact hC
 .refine⟨.ref D,_,I.laid (t':=s.toks) (o:= .lst ((So.perm ys.length (z3a ds)).map λi=>ys.getD i .non)) kp hD ⟨by rw[i9,So.perm_len];exact hz,_,e1,z2G rv _ λi hi=> ?_, ?_⟩,rfl,q _ (I.hok.fresh hD)⟩
  .rw[hl];exact So.perm_lt i hi
  .rw[hl] at hget;exact hget
end
end L2
namespace Mi
open PySem L2 PySem.Spec PyProof.Rows
section
variable{X:Cx}{G:Gx}{F:Fy}
noncomputable def z1E(ds:List D):List D:=(So.perm ds.length (z3a (erL ds))).map λi=>ds.getD i .non
noncomputable def zbZ:List D->M D
 |[.lst l ds]=>λs=>if(plainL ds&&z8W (erL ds)&&(labsL ds).isEmpty)=true then .ok (.lst s.n (z1E ds)) s.nxt else .no
 |_=>fl
theorem RDs.len2: ∀{ds:List D} {xs:List V},RDs G ρ H ds xs->ds.length=xs.length
 |[],xs,h=>by erw[RDs] at h;subst h;rfl
 |d::ds,xs,h=>by erw[RDs] at h;obtain⟨x,q,rfl,_,h2⟩:=h;rw[A3,A3,RDs.len2 h2]
theorem RDs.perm{ds:List D}{xs:List V}(h:RDs G ρ H ds xs): ∀q:List Nat,(∀i∈q,i<ds.length)->RDs G ρ H (q.map λi=>ds.getD i .non) (q.map λi=>xs.getD i .non)
 |[],_=>by erw[A2,RDs]
 |i::q,hq=>by
  erw[i6,RDs]
  refine⟨_,_,rfl, ?_,RDs.perm h q λj hj=>hq j (i5 _ hj)⟩
  have hi:=hq i l5
  obtain⟨x,ex,rx⟩:=RDs.at' (i:=i) (d:=ds.getD i .non) h (by simp[hi])
  rw[show xs.getD i .non=x by rw[List.getD_eq_getElem?_getD,ex];rfl]
  exact rx
theorem z2H{ds:List D}(h:labsL ds=[]): ∀q:List Nat,labsL (q.map λi=>ds.getD i .non)=[]
 |[]=>by erw[A2,labsL]
 |i::q=>by
  erw[i6,labsL]
  rw[z2H h q,l0]
  have gen: ∀(ds:List D) (i:Nat),labsL ds=[]->labs (ds.getD i .non)=[]:=by
   intro ds
   induction ds with
   |nil=>intro i _;simp[labs]
   |cons d ds ih=>
    intro i h
    erw[labsL,R8] at h
    cases i with
    |zero=>simpa using h.1
    |succ i=>simpa using ih i h.2
  exact gen ds i h
def zgb:V7 G F (zga G.K) zbZ:=by
 intro ρ s ts vs H σv tv Q M W
 unfold zbZ at W
 split at W
 .rename_i l ds
  split at W
  .rename_i hc
   erw[A7,List.isEmpty_iff] at hc
   obtain⟨⟨c1,c2⟩,c3⟩:=hc
   obtain⟨v,rfl,h,_⟩:=M.one
   obtain⟨p,xs,rfl,s1,r1,_⟩:=id (h.lstq (ds:=ds) rfl)
   refine⟨p,xs,erL ds,rfl,s1,RDs.dp _ _ r1 c1,c2,λl hl k=> ?_⟩
   have e:=RDs.len2 r1
   rw[<-e] at k⊢
   exact z0I W M.m (RDs.perm r1 _ So.perm_lt) (λj hj=>by unfold z1E at hj;rw[z2H c3] at hj;cases hj) hl k
  .exact False.elim W
 .exact wfl W
def zc0(hk:X.K=G.K)(hu:X.A.units+64<cLine):Cb X G F (.builtin "sorted") zbZ:=⟨_,hk▸zaQ hu,zgb⟩
end
end Mi
namespace L2
open PySem PySem.Spec PyProof.Rows
end L2
namespace Mi
open PySem L2 PySem.Spec PyProof.Rows
section
variable{X:Cx}{G:Gx}{F:Fy}{e:bi}{pos pos':bG}
noncomputable def zgc(i:Nat)(a:Int):D->MS
 | .int b=>λs=> .nx {s with σ:=s.σ.set i (some (.int (a+b)))}
 |_=>λ_=> .no
noncomputable def z5S(i:Nat)(m:M D):MS:=λs=>match s.σ[i]? with
 |some (some (.int a))=>z0K m (zgc i a) s
 |_=> .no
def ss_augI{i:Nat}(hN:X.N.Nodup)(hi:X.N[i]? =some x)(hx:Loc X.env.scope x)(hf:X.fn x=true\/X.env.scope.names.lookup x=some .local)(he:SE X G F e m):SS X G F (.AugAssign (.Name x pos') .Add e pos) (z5S i m):=by
 refine PS.imp0 (zeG hN hi hx he zeH hf) λD σ H ⟨tv,hs,ρ,s,M,W⟩=> ?_
 unfold z5S at W
 split at W
 .rename_i a ea
  obtain⟨v,h1,h2⟩:=M.sl.get i _ ea
  erw[RD] at h2
  subst h2
  refine⟨.int a,h1,tv,(z0X (m:=m) (f:=zgc i a) ⟨hs,ρ,s,M,W⟩).mono λv H1 ⟨ρ1,s1,t,M1,W1⟩=> ?_⟩
  unfold zgc at W1
  split at W1
  .rename_i b
   obtain⟨v',e',h,_⟩:=M1.one
   cases e'
   erw[RD] at h
   subst h
   have M2:MRL G F.toFx ρ1 H1 σ tv s1 [.int (a+b)] [.int (a+b)]:=⟨M1.m,RDs.one (by erw[RD]),λl hl=>by simp[labsL,labs] at hl⟩
   exact⟨a,b,rfl,rfl,W1 ρ1 _ H1 (M2.setS i).m⟩
  .exact False.elim W1
 .exact False.elim W
noncomputable def z19:List D->Option (List Int)
 |[]=>some []
 | .int i::ds=>match z19 ds with|some ns=>some (i::ns)|none=>none
 |_=>none
end
end Mi
namespace L2
open PySem PySem.Spec PyProof.Rows
end L2
namespace Mi
open PySem L2
section
variable{X:Cx}{G:Gx}{F:Fy}{a b tg:bi}{pos:bG}
noncomputable def zgd(i:Nat)(ds es:List D):Option D:=match ds[i]?,es[i]? with
 |some d,some e=>some (.tup [d,e])
 |_,_=>none
end
end Mi
namespace So
open PySem PySem.W PyProof.Rows PySem.SeqAt
end So
namespace L2
open PySem PySem.Spec PyProof.Rows
end L2
namespace Mi
open PySem L2 PySem.Spec PyProof.Rows
section
variable{G:Gx}{ρ:Nat->Addr}{H:Hp}
def RD.dctp{l:Nat}(h:RD G ρ H (.dct l (.non::ks) vs) v):v= .ref (ρ l)/\∃kvs:List (Key×V),H (ρ l)=some (.dK kvs)/\ks=kvs.map (λp=>z17 p.1)/\RDs G ρ H vs (kvs.map (·.2)):=by
 erw[RD] at h
 obtain⟨e,⟨kvs,s,s2,r⟩|⟨kvs,s,s2,r⟩⟩:=h
 .injection s2 with _ s2
  exact⟨e,kvs,s,s2,r⟩
 .cases kvs with
  |nil=>cases s2
  |cons p kvs=>erw[i6,dkD] at s2;injection s2 with s2 _;cases s2
noncomputable def z8Y(ks:List D)(k:Key):List D:=if(ks.any λd=>decide (z02 d=some k))=true then ks else ks++[z17 k]
noncomputable def z5T(ks vs:List D)(k:Key)(v:D):List D:=if(ks.any λd=>decide (z02 d=some k))=true then O3 (λd w=>if z02 d=some k then v else w) ks vs else vs++[v]
def zge(kvs:List (Key×V)):((kvs.map λp=>z17 p.1).any λd=>decide (z02 d=some k))=kvs.any λkv=>decide (kv.1=k):=by
 rw[R7]
 congr 1
 funext p
 erw[Function.comp,z52,Option.some.injEq]
theorem z43{k:Key}(h:RD G ρ H t v): ∀(kvs:List (Key×V)) (vs:List D),RDs G ρ H vs (kvs.map (·.2))->
 RDs G ρ H (O3 (λd w=>if z02 d=some k then t else w) (kvs.map λp=>z17 p.1) vs) ((kvs.map (λkv=>if kv.1=k then(kv.1,v) else kv)).map (·.2))
 |[],[],_=>by simp[RDs]
 |[],_::_,h=>by erw[A2,RDs] at h;obtain⟨_,_,e,_⟩:=h;cases e
 |p::kvs,[],h=>by erw[i6,RDs] at h;cases h
 |p::kvs,w::vs,h'=>by
  erw[i6,RDs] at h'
  obtain⟨x,r,e1,h1,h2⟩:=h'
  cases e1
  erw[i6,E4,RDs,z52,Option.some.injEq]
  by_cases hk:p.1=k
  .rw[if_pos hk,if_pos hk];exact⟨_,_,rfl,h,z43 h kvs vs h2⟩
  .rw[if_neg hk,if_neg hk];exact⟨_,_,rfl,h1,z43 h kvs vs h2⟩
def zdr{k:Key}{kvs:List (Key×V)}(h:RD G ρ H t v)(r:RDs G ρ H vs (kvs.map (·.2))):
 z8Y (kvs.map λp=>z17 p.1) k=(z2a kvs k v).map (λp=>z17 p.1)/\RDs G ρ H (z5T (kvs.map λp=>z17 p.1) vs k t) ((z2a kvs k v).map (·.2)):=by
 unfold z8Y z5T z2a
 rw[zge]
 cases e:kvs.any λkv=>decide (kv.1=k) with
 |true=>
  erw[if_true]
  refine⟨?_,z43 h kvs vs r⟩
  rw[D4]
  refine D2 λp _=> ?_
  erw[Function.comp]
  split<;>rfl
 |false=>
  erw[A4,if_false,t8,i6,A2]
  exact⟨trivial,r.append (RDs.one h)⟩
theorem z53: ∀kvs:List (Key×V),labsL (kvs.map λp=>z17 p.1)=[]
 |[]=>rfl
 |p::kvs=>by
  have e:labs (z17 p.1)=[]:=by cases p.1<;>rfl
  erw[i6,labsL,e,z53 kvs];rfl
def z54(hv:labs v=[])(h:labsL vs=[]):labsL (z5T ks vs k v)=[]:=by
 have h':=z1Y h
 unfold z5T
 split
 .refine W5 λd hd=> ?_
  obtain⟨i,hi,e⟩:=L7 hd
  rw[N5] at e
  subst e
  split
  .exact hv
  .exact h' _ (B3 _)
 .refine W5 λd hd=> ?_
  rcases l4.mp hd with q|q
  .exact h' d q
  .rw[t9.mp q];exact hv
end
section
variable{X:Cx}{G:Gx}{F:Fy}{e o a b:bi}{pos apos cpos:bG}{mo mi mx:M D}
noncomputable def z8Z:M D:=λs=> .ok (.dct s.n [.non] []) s.nxt
def se_dnewK(hk:X.K=G.K):SE X G F (.Dict [] [] pos) z8Z:=
 PE.imp hk zan λ σ H Q ⟨tv,hs,ρ,s,M,W⟩ p hp k=>by
  refine wM.out (ρ:=ext ρ s.n p) W (M.new hp k) ?_ λl hl=> ?_
  .erw[RD]
   rw[J7]
   exact⟨rfl, .inl ⟨[],y8,rfl,by simp[RDs]⟩⟩
  .erw[labs,labsL,l0,t9] at hl
   rw[hl]
   exact⟨B4 _,by rw[J7];exact .inr (M.fresh0 hp)⟩
noncomputable def z44(o i v:D):MS:=λs=>match o with
 | .dct l (.non::ks) vs=>match z02 i with
  |some k=>if ks.length<sizeLine/\labs v=[]/\labsL vs=[] then .nx (s.put l (.dct l (.non::z8Y ks k) (z5T ks vs k v))) else .no
  |none=> .no
 |_=> .no
def zaR{ρ:Nat->Addr}{s:Stt}{t1 t2 t3:D}{v o i:V}{H:Hp}{σv tv:List (Option V)}{Dd:z5u}(M:MRL G F.toFx ρ H σv tv s [t1,t2,t3] [v,o,i])(W:wS G F tv (z44 t2 t3 t1 s) Dd): ∃a H4,o= .ref a/\z7L H a i v H4/\Dd.nx σv H4:=by
 have h:=M.rd
 erw[RDs] at h
 obtain⟨_,_,e,h1,_,_,e2,h2,_,_,e3,h3,_⟩:=h
 cases e;cases e2;cases e3
 have b2:LB F.toFx ρ s.n (labs t2):=λl h=>M.lb l (by erw[labsL];exact i4 _ (i8 _ h))
 unfold z44 at W
 split at W
 .rename_i l ks vs
  cases ek:z02 t3 with
  |none=>rw[ek] at W;exact False.elim W
  |some k=>
   rw[ek] at W
   dsimp only at W
   by_cases hc:ks.length<sizeLine/\labs t1=[]/\labsL vs=[]
   .rw[if_pos hc] at W
    obtain⟨hz,hv,hvs⟩:=hc
    obtain⟨rfl,kvs,hx,rfl,r⟩:=h2.dctp
    obtain⟨rfl,_⟩:=z3Y h3 ek
    have bl:=b2 l (by erw[labs];exact l5 ..)
    have st:G6 H (upd H (ρ l) (.dK (z2a kvs k v))):=
     ⟨λb ys q=>by rw[y9 (z07 q hx (by intro z;cases z))];exact q,λb o u q=>by rw[y9 (z07 q hx (by intro z;cases z))];exact q⟩
    have pr:=zdr (k:=k) h1 r
    refine⟨ρ l,_,rfl,z7L.k hx (by simpa using hz),W ρ σv _ (M.m.put2 bl.1 bl.2 st (z2A M.m.kd hx) ?_ λj hj=> ?_)⟩
    .erw[RD]
     refine⟨trivial, .inl ⟨z2a kvs k v,y8,by rw[pr.1], ?_⟩⟩
     exact RDs.stay st _ _ pr.2 λj hj=>by rw[z54 hv hvs] at hj;cases hj
    .erw[labs,labsL,pr.1,z53,z54 hv hvs,l0,t9] at hj
     rw[hj];exact bl
   .rw[if_neg hc] at W;exact False.elim W
 .exact False.elim W
def ss_dputP{ob ix:bi}{pos tpos:bG}{me:M D}(hu:X.A.units+64<cLine)(he:SE X G F e me)(ho:SE X G F ob mo)(hi:SE X G F ix mi)(hs:bO e (some (.Subscript ob ix tpos)) pos.line X.env=pure false:=by rfl):
 SS X G F (.Assign [.Subscript ob ix tpos] e pos) (z1f me mo mi z44):=by
 refine PS.imp0 (z5E (show X.A.units+2<cLine by lia) ho hi he hs) λDd σ H ⟨tv,h⟩=> ?_
 exact(z3X h).mono λv H1 h1=>h1.mono λo H2 h2=>h2.mono λi H3 ⟨ρ,s,t1,t2,t3,M,W⟩=>zaR M W
end
end Mi
namespace PySem
section
variable{prog:bm}{w:bo}{A:bq}{E:be->bf->Prop}{s:bf}
def z90{Q:be->bf->Prop}(hd:(d==bD)=false)(hT:s.TypeIs (.ref d) "dict")(hQ: ∀h',h'.IsItemsView s.heap.objs.size d->(∀b o,s.heap.get? b=some o->h'.get? b=some o)->Q (.ref s.heap.objs.size) {s with heap:=h'}):bj (bn prog w) A (call (.builtin "dict.items") [.ref d]) Q E s:=by
 refine bx F.slot_dict_items hT F.entry_dict_items ?_ (F.args_dict_items_1 _)
 unfold Builtin.«dict.items» Builtin.Dict.noArgs
 refine bb (bb (de hT (show bj _ _ (pure d) _ _ s from bg ?_)))
 unfold Builtin.Dict.showsAll
 rw[if_neg (by rw[hd];exact A9)]
 exact bb (bg (bb (bt (bg ⟨_,rfl,hQ _ ⟨_,Heap.get?_push_size _ rfl,rfl,rfl⟩ λ_ _ q=>Heap.get?_push_of_some _ q⟩))))
def z91{o:bK}{ep:Nat}{Q:be->bf->Prop}(hv:s.heap.IsItemsView v d)(ho:s.heap.get? d=some o)(hdat:o.data= .dict es ep)
 (hQ: ∀h',bY h' s.heap.objs.size d 0 es.size ep .none .none->(∀b o,s.heap.get? b=some o->h'.get? b=some o)->Q (.ref s.heap.objs.size) {s with heap:=h'}):bj (bn prog w) A (fM (.ref v)) Q E s:=by
 obtain⟨ov,hov,hcv,hdv⟩:=id hv
 have hown:Builtin.Dict_items.ownsTuple "dict_itemiterator" =true:=by decide
 refine dW hv.typeIs F.slot_dict_items_iter (bx F.slot_dict_items_iter hv.typeIs F.entry_dict_items_iter ?_ (F.args_dict_items_iter_1 _))
 unfold Builtin.«dict_items.__iter__» Builtin.Dict_items.dictOf Builtin.Dict_items.newIterator
 refine bb (bg (bb (bb (cg hov hdv (x:= .ref d) rfl ?_))))
 refine bg (bb (bb (bT ho hdat (bb (cb ho hdat ?_)))))
 erw[hown,if_true]
 refine bt (bg ?_) (by erw[sizeOk,Builtin.Dict_items.ownedTupleFields,m4,m5,A3,B2,di];lia)
 refine⟨_,rfl, "dict_itemiterator",_,⟨_,Heap.get?_push_size _ rfl,rfl⟩,F.slot_dict_itemiterator_next.lookup,hQ _ ?_ λ_ _ q=>Heap.get?_push_of_some _ q⟩
 have:=Heap.get?_push_size s.heap (o:={cls:= .type "dict_itemiterator",data:= .fields #[.none, .bool false, .ref d, .int 0 0, .int es.size 0, .int ep 0, .none, .none]}) rfl
 unfold bY
 simpa[dh,Builtin.Dict_items.ownedTupleFields] using this
def z92{i ep:Nat}{od:bK}{es:Array bV}{Q:Option be->bf->Prop}(hit:bY s.heap it d i es.size ep ok ov)(hod:s.heap.get? d=some od)(hdd:od.data= .dict es ep)(hx:es[i]? =some en)
 (hQ: ∀h',dG h' it d (i+1) es.size ep en.key en.val s.heap.objs.size->h'.get? s.heap.objs.size=some {cls:= .type "tuple",data:= .seq #[en.key,en.val]}->(∀b o,b≠it->s.heap.get? b=some o->h'.get? b=some o)->Q (some (.ref s.heap.objs.size)) {s with heap:=h'}):
 bj (bn prog w) A (cF (.ref it)) Q E s:=by
 obtain⟨hp,g,dr,tk,os⟩:=s
 have hT:Shared.TypeIs ⟨hp,g,dr,tk,os⟩ (.ref it) "dict_itemiterator" :=⟨_,hit,rfl⟩
 have hown:Builtin.Dict_items.ownsTuple "dict_itemiterator" =true:=by decide
 have hlt:i<es.size:=by
  rcases R6 i es.size with h|h
  .exact h
  .simp[Array.getElem?_eq_none h] at hx
 have hen:es[i]=en:=by rw[Array.getElem?_eq_getElem hlt] at hx;exact Option.some.inj hx
 unfold cF
 refine bb (cx (wpAny_callSpecial?_slot (name:=Str.ofString "__next__") hT F.slot_dict_itemiterator_next (bx F.slot_dict_itemiterator_next hT F.entry_dict_itemiterator_next ?_ (F.args_dict_itemiterator_next_1 _))))
 refine bb (bg (bb (bb ?_)))
 first|refine bb (bH hT (bg (bb (cc hit rfl ?_))))|refine bb (bP hT (bg (bb (cc hit rfl ?_))))
 erw[hown,if_true]
 show bj _ _ (if(Value.ref d==Value.none)=true then _ else _) _ _ _
 rw[if_neg (show ¬((Value.ref d==Value.none)=true) from A9)]
 refine bb (bg (bb (bT hod hdd ?_)))
 rw[if_neg (by simp)]
 refine bb (bg (bb (cb hod hdd ?_)))
 rw[if_neg (by simp)]
 refine bg ?_
 erw[show ¬((i:Int)<0) from by lia,if_false,L0,Array.getElem?_eq_getElem hlt,hen]
 refine bb ?_
 first|refine bb (bH hT (bg (bb (bZ hT ?_))))|refine bb (bP hT (bg (bb (bZ hT ?_))))
 show bj _ _ (fE (.ref it) 3 (dh ((i:Int)+1))>>=_) _ _ ⟨hp,g,dr,tk,os⟩
 refine bb (ca hit (by simp) λk1 f1 t1=> ?_)
 have t1:Heap.SameBut it hp k1:=t1
 have f1:bY k1 it d (i+1) es.size ep ok ov:=by
  have e:((i+1:Nat):Int)=(i:Int)+1:=by lia
  unfold bY;rw[e];simpa[dh] using f1
 have hT1:Shared.TypeIs ⟨k1,g,dr,tk,os⟩ (.ref it) "dict_itemiterator" :=⟨_,f1,rfl⟩
 refine bb (br (bb (bZ hT1 (bb (bZ hT1 ?_)))))
 show bj _ _ (Builtin.Dict_items.pairFromOwner (.ref it) 6 en.key en.val) _ _ ⟨k1,g,dr,tk,os⟩
 unfold Builtin.Dict_items.pairFromOwner
 refine bb (du ?_)
 have z1:k1.objs.size=hp.objs.size:=t1.1
 have hil:it<hp.objs.size:=Heap.lt_size hit
 have f2:bY (k1.push {cls:= .type "tuple",data:= .seq #[en.key,en.val]}) it d (i+1) es.size ep ok ov:=Heap.get?_push_of_some _ f1
 generalize hk2:k1.push {cls:= .type "tuple",data:= .seq #[en.key,en.val]}=k2 at f2
 have p2:k2.get? hp.objs.size=some {cls:= .type "tuple",data:= .seq #[en.key,en.val]}:=by rw[<-hk2,<-z1];exact Heap.get?_push_size _ rfl
 have o2: ∀b o,b≠it->hp.get? b=some o->k2.get? b=some o:=λb o hb e=>by rw[<-hk2];exact Heap.get?_push_of_some _ (t1.extBut b o hb e)
 show bj _ _ (Builtin.Dict_items.ownedTupleIsFree (.ref it)>>=_) _ _ ⟨k2,g,dr,tk,os⟩
 rw[z1]
 unfold Builtin.Dict_items.ownedTupleIsFree
 refine bb (bb (cg f2 rfl (x:= .none) rfl (bg ?_)))
 erw[if_true]
 refine bb (cg f2 rfl (x:=ok) rfl (bb (cg f2 rfl (x:=ov) rfl (bb (ca f2 (by simp) λk3 f3 t3=> ?_)))))
 have t3:Heap.SameBut it k2 k3:=t3
 have f3:bY k3 it d (i+1) es.size ep en.key ov:=f3
 refine bb (ca f3 (by simp) λk4 f4 t4=> ?_)
 have t4:Heap.SameBut it k3 k4:=t4
 have f4:bY k4 it d (i+1) es.size ep en.key en.val:=f4
 refine bb (ca f4 (by simp) λk5 f5 t5=> ?_)
 have t5:Heap.SameBut it k4 k5:=t5
 have f5:dG k5 it d (i+1) es.size ep en.key en.val hp.objs.size:=f5
 refine bb (ca f5 (by simp) λk6 f6 t6=> ?_)
 have t6:Heap.SameBut it k5 k6:=t6
 have f6:dG k6 it d (i+1) es.size ep en.key en.val hp.objs.size:=f6
 have on: ∀b o,b≠it->k2.get? b=some o->k6.get? b=some o:=λb o hb e=>t6.extBut b o hb (t5.extBut b o hb (t4.extBut b o hb (t3.extBut b o hb e)))
 exact bb (wpAny_letGo (bg (bg ⟨_,rfl,bg (hQ k6 f6 (on _ _ (O2 hil) p2) λb o hb e=>on b o hb (o2 b o hb e))⟩)))
def zaS{i ep:Nat}{od:bK}{es:Array bV}{Q:Option be->bf->Prop}(hh:A.handled=none)(hit:bY s.heap it d i es.size ep ok ov)(hod:s.heap.get? d=some od)(hdd:od.data= .dict es ep)(hge:es.size<=i)
 (hQ: ∀h',Heap.ExtBut it s.heap h'->Q none {s with heap:=h'}):bj (bn prog w) A (cF (.ref it)) Q E s:=by
 have hT:s.TypeIs (.ref it) "dict_itemiterator" :=⟨_,hit,rfl⟩
 have hown:Builtin.Dict_items.ownsTuple "dict_itemiterator" =true:=by decide
 unfold cF
 refine bb (cx (wpAny_callSpecial?_slot (name:=Str.ofString "__next__") hT F.slot_dict_itemiterator_next (bx F.slot_dict_itemiterator_next hT F.entry_dict_itemiterator_next ?_ (F.args_dict_itemiterator_next_1 _))))
 refine bb (bg (bb (bb ?_)))
 first|refine bb (bH hT (bg (bb (cc hit rfl ?_))))|refine bb (bP hT (bg (bb (cc hit rfl ?_))))
 erw[hown,if_true]
 show bj _ _ (if(Value.ref d==Value.none)=true then _ else _) _ _ s
 rw[if_neg (show ¬((Value.ref d==Value.none)=true) from A9)]
 refine bb (bg (bb (bT hod hdd ?_)))
 rw[if_neg (by simp)]
 refine bb (bg (bb (cb hod hdd ?_)))
 rw[if_neg (by simp)]
 refine bg ?_
 erw[show ¬((i:Int)<0) from by lia,if_false,L0,Array.getElem?_eq_none hge]
 refine bb ?_
 first|refine bb (bH hT (bg ?_))|refine bb (bP hT (bg ?_))
 show bj _ _ (fE (.ref it) 2 .none>>=_) _ _ s
 refine bb (dv hit rfl (by simp) ?_)
 show bj _ _ (newExc (.type "StopIteration") []>>=_) _ _ _
 erw[newExc,newTuple]
 refine bb (bb (bt (bb (m:=cH _ _) (wpAny_of_eq (a:=Value.none) (by first|rfl|(erw[cH];rfl)) (bt ?_ (by size_fits)))) (by size_fits)))
 erw[raiseNew]
 refine bb (wpAny_handled ?_)
 rw[show A.in1.handled=none from hh]
 refine bb (bg (wpAny_throw ?_))
 refine bb (cM (T:= "StopIteration") (b:=true) ⟨_,Heap.get?_push_size _ rfl,rfl⟩ isSubtype_stop (bg (hQ _ ?_)))
 exact((Heap.SameBut.update ..).extBut.push _).push _
end
end PySem
namespace L2
open PySem PySem.Spec PyProof.Rows
noncomputable def zen(K:W.Frag)(a:Addr)(o:bK)(kvs:List (NK×V)):It:=
 ⟨λi H=>i<kvs.length/\H a=some (.frz o (.dT kvs)),λi H x H'=> ∃p b k v,H p=none/\x= .ref p/\H'=upd H p (.tup [.ref b,v])/\kvs[i]? =some (k,v)/\TK H k b/\∀c ob,K.lookup c=some ob->H' c=none,λi H=>kvs.length<=i/\H a=some (.frz o (.dT kvs))⟩
def z93(ok:HOk P w H h)(e:H a=some (.frz o (.dT kvs))):
 h.get? a=some o/\∃es ep,o.data= .dict es ep/\es.size=kvs.length/\
  ∀(i:Nat) (k:NK) (v:V),kvs[i]? =some (k,v)->∃en b,es[i]? =some en/\en.key= .ref b/\TK H k b/\RelV v en.val:=by
 obtain⟨ho,z,y,xs,r,o',es,ep,e',c,d,l,nd⟩:=ok a _ e
 rw[ho] at e'
 cases e'
 have hl:kvs.length=xs.length:=Paired.length r
 have hs:es.size=xs.length:=cY l
 refine⟨ho,es,ep,d,by lia,λi k v q=> ?_⟩
 obtain⟨⟨k',b,u⟩,q1,q2,q3,q4⟩:=Paired.get r i _ q
 have q2:k=k':=q2
 subst q2
 have hi:=entry_at l i
 rw[q1] at hi
 exact⟨_,b,hi,rfl,q3,q4⟩
def z94{P:bm}{w:bo}{K:W.Frag}{elts:List bi}{x1:Nat}{tpos:bG}(a it:Addr)(o:bK)(es:Array bV)(ep:Nat)(hd:o.data= .dict es ep)(kvs:List (NK×V)):
 zee P w K (.Tuple elts x1 tpos) (zen K a o kvs) [it] it (λi h=> ∃ok ov,bY h it a i es.size ep ok ov) where
 mem:=by simp
 obj:=λi h st b hb=>by
  have e:b=it:=by simpa using hb
  subst e
  obtain⟨_,_,st⟩:=st
  exact⟨_,st,λv z=>by
   have z':Data.fields _=Data.cell v:=z
   cases z'⟩
 keep:=λi h h' st k=>by
  obtain⟨ok,ov,st⟩:=st
  exact⟨ok,ov,k it (by simp) _ st⟩
 item:=by
  intro X hP hw hK hc i pins s σ H E I hf st hg
  subst hP hw hK
  obtain⟨hi,hq⟩:=hg
  obtain⟨ok,ov,st⟩:=st
  obtain⟨ho,es',ep',hd',hsz,hat⟩:=z93 I.hok hq
  rw[hd] at hd'
  cases hd'
  obtain⟨⟨k,v⟩,hk⟩: ∃p,kvs[i]? =some p:=⟨kvs[i],by simp[hi]⟩
  obtain⟨en,b,he,hb,hB,hv⟩:=hat i k v hk
  refine z92 st ho hd he λh1 f1 p1 k1=>⟨_,rfl,wpAny_letOwnedTupleGo_items f1 λh2 f2 t2=> ?_⟩
  have t2:Heap.SameBut it h1 h2:=t2
  have hil:it<s.heap.objs.size:=Heap.lt_size st
  have p2:h2.get? s.heap.objs.size=some {cls:= .type "tuple",data:= .seq #[en.key,en.val]}:=(t2.2 _ (O2 hil)).trans p1
  have fr: ∀c∈[it],c≠s.heap.objs.size:=λc hc=>by
   have hc:c=it:=by simpa using hc
   subst hc;exact B1 hil
  have I1:Inv X pins σ (upd H s.heap.objs.size (.tup [.ref b,v])) {s with heap:=s.heap.push {cls:= .type "tuple",data:= .seq #[en.key,en.val]},toks:=s.toks}:=I.laid (t':=s.toks) (o:= .tup [.ref b,v]) (λb ob q=>Heap.get?_push_of_some _ q) (i7 _) ⟨by show 2<=sizeLine;decide,[en.key,en.val], .cons hb (.cons hv .nil),IsTup.new _ _⟩
  have f3: ∀c∈[it],z7K X pins (upd H s.heap.objs.size (.tup [.ref b,v])) c:=λc hc=>⟨by rw[y9 (fr c hc)];exact(hf c hc).1,(hf c hc).2⟩
  have I2:=I1.turnedL (h':=h2) (t':=s.toks) (λc ob hc q=>by
   have hc:c≠it:=by simpa using hc
   rcases Heap.get?_push_cases (show(s.heap.push {cls:= .type "tuple",data:= .seq #[en.key,en.val]}).get? c=some ob from q) with⟨rfl,rfl⟩|q'
   .exact p2
   .exact(t2.2 c hc).trans (k1 c ob hc q')) f3
  exact⟨.ref s.heap.objs.size,_,I2,rfl,⟨_,b,k,v,I.hok.fresh (i7 _),rfl,rfl,hk,hB,λc ob q=>(I2.bs c ob (I2.ok.mod.kin c ob q)).2⟩,⟨_,_,f2⟩,λc hc=>(f3 c hc).1⟩
 done:=by
  intro X hP hw hK hc i pins s σ H E I hf st hg
  subst hP hw hK
  obtain⟨hi,hq⟩:=hg
  obtain⟨ok,ov,st⟩:=st
  obtain⟨ho,es',ep',hd',hsz,hat⟩:=z93 I.hok hq
  rw[hd] at hd'
  cases hd'
  exact zaS (I.ok.hd hc) st ho hd (by lia) λh' eb=>⟨rfl,I.turnedL (t':=s.toks) (λc ob hb q=>eb c ob (by simpa using hb) q) hf⟩
 self:=λA i s Q E st h=>by
  obtain⟨_,_,st⟩:=st
  exact W.kcp_self st h
section
variable{X:Cx}
noncomputable def zgf(K:W.Frag)(td:TE):TI:=λ σ H R=>td σ H λx H1=> ∃a kvs,x= .ref a/\H1 a=some (.dT kvs)/\∀o,R (zen K a o kvs) (upd H1 a (.frz o (.dT kvs)))
def zds{elts:List bi}{x1:Nat}{tpos apos cpos:bG}(hl:PE X l tl)(hbase:bN l "items" X.env (bB l X.env)=bB l X.env:=by rfl)
 (hfew:((bC cpos (bh [] X.env)).all (λx=> !x.1)&&(cm cpos (bS [] X.env)).all (λx=>x.1.isSome)&&decide (([]:List bi).length+([]:List bM).length+(if([]:List bM).isEmpty then 0 else 1)<30))=true:=by rfl)
 (hline:(apos.endLine==cpos.line)=true:=by rfl):PI X (.Tuple elts x1 tpos) (.Call (.Attribute l "items" apos) [] [] cpos) (zgf X.K tl):=by
 intro pins s σ H R I h
 refine wpAny_Call_method hbase hfew hline PySem.F.plainAttrs_dict PySem.F.slot_dict_items PySem.F.type_dict_items (thn (hl pins s σ H _ I h) λu s1 ⟨x,H1,I1,rx,a,kvs,ex,ha,q⟩=> ?_)
 subst ex
 obtain rfl:u=Value.ref a:=rx
 obtain⟨t1,t2,_⟩:=zf5 I1 (.inr ⟨kvs, .inl ha⟩)
 refine⟨t1,t2,PyProof.Rows.callWith_method0 ?_⟩
 obtain⟨o,es,ep,ho,hc,hd,hy,hsz,I2⟩:=I1.freeze ha
 refine z90 hy t1 λh1 hv k1=> ?_
 refine z91 hv (k1 _ _ ho) hd λh2 f2 k2=> ?_
 have I3:Inv X pins σ (upd H1 a (.frz o (.dT kvs))) {s1 with heap:=h1}:=I2.kept (t':=s1.toks) k1
 have I4:Inv X pins σ (upd H1 a (.frz o (.dT kvs))) {s1 with heap:=h2}:=I3.kept (t':=s1.toks) k2
 refine⟨h1.objs.size,[h1.objs.size],_,zen X.K a o kvs,_,rfl,I4,z94 a _ o es ep hd kvs,⟨_,_,f2⟩,λb hb=> ?_,q o⟩
 have e:b=h1.objs.size:=by simpa using hb
 subst e
 exact I3.fpOk (i7 _) I3.fresh
end
end L2
namespace Mi
open PySem L2
noncomputable def zgg(i:Nat):List (Option D)->Option (Option D)
 |some (.fdc ks vs)::_=>some (zgd i ks vs)
 |_=>none
noncomputable def zdt:ItK:=⟨1,zgg,zbX⟩
noncomputable def z5U(m:M D):M ItK:=bd m λd s=>match d with
 | .dct l ks vs=>if isT ks=true/\labsL vs=[] then .ok zdt ((s.put l (.fdc ks vs)).psh (.fdc ks vs)) else .no
 |_=> .no
section
variable{G:Gx}{F:Fy}{ρ:Nat->Addr}{H:Hp}{σv tv:List (Option V)}{s:Stt}{a:Addr}
def zgh{tvp:List (Option V)}(M:MR G F' ρ H σv (tvp++([some (.ref a)]++tv)) s)(h:H a=some (.frz u (.dT kvs)))(i:Nat):match zdt.at' i (s.tm.drop tvp.length) with
 |none=>True
 |some none=>(zen G.K a u kvs).stop i H
 |some (some d)=>(zen G.K a u kvs).go i H/\∀x H',(zen G.K a u kvs).yld i H x H'->MRL G F' ρ H' σv (tvp++([some (.ref a)]++tv)) s [d] [x]:=by
 dsimp only[zdt]
 cases e:s.tm.drop tvp.length with
 |nil=>trivial
 |cons c0 r=>
  cases c0 with
  |none=>trivial
  |some c=>
   obtain⟨hc,lb⟩:=MR.head (s:=s.popn tvp.length) M.popn e
   cases c with
   |fdc ks vs=>
    erw[zgg]
    erw[RD] at hc
    obtain⟨a',u',kvs',ea,hx,hk,rv⟩:=hc
    cases ea
    rw[h] at hx
    cases hx
    subst hk
    have lv:=RDs.len2 rv
    erw[i9] at lv
    erw[zgd]
    cases e3:kvs[i]? with
    |none=>
     rw[List.getElem?_map,e3]
     exact⟨List.getElem?_eq_none_iff.mp e3,h⟩
    |some p=>
     have hi:=(List.getElem?_eq_some_iff.mp e3).1
     cases e4:vs[i]? with
     |none=>exact absurd (List.getElem?_eq_none_iff.mp e4) (by lia)
     |some d=>
      rw[List.getElem?_map,e3]
      refine⟨⟨hi,h⟩, ?_⟩
      rintro x H' ⟨q,b,k,v,hq,rfl,rfl,hk,hb,kd⟩
      rw[hk] at e3
      cases e3
      have sm:=z39.new (.tup [.ref b,v]) hq
      obtain⟨w,ew,rw'⟩:=rv.get i d e4
      have ev:w=v:=by
       rw[List.getElem?_map,hk] at ew
       exact(Option.some.inj ew).symm
      subst ev
      refine⟨M.same sm kd,RDs.one ?_,λl hl=> ?_⟩
      .erw[RD]
       refine⟨q,_,rfl,y8, ?_⟩
       have r1:=(RDs.one rw').same sm
       have r2:=(RDs.one (zg6 (G:=G) (ρ:=ρ) hb)).same sm
       erw[RDs] at r1 r2⊢
       obtain⟨_,_,e5,h1,_⟩:=r1
       cases e5
       obtain⟨_,_,e6,h2,_⟩:=r2
       cases e6
       exact⟨_,_,rfl,h2,_,_,rfl,h1,rfl⟩
      .erw[labsL,labs,l0,z41,A6] at hl
       exact lb l (by erw[labs];exact labsL_mem (List.mem_of_getElem? e4) l hl)
   |_=>trivial
end
section
variable{X:Cx}{G:Gx}{F:Fy}{tg iter elt:bi}{pos:bG}
def z7l{K:W.Frag}{k:Nat}{ix:List Nat}{m0:M D}{g:Tg}{mt:M Bool}{me:M D}{σ:St}{H:Hp}{Q:VK}(hk:K=G.K)(h:tM G F (J1 (z5U m0) g mt me k ix) σ H Q):z6A K (zgf K (tM G F m0)) (tGx G g) (tBx G mt) (tMx G me) k ix σ H Q:=by
 obtain⟨tv,hsf,ρ,s,M,W⟩:=h
 refine⟨tv,hsf,ρ,s,M, ?_⟩
 unfold J1 z5U bd at W
 cases em:m0 s with
 |ex d s1=>rw[em] at W;exact W
 |no=>rw[em] at W;exact W
 |ok t s0=>
  rw[em] at W
  dsimp only at W
  intro ρ1 v H1 M0
  cases t with
  |dct l ks vs=>
   dsimp only at W
   by_cases hc:isT ks=true/\labsL vs=[]
   .rw[if_pos hc] at W
    dsimp only at W
    obtain⟨hT,hvs⟩:=hc
    have rd0:=M0.rd1
    obtain⟨rfl,kvs,hx,hks,r⟩:=rd0.dctq hT
    have bl:=M0.lb1 l (by erw[labs];exact l5 ..)
    refine⟨ρ1 l,kvs,rfl,hx,λu A1 hA1 kd=> ?_⟩
    have st:G6 H1 (upd H1 (ρ1 l) (.frz u (.dT kvs))):=
     ⟨λb ys q=>by rw[y9 (z07 q hx (by intro z;cases z))];exact q,λb o w q=>by rw[y9 (z07 q hx (by intro z;cases z))];exact q⟩
    have rdF:RD G ρ1 (upd H1 (ρ1 l) (.frz u (.dT kvs))) (.fdc ks vs) (.ref (ρ1 l)):=by
     erw[RD]
     exact⟨ρ1 l,u,kvs,rfl,y8,hks,RDs.stay st _ _ r λj hj=>by rw[hvs] at hj;cases hj⟩
    have lbF: ∀j∈labs (.fdc ks vs),j<s0.n/\(F.A0 (ρ1 j)\/F.H0 (ρ1 j)=none):=λj hj=>by erw[labs,hvs] at hj;cases hj
    have M2:MR G F.toFx ρ1 (upd H1 (ρ1 l) (.frz u (.dT kvs))) σ tv (s0.put l (.fdc ks vs)):=M0.m.put2 bl.1 bl.2 st (z2A M0.m.kd hx) rdF lbF
    have M3:MR G F.toFx ρ1 (upd H1 (ρ1 l) (.frz u (.dT kvs))) σ (some (.ref (ρ1 l))::tv) ((s0.put l (.fdc ks vs)).psh (.fdc ks vs)):=
     MRL.push ⟨M2,RDs.one rdF,λj hj=>by erw[labsL,l0] at hj;exact lbF j hj⟩
    have M1:MR G (F.frz (ρ1 l) (.frz u (.dT kvs)) bl.2 (M0.m.frb l bl.1)).toFx ρ1 (upd H1 (ρ1 l) (.frz u (.dT kvs))) σ ([some (.ref (ρ1 l))]++tv) ((s0.put l (.fdc ks vs)).psh (.fdc ks vs)):=M3.frzIn y8 ⟨_,_,rfl⟩
    generalize hs1:(s0.put l (.fdc ks vs)).psh (.fdc ks vs)=s1 at M1 W
    generalize hF1:F.frz (ρ1 l) (.frz u (.dT kvs)) bl.2 (M0.m.frb l bl.1)=F1 at M1
    have out: ∀{ρ H s ts vs},MRL G F1.toFx ρ H σ tv s ts vs->MRL G F.toFx ρ H σ tv s ts vs:=by subst hF1;exact λh=>h.frzOut
    subst hk
    have kd:KD G.K (upd (upd H1 (ρ1 l) (.frz u (.dT kvs))) A1 (.lst [])):=kd
    have hf:=M1.fresh0 hA1
    refine⟨λi m ys σ' H'=> ∃ρ s,MR G (F1.prot A1 ys hf).toFx ρ H' σ' ((ys.reverse.map some)++(σ++([some (.ref (ρ1 l))]++tv))) s/\wM G F σ tv (v0 zdt g mt me s1.σ.length m i ys.length s) Q,⟨_,ρ1,_,M1.enter hA1 kd k ix,W⟩, ?_⟩
    rintro i m ys σ' H' ⟨ρ2,s2,M2',W2⟩
    have hD:=(MR.turnD (ys':=ys) M2').1
    refine⟨hD, ?_⟩
    have ol:s1.σ.length=σ.length:=M1.sl.length
    have hfz:H' (ρ1 l)=some (.frz u (.dT kvs)):=by subst hF1;exact MR.frzAt' M2'
    have ok:=zgh (tvp:=(ys.reverse.map some)++σ) (a:=ρ1 l) (tv:=tv) (by rw[A5];exact M2') hfz i
    simp only[m5,i9,L6,<-ol,A5] at ok
    unfold v0 at W2
    cases e:zdt.at' i (s2.tm.drop (ys.length+s1.σ.length)) with
    |none=>erw[e] at W2;exact False.elim W2
    |some o=>
     rw[e] at ok
     cases o with
     |none=>
      erw[e] at W2 ok
      refine .inl ⟨ok, ?_⟩
      cases ea:Y2 (s2.tm.take ys.length).reverse with
      |none=>erw[ea] at W2;exact False.elim W2
      |some ds=>
       erw[ea] at W2
       exact W2 _ _ _ (out (MR.leave M2' (kk:=zdt.k) rfl _ ol.symm ea))
     |some d=>
      erw[e] at W2 ok
      cases m with
      |zero=>exact False.elim W2
      |succ f=>
       dsimp only at W2
       cases e2:asg g d s2.σ with
       |none=>erw[e2] at W2;exact False.elim W2
       |some σ3=>
        erw[e2] at W2
        refine .inr ⟨ok.1,λx H2 y=> ?_⟩
        have hx:=ok.2 x H2 y
        refine⟨F1.prot A1 ys hf,_,ρ2,s2,d,hx,σ3,e2,λ σv' M3=>⟨F1.prot A1 ys hf,_,F7,ρ2,_,M3, ?_⟩⟩
        cases e3:mt {s2 with σ:=σ3} with
        |ex d s4=>erw[e3] at W2;exact False.elim W2
        |no=>erw[e3] at W2;exact False.elim W2
        |ok b s4=>
         intro ρ4 H4 M4
         cases b with
         |false=>
          erw[e3] at W2
          rw[if_neg A9]
          exact⟨f,B4 _,ρ4,s4,M4,W2⟩
         |true=>
          erw[e3] at W2
          rw[if_pos rfl]
          by_cases hz:ys.length<sizeLine
          .rw[if_pos hz] at W2
           refine⟨F1.prot A1 ys hf,_,F7,ρ4,s4,M4, ?_⟩
           cases e5:me s4 with
           |ex d s5=>erw[e5] at W2;exact False.elim W2
           |no=>erw[e5] at W2;exact False.elim W2
           |ok y s5=>
            erw[e5] at W2
            intro ρ5 v H5 M5
            obtain⟨hD5,M6⟩:=MR.turnD (ys':=ys++[v]) M5.push
            refine⟨hD5,hz,f,B4 _,ρ5,s5.psh y, ?_, ?_⟩
            .rw[E3,C2,D7,A6,t8]
             exact M6
            .rw[m5];exact W2
          .rw[if_neg hz] at W2;exact False.elim W2
   .rw[if_neg hc] at W;exact False.elim W
  |_=>exact False.elim W
def se_compDI{scope:Scope}{own frees:List Str}{ix:List Nat}{ifs:List bi}{m0:M D}{g:Tg}{mt:M Bool}{me:M D}{elts:List bi}{x1:Nat}{tpos apos cpos:bG}(hk:X.K=G.K)(hc:X.calm=true)(S:U2 X.env.scope scope own frees X.N ix)(hi:SE X G F iter m0)
 (hg: ∀(F:Fy) cl C s₀ H₀ fp pn,SG (J5 X scope own frees cl C s₀ H₀ fp pn) G F (.Tuple elts x1 tpos) g) (ht: ∀(F:Fy) cl C s₀ H₀ fp pn,STs (J5 X scope own frees cl C s₀ H₀ fp pn) G F ifs mt) (he: ∀(F:Fy) cl C s₀ H₀ fp pn,SE (J5 X scope own frees cl C s₀ H₀ fp pn) G F elt me)
 (hs: ∀x,bw (.Call (.Attribute iter "items" apos) [] [] cpos) X.env x=pure x:=by intro _;rfl) (hbase:bN iter "items" X.env (bB iter X.env)=bB iter X.env:=by rfl)
 (hfew:((bC cpos (bh [] X.env)).all (λx=> !x.1)&&(cm cpos (bS [] X.env)).all (λx=>x.1.isSome)&&decide (([]:List bi).length+([]:List bM).length+(if([]:List bM).isEmpty then 0 else 1)<30))=true:=by rfl)
 (hline:(apos.endLine==cpos.line)=true:=by rfl):SE X G F (.ListComp elt [⟨.Tuple elts x1 tpos, .Call (.Attribute iter "items" apos) [] [] cpos,ifs,0⟩] scope pos) (J1 (z5U m0) g mt me own.length ix):=
 PE.imp0 (z2x (g:=tGx G g) (tt:=tBx G mt) (te:=tMx G me) hc S (zds hi hbase hfew hline) (λcl C s₀ H₀ fp pn pins s σ H v u Q I r ⟨F',q⟩=>hg F' cl C s₀ H₀ fp pn pins s σ H v u Q I r q)
  (λcl C s₀ H₀ fp pn pins s σ H Q I ⟨F',q⟩=>ht F' cl C s₀ H₀ fp pn pins s σ H Q I q) (λcl C s₀ H₀ fp pn pins s σ H Q I ⟨F',q⟩=>he F' cl C s₀ H₀ fp pn pins s σ H Q I q) hs) λ σ H Q h=>z7l hk h
end
end Mi
namespace So
open PySem PySem.W PyProof.Rows PySem.SeqAt
end So
namespace L2
open PySem PySem.Spec PyProof.Rows
end L2
namespace L2
open PySem PySem.Spec PyProof.Rows
open Sem (wp)
open AutoSeq1 (wpAny_loadPart')
end L2
namespace L2
open PySem PySem.Spec PyProof.Rows
open Sem (wp)
end L2
namespace Mi
open PySem L2 PySem.Spec PyProof.Rows
section
variable{X:Cx}{G:Gx}{F:Fy}
noncomputable def z5V(ds:List D):List D:=(So.permS ds.length (z3a (erL ds))).map λi=>ds.getD i .non
end
def zaT(ds:List D):erL ds=ds.map er:=by
 induction ds with
 |nil=>rfl
 |cons d ds ih=>erw[erL,i6,ih]
end Mi
namespace L2
open PySem PySem.Spec PyProof.Rows
end L2
namespace Mi
open PySem L2 PySem.Spec PyProof.Rows
end Mi
namespace L2
open PySem PySem.Spec PyProof.Rows
end L2
namespace Mi
open PySem L2 PySem.Spec PyProof.Rows
end Mi
namespace L2
open PySem PySem.Spec PyProof.Rows
section
variable{prog:bm}{w:bo}{A:bq}{E:be->bf->Prop}{s:bf}{z TI TO p q t u:Addr}{i j:Nat}{xs ys:Array be}{a b:be}
structure ZT(h:Heap)(z TI TO p q t u:Addr)(i j:Nat)(xs ys:Array be)(a b:be):Prop where
 z:IsZip h z TI TO .none
 ti:IsPair h TI (.ref p) (.ref q)
 to:IsPair h TO a b
 p:h.IsTupleIter p t i
 q:h.IsTupleIter q u j
 t:h.IsTuple t xs
 u:h.IsTuple u ys
end
end L2
namespace Mi
open PySem L2
end Mi
namespace L2
open PySem PySem.Spec PyProof.Rows
section
variable{X:Cx}{tg:bi}
inductive PF(X:Cx):List bi->List (Str⊕TE)->Prop where
 |nil:PF X [] []
 |lit {es:List bi} {ts:List (Str⊕TE)} {x:Str} {j:Nat} {pos:bG} (r:PF X es ts):PF X (.Constant (.str x) j pos::es) (.inl x::ts)
 |fld {e:bi} {es:List bi} {t:TE} {ts:List (Str⊕TE)} {pos:bG} (h:PE X e t) (r:PF X es ts):PF X (.FormattedValue e (-1) none pos::es) (.inr t::ts)
end
end L2
namespace Mi
open PySem L2 PySem.Spec PyProof.Rows
inductive SF(P:bi->M D->Prop):List bi->List (Str⊕M D)->Prop where
 |nil:SF P [] []
 |lit {es:List bi} {ms:List (Str⊕M D)} {x:Str} {j:Nat} {pos:bG} (r:SF P es ms):SF P (.Constant (.str x) j pos::es) (.inl x::ms)
 |fld {e:bi} {es:List bi} {m:M D} {ms:List (Str⊕M D)} {pos:bG} (h:P e m) (r:SF P es ms):SF P (.FormattedValue e (-1) none pos::es) (.inr m::ms)
section
variable{X:Cx}{G:Gx}{F:Fy}{e a b c o tg iter:bi}{es:List bi}{pos apos cpos:bG}
noncomputable def zjP(G:Gx)(F:Fy)(r:V->List V->Hp->VK->Prop)(g:Str->List D->M D):Prop:= ∀ρ s z ts vs H σv tv Q,MRL G F.toFx ρ H σv tv s ts vs->wM G F σv tv (g z ts s) Q->r (.str z) vs H (λw H'=>KD G.K H'->Q w H')
structure Ct(X:Cx)(G:Gx)(F:Fy)(id:String)(g:Str->List D->M D):Prop where
 h: ∃r,MtR X id r/\zjP G F r g
end
end Mi
namespace L2
open PySem PySem.Spec PyProof.Rows
end L2
namespace Mi
open PySem L2 PySem.Spec PyProof.Rows
end Mi
namespace L2
open PySem PySem.Spec PyProof.Rows
end L2
namespace Mi
open PySem L2 PySem.Spec PyProof.Rows
end Mi
namespace Mi
open PySem L2 PySem.Spec
end Mi
namespace L2
open PySem PySem.Spec PyProof.Rows
end L2
namespace Mi
open PySem L2 PySem.Spec
end Mi
namespace Se
open PySem PySem.SetTable
noncomputable def adv(m:Nat)(p:Probe):Probe:=
 if p.more>0 then{p with j:=p.j+1,more:=p.more - 1} else
 {p with j:=(leap m p.i p.perturb).1,more:=runEnd m (leap m p.i p.perturb).1 -(leap m p.i p.perturb).1,i:=(leap m p.i p.perturb).1,perturb:=(leap m p.i p.perturb).2}
noncomputable def start(m:Nat)(h:Int):Probe:={j:=bits h %(m+1),more:=runEnd m (bits h %(m+1)) -bits h %(m+1),i:=bits h %(m+1),perturb:=bits h,dummy:=none}
noncomputable def pos(m:Nat)(h:Int):Nat->Probe
 |0=>start m h
 |k+1=>adv m (pos m h k)
noncomputable def Msk(m:Nat):Prop:=m=7\/m=31\/m=127
noncomputable def Ris(P:List Nat):Prop:=P.Pairwise (· < ·)
structure Cut(P:List Nat)(j r:Nat):Prop where
 le:r<=P.length
 lo: ∀a (h:a<P.length),a<r->P[a]<j
 hi: ∀a (h:a<P.length),r<=a->j<=P[a]
noncomputable def Rch(m:Nat)(P:List Nat)(h:Int)(s:Nat):Prop:= ∃k,(pos m h k).j=s/\∀k',k'<k->(pos m h k').j∈P
variable{α:Type}
noncomputable abbrev Row(α:Type):=Nat×Int×α
noncomputable def plc(E:List (Row α)):List Nat:=E.map (·.1)
structure TI(t:SetTable)(E:List (Row α)):Prop where
 ms:Msk t.mask
 nd:t.dummies= #[]
 pl:t.place.toList=plc E
 rs:Ris (plc E)
 lt: ∀e∈E,e.1<=t.mask
 rc: ∀e∈E,Rch t.mask (plc E) e.2.1 e.1
 ln:E.length<=t.mask
end Se
namespace Se
open PySem PySem.SetTable
structure Own(m:Nat)(hs:List Int)(o:Array (Option Nat))(S:List Nat):Prop where
 sz:o.size=m+1
 ln:S.length=hs.length
 nd:S.Nodup
 lt: ∀s∈S,s<=m
 at': ∀j k,o.getD j none=some k↔S[k]? =some j
 rc: ∀k (h1:k<hs.length) (h2:k<S.length),Rch m S hs[k] S[k]
end Se
namespace L2
open PySem PySem.Spec PyProof.Rows
section
variable{P:bm}{w:bo}{h:Heap}{A:bq}{E:be->bf->Prop}{s:bf}
noncomputable def zgi(k:NK):Bool:=k.all λz=>match z with
 | .inl (.inl _)=>true
 | .inl (.inr _)=>false
 | .inr ks=>ks.all λx=>x.isLeft
end
end L2
namespace L2
open PySem PySem.Spec PyProof.Rows PySem.SetTable
noncomputable abbrev zhp:=Se.Row (NK×Addr)
noncomputable def vE(E:List zhp):List (Int×be):=E.map λe=>(e.2.1,Value.ref e.2.2.2)
noncomputable def kE(E:List zhp):List NK:=E.map λe=>e.2.2.1
structure SN(P:bm)(w:bo)(h:Heap)(t:SetTable)(es:Array (Int×be))(F:List zhp):Prop where
 ti:Se.TI t F
 es:es.toList=vE F
 el: ∀e∈F,IsN P w h e.2.2.1 e.2.2.2/\e.2.1=(z04 P w).hash e.2.2.1
 nd:(kE F).Nodup
section
variable{P:bm}{w:bo}{A:bq}{E:be->bf->Prop}{s:bf}
noncomputable def rE(E:List zhp):List (NK×Addr):=E.map λe=>e.2.2
noncomputable def SO(P:bm)(w:bo)(o:bK)(rs:List (NK×Addr)):Prop:=
 ∃es ep t F,o.ExactSet/\o.data= .set es ep t/\Se.TI t F/\es.toList=vE F/\(∀e∈F,e.2.1=(z04 P w).hash e.2.2.1)/\(rs.map (·.1)).Nodup/\F.length*5<t.mask*3/\(rE F).Perm rs/\t.led= !w.params.followText "set-order" /\((∀r∈rs,zgi r.1=true)->t.plain=true)
end
end L2
namespace L2
open PySem PySem.Spec PyProof.Rows
end L2
namespace L2
open PySem PySem.W PySem.Calls PySem.Spec PyProof.Rows PySem.SetTable
section
variable{P:bm}{w:bo}{A:bq}{E:be->bf->Prop}{s:bf}
structure SW(w:bo)(h:Heap)(D:Addr)(es:Array (Int×be))(ep:Nat)(t:SetTable):Prop where
 at': ∃o,h.get? D=some o/\o.cls= .type "set" /\o.data= .set es ep t
 fit:t.fits es.size=true
 led:t.led= !w.params.followText "set-order"
 pln:t.plain=true
 ris:Se.Ris t.place.toList
end
end L2
namespace So
open PySem PySem.W PyProof.Rows PySem.SeqAt
end So
namespace L2
open PySem PySem.Spec PyProof.Rows
end L2
namespace Mi
open PySem L2
end Mi
namespace L2
open PySem PySem.Spec PyProof.Rows PySem F P
end L2
namespace Mi
open PySem L2 PySem.Spec PyProof.Rows PySem F P
end Mi
namespace Mi
open PySem L2
noncomputable def ltE(a b:D):Bool:=(So.ltD (er a) (er b)).getD false
structure Lin(ds:List D):Prop where
 a: ∀x∈ds,∀y∈ds,ltE x y=true->ltE y x=false
 t: ∀x∈ds,∀y∈ds,∀z∈ds,ltE x y=false->ltE y z=false->ltE x z=false
 e: ∀x∈ds,∀y∈ds,ltE x y=false->ltE y x=false->x=y
def zeo{ds:List D}{i j:Nat}(hi:i<ds.length)(hj:j<ds.length):z3a (erL ds) i j=ltE ds[i] ds[j]:=by
 rw[zaT]
 unfold z3a ltE
 erw[List.getD_eq_getElem?_getD,List.getElem?_map,List.getElem?_eq_getElem hi,List.getElem?_eq_getElem hj,l6,B5]
def zdu(h:Lin ds):(z5V ds).Perm ds/\(z5V ds).Pairwise λa b=>ltE b a=false:=by
 have o:So.Od (z3a (erL ds)) ds.length:=⟨λi j hi hj e=>by
  rw[zeo hi hj] at e
  rw[zeo hj hi]
  exact h.a _ (B3 hi) _ (B3 hj) e,λi j k hi hj hk e1 e2=>by
  rw[zeo hi hj] at e1
  rw[zeo hj hk] at e2
  rw[zeo hi hk]
  exact h.t _ (B3 hi) _ (B3 hj) _ (B3 hk) e1 e2⟩
 have pl:(So.permS ds.length (z3a (erL ds))).length=ds.length:=So.permS_len
 have pt:=So.permS_lt (n:=ds.length) (cmp:=z3a (erL ds))
 have pp:=So.permS_pm (n:=ds.length) (cmp:=z3a (erL ds))
 have ps:=So.permS_srt (n:=ds.length) (cmp:=z3a (erL ds)) o
 unfold z5V
 generalize So.permS ds.length (z3a (erL ds))=P at pl pt pp ps
 constructor
 .have e:(C4 ds.length).map (λi=>ds.getD i .non)=ds:=by
   apply List.ext_getElem?
   intro i
   by_cases hi:i<ds.length
   .simp[hi]
   .simp[hi]
  have:=pp.map λi=>ds.getD i .non
  rw[e] at this
  exact this
 .rw[List.pairwise_iff_getElem]
  intro i j hi hj hij
  erw[i9] at hi hj
  have q:=ps i j (by lia) (by lia)
  have gi:P.getD i 0=P[i]:=by simp[hi]
  have gj:P.getD j 0=P[j]:=by simp[hj]
  have hi':=pt _ (B3 hi)
  have hj':=pt _ (B3 hj)
  rw[gi,gj,zeo hj' hi'] at q
  erw[List.getElem_map]
  have ei:ds.getD P[i] .non=ds[P[i]]:=by simp[hi']
  have ej:ds.getD P[j] .non=ds[P[j]]:=by simp[hj']
  rw[ei,ej]
  exact q
end Mi
namespace Mi
open PySem L2 PySem.Spec PyProof.Rows
section
variable{X:Cx}{G:Gx}{F:Fy}{e:bi}
def zaU{s:Stt}{l:Nat}(M:MR G F.toFx ρ H σv tv s)(h:RD G ρ H (.dct l ks ds) v)(r:RDs G ρ H ds xs)(lb: ∀j∈labs (.dct l ks ds),j<s.n):l∉labsL ds:=λhl=>by
 have e0:v= .ref (ρ l):=by erw[RD] at h;exact h.1
 subst e0
 have:=findL_some l ds xs r hl
 cases e:findL l ds with
 |none=>rw[e] at this;cases this
 |some d=>
  obtain⟨q1,q2⟩:=findL_rd l ds xs d r e
  have e2:=RD.uniq M.kd M.inj _ _ _ q1 h (λj hj=>lb j (by erw[labs];exact i5 _ (i4 _ (q2 j hj)))) lb
  have e3:=findL_sz l ds d e
  rw[e2] at e3
  erw[sz] at e3
  lia
theorem z55{j:Nat}: ∀{ds:List D},j∈labsL ds->∃d∈ds,j∈labs d
 |[],h=>by erw[labsL] at h;cases h
 |d::ds,h=>by
  erw[labsL] at h
  rcases l4.mp h with q|q
  .exact⟨d,l5 ..,q⟩
  .obtain⟨e,he,hj⟩:=z55 q
   exact⟨e,i5 _ he,hj⟩
def z95{j:Nat}(h:j∈labsL (z14 ks vs k v)):j∈labs v\/j∈labsL vs:=by
 obtain⟨d,hd,hj⟩:=z55 h
 unfold z14 at hd
 split at hd
 .obtain⟨i,hi,e⟩:=L7 hd
  rw[N5] at e
  subst e
  split at hj
  .exact .inl hj
  .exact .inr (labsL_mem (B3 _) j hj)
 .rcases l4.mp hd with q|q
  .exact .inr (labsL_mem q j hj)
  .rw[t9.mp q] at hj;exact .inl hj
noncomputable def z3k(o i v:D):MS:=λs=>match o with
 | .dct l ks vs=>match z1n i with
  |some k=>if isT ks=true/\ks.length<sizeLine/\l∉labs v then .nx (s.put l (.dct l (z2E ks k) (z14 ks vs k v))) else .no
  |none=> .no
 |_=> .no
def zaV{Dd:z5u}(M:MRL G F.toFx ρ H σv tv s [t1,t2,t3] [v,o,i])(W:wS G F tv (z3k t2 t3 t1 s) Dd): ∃a H4,o= .ref a/\z7L H a i v H4/\Dd.nx σv H4:=by
 have h:=M.rd
 erw[RDs] at h
 obtain⟨_,_,e,h1,_,_,e2,h2,_,_,e3,h3,_⟩:=h
 cases e;cases e2;cases e3
 have b1:LB F.toFx ρ s.n (labs t1):=λl h=>M.lb l (by erw[labsL];exact i8 _ h)
 have b2:LB F.toFx ρ s.n (labs t2):=λl h=>M.lb l (by erw[labsL];exact i4 _ (i8 _ h))
 unfold z3k at W
 cases t2 with
 |dct l ks vs=>
  dsimp only at W
  cases ek:z1n t3 with
  |none=>rw[ek] at W;exact False.elim W
  |some k=>
   rw[ek] at W
   dsimp only at W
   by_cases hc:isT ks=true/\ks.length<sizeLine/\l∉labs t1
   .rw[if_pos hc] at W
    obtain⟨hT,hz,hv⟩:=hc
    have h2':=h2
    obtain⟨rfl,kvs,hx,rfl,r⟩:=h2.dctq hT
    have ns:=zaU M.m h2' r λj hj=>(b2 j hj).1
    obtain⟨b,rfl,hb,_⟩:=z2D h3 ek
    have bl:=b2 l (by erw[labs];exact l5 ..)
    have bv:LB F.toFx ρ s.n (labsL vs):=λj hj=>b2 j (by erw[labs];exact i5 _ (i4 _ hj))
    have st:G6 H (upd H (ρ l) (.dT (z2a kvs k v))):=
     ⟨λb ys q=>by rw[y9 (z07 q hx (by intro z;cases z))];exact q,λb o u q=>by rw[y9 (z07 q hx (by intro z;cases z))];exact q⟩
    have pr:=zbW (k:=k) h1 r
    have lbp: ∀j∈labsL (z14 (kvs.map λp=>dkD p.1) vs k t1),(j<s.n/\(F.A0 (ρ j)\/F.H0 (ρ j)=none))/\j≠l:=λj hj=>by
     rcases z95 hj with q|q
     .exact⟨b1 j q,λz=>hv (z▸q)⟩
     .exact⟨bv j q,λz=>ns (z▸q)⟩
    refine⟨ρ l,_,rfl,z7L.t hx hb (by simpa using hz),W ρ σv _ (M.m.put2 bl.1 bl.2 st (z2A M.m.kd hx) ?_ λj hj=> ?_)⟩
    .erw[RD]
     refine⟨trivial, .inr ⟨z2a kvs k v,y8,pr.1, ?_⟩⟩
     exact RDs.upd (a:=0) st M.m.inj bl.1 pr.2 λj hj=>⟨(lbp j hj).1.1,(lbp j hj).2⟩
    .erw[labs,pr.1,z42,A6] at hj
     rcases l7.mp hj with q|q
     .rw[q];exact bl
     .exact(lbp j q).1
   .rw[if_neg hc] at W;exact False.elim W
 |_=>exact False.elim W
def ss_dputL{ob ix:bi}{pos tpos:bG}{mo mi me:M D}(hu:X.A.units+64<cLine)(he:SE X G F e me)(ho:SE X G F ob mo)(hi:SE X G F ix mi)(hs:bO e (some (.Subscript ob ix tpos)) pos.line X.env=pure false:=by rfl):
 SS X G F (.Assign [.Subscript ob ix tpos] e pos) (z1f me mo mi z3k):=by
 refine PS.imp0 (z5E (show X.A.units+2<cLine by lia) ho hi he hs) λDd σ H ⟨tv,h⟩=> ?_
 exact(z3X h).mono λv H1 h1=>h1.mono λo H2 h2=>h2.mono λi H3 ⟨ρ,s,t1,t2,t3,M,W⟩=>zaV M W
end
end Mi
namespace L2
open PySem PySem.W PySem.Calls PySem.Spec PyProof.Rows
section
variable{P:bm}{w:bo}{A:bq}{E:be->bf->Prop}{s:bf}
def z5W{n:Nat}{P0:Nat->be->Prop}{OK:Heap->Prop}{R:List be->bf->Prop}(K:KdlSrc P w T r d n P0 OK)(hh:A.handled=none)(hok:OK s.heap)(hn:n<=sizeLine)
 (h: ∀(h':Heap) (tk:Nat) (acc:Array be),(∀b o,s.heap.get? b=some o->h'.get? b=some o)->s.heap.objs.size<h'.objs.size->dX P0 acc n->R acc.toList {s with heap:=h',toks:=tk}):
 bj (bn P w) A (collect (.ref r)) R E s:=by
 obtain⟨hr,hd⟩:=K.there s.heap hok
 unfold collect
 refine bb (wpAny_runValue (codeAny_builtin entry_proto_collect' ?_))
 rw[Around.under_plainId PySem.F.plain_proto_collect _]
 show bj _ A.in1 (newList []>>=λl=>again (.builtin "list.__iadd__" ⟨[l, .ref r],[]⟩)) _ _ s
 refine bb (bt ?_)
 refine bg ⟨plainId_quiet PySem.F.plain_list_iadd _,codeAny_builtin entry_list_iadd' ?_⟩
 rw[Around.under_plainId PySem.F.plain_list_iadd _]
 have hS₁:(s.heap.push {cls:= .type "list",data:= .seq ([]:List be).toArray}).get? s.heap.objs.size=some {cls:= .type "list",data:= .seq #[]}:=Heap.get?_push_size _ rfl
 show bj _ A.in1 (Builtin.List.listExtendWith (.ref s.heap.objs.size) (.ref r) (.ref s.heap.objs.size)) _ _ _
 have key:=kdl_extend (prog:=P) (w:=w) (A:=A) (s:={s with heap:=s.heap.push {cls:= .type "list",data:= .seq ([]:List be).toArray}})
  (R:=λ(q:Result) (s':bf)=> ∃(h':Heap) (tk:Nat) (acc':Array be) (c':Nat),q= .ok (.ret (.ref s.heap.objs.size))/\s'={s with heap:=h',toks:=tk}/\
   (∀b o,s.heap.get? b=some o->h'.get? b=some o)/\h'.get? s.heap.objs.size=some {cls:= .type "list",dict:=none,data:= .seq acc' c',slots:= #[]}/\dX P0 acc' n)
  K hh (K.keep _ _ hok λb _ o e=>Heap.get?_push_of_some _ e) s.heap.objs.size (O2 hr) (O2 hd) (.ref s.heap.objs.size) 0 hS₁
  (λh' tk acc' c' hk hS' hacc=>⟨h',tk,acc',c',rfl,rfl,λb o e=>hk b o (B1 (Heap.lt_size e)) (Heap.get?_push_of_some _ e),hS',hacc⟩) hn
 refine bE key (λfin s' x=> ?_) λe s' x=> ?_
 .cases fin with
  |done f=>
   obtain⟨h',tk,acc',c',e,rfl,hk,hS',hacc⟩:=x
   cases e
   show bj _ A (load s.heap.objs.size>>=_) _ _ _
   refine bb (fx hS' ?_)
   refine bg ?_
   show R acc'.toList _
   exact h h' tk acc' hk (Heap.lt_size hS') hacc
  |again c₁=>
   refine⟨x.1,cS x.2 λq s₂ y=> ?_⟩
   obtain⟨h',tk,acc',c',rfl,rfl,hk,hS',hacc⟩:=y
   show bj _ A (load s.heap.objs.size>>=_) _ _ _
   refine bb (fx hS' ?_)
   refine bg ?_
   show R acc'.toList _
   exact h h' tk acc' hk (Heap.lt_size hS') hacc
 .obtain⟨_,_,_,_,e',_⟩:=x
  cases e'
end
end L2
namespace So
open PySem PySem.W PyProof.Rows PySem.SeqAt
section
variable{prog:bm}{w:bo}{A:bq}{E:be->bf->Prop}{s:bf}
def call_sortedQ{n:Nat}{P0:Nat->be->Prop}{OK:Heap->Prop}{cmp:Nat->Nat->Bool}{Q:be->bf->Prop}(hh:A.handled=none)(K:KdlSrc prog w T r d n P0 OK)(hok:OK s.heap)(h64:n<64)
 (hk: ∀h' tk (vs:List be),(∀b o,s.heap.get? b=some o->h'.get? b=some o)->dX P0 vs.toArray n->2<=vs.length->∃κ,(∀(Q:dk->bf->Prop) E,Q κ {s with heap:=h',toks:=tk}->bj (bn prog w) A.in1.in1 (fC vs.toArray) Q E {s with heap:=h',toks:=tk})/\
  ∀i j (hi:i<vs.length) (hj:j<vs.length) (C:Bool->bf->Prop),C (cmp i j) {s with heap:=h',toks:=tk}->bj (bn prog w) A.in1.in1 (fO κ vs[i] vs[j]) C (λ_ _=>False) {s with heap:=h',toks:=tk})
 (h: ∀h' tk (vs:List be) D' e1,(∀b o,s.heap.get? b=some o->h'.get? b=some o)->dX P0 vs.toArray n->s.heap.objs.size<=D'->h'.get? D'=some (bz "list" ((permS n cmp).map λi=>vs.getD i Value.none).toArray e1)->Q (.ref D') {s with heap:=h',toks:=tk}):
 bj (bn prog w) A (call (.builtin "sorted") [.ref r]) Q E s:=by
 have hz:n<=sizeLine:=by have:sizeLine=16777216:=rfl;lia
 refine Calls.call_function_entry kind_sorted plain_sorted entry_sorted (args_sorted1 _) ?_
 unfold Builtin.«sorted»
 refine bb (m:=checkCount "sorted" 1 1 _) (bg ?_)
 refine bb (L2.z5W (A:=A.in1) K hh hok hz λh0 tk acc k0 lt0 hacc=> ?_)
 have hln:acc.toList.length=n:=by rw[Array.length_toList];exact hacc.1
 have hacc':dX P0 acc.toList.toArray n:=by simpa using hacc
 generalize acc.toList=vs at hln hacc'⊢
 refine bb (cL ?_ (by lia))
 have hoL:(h0.push (bz "list" vs.toArray 0)).get? h0.objs.size=some (bz "list" vs.toArray 0):=Heap.get?_push_size _ rfl
 have keep: ∀b o,h0.get? b=some o->(h0.push (bz "list" vs.toArray 0)).get? b=some o:=λb o q=>Heap.get?_push_of_some _ q
 have ne: ∀{b o},h0.get? b=some o->b≠h0.objs.size:=λq=>B1 (Heap.lt_size q)
 have le:s.heap.objs.size<=h0.objs.size:=O1 lt0
 refine bb (br (bx slot_list_sort ⟨_,hoL,rfl⟩ entry_list_sort ?body (args_list_sort _)))
 case body=>
  refine z5I (s:={s with heap:=h0.push (bz "list" vs.toArray 0),toks:=tk}) (cmp:=cmp) hoL (by lia) (λh' kp h2=> ?_) λh' e1 kp hD=> ?_
  .exact hk h' tk vs (λb o q=>kp b o (ne (k0 b o q)) (keep b o (k0 b o q))) hacc' h2
  .rw[hln] at hD
   exact⟨_,rfl,bg ⟨_,rfl,h h' tk vs _ e1 (λb o q=>kp b o (ne (k0 b o q)) (keep b o (k0 b o q))) hacc' le hD⟩⟩
end
end So
namespace L2
open PySem PySem.W PySem.Spec PyProof.Rows
section
variable{X:Cx}
theorem z96: ∀{ks:List Int} {vs:List be},vs.length=ks.length->(∀(j:Nat) (v:be),vs[j]? =some v->∃t,v=Value.int ((ks[j]?).getD 0) t)->J4 (ks.map V.int) vs
 |[],[],_,_=> .nil
 |[],_::_,hl,_=>by simp at hl
 |_::_,[],hl,_=>by simp at hl
 |k::ks,v::vs,hl,h=>by
  obtain⟨t,e⟩:=h 0 v rfl
  exact .cons ⟨t,e⟩ (z96 (by simpa using hl) λj u hu=>h (j+1) u (by simpa using hu))
noncomputable def zgj(xs:List V)(H:Hp)(Q:VK):Prop:= ∃(a:Addr) (kvs:List (Key×V)) (ks:List Int),xs=[.ref a]/\Rd H a (.dK kvs)/\kvs.map (·.1)=ks.map Sum.inl/\ks.length<64/\
 ∀l,H l=none->Q (.ref l) (upd H l (.lst ((So.permS ks.length (z3a (ks.map PyData.int))).map λi=>(ks.map V.int).getD i .non)))
def z97(hh:X.A.handled=none):CallR X (.builtin "sorted") zgj:=by
 intro pins s σ H xs us Q I r h
 obtain⟨a,kvs,ks,rfl,ha,he,h64,q⟩:=h
 obtain⟨u,rfl,ru⟩:=z3b r
 cases ru
 obtain⟨z,hd,vs,rel,dd⟩:=z7a I.hok ha
 obtain⟨ep,dt⟩:=dd.dictAt
 have hv:kvs.length=vs.length:=Paired.length rel
 have hkl:kvs.length=ks.length:=by have:=congrArg L9 he;simpa using this
 have allInt: ∀{its:List be},dX (λi v=> ∃k x,vs[i]? =some (k,x)/\(Y9 X.prog X.w).is k v=true) its.toArray vs.length->its.length=ks.length/\∀(j:Nat) (v:be),its[j]? =some v->∃t,v=Value.int ((ks[j]?).getD 0) t:=λ{its} hi=>by
  have hl:its.length=ks.length:=by have:=hi.1;rw[m4] at this;lia
  refine⟨hl,λj v hj=> ?_⟩
  obtain⟨k,x,e1,e2⟩:=hi.2 j v (by simpa using hj)
  have hj':j<ks.length:=by have:=(List.getElem?_eq_some_iff.mp hj).1;lia
  have hp:kvs[j]? =some kvs[j]:=List.getElem?_eq_getElem (by lia)
  obtain⟨b,f1,f2,f3⟩:=Paired.get rel j _ hp
  rw[e1] at f1
  cases f1
  have f2:kvs[j].1=k:=f2
  have f4:kvs[j].1=Sum.inl ks[j]:=by
   have:=congrArg (λl=>l[j]?) he
   simpa[hj',show j<kvs.length by lia] using this
  rw[z71,<-f2,f4] at e2
  rcases W8 e2 with⟨i,t,h3,h4⟩|⟨i,t,h3,_⟩
  .cases h3
   exact⟨t,by rw[h4];simp[hj']⟩
  .cases h3
 refine So.call_sortedQ (cmp:=z3a (ks.map PyData.int)) hh (kdl_dict (knd:=Y9 X.prog X.w) hd) dt (by lia) (λh' tk its kp hi h2=> ?_) λh' tk its D' e1 kp hi hD hget=> ?_
 .obtain⟨hl,hAll⟩:=allInt hi
  refine⟨_,λQ E hq=>W.kas_kind (T:= .type "int") h2 (λv hv=> ?_) (by decide) (by decide) hq,λi j hi' hj' C hC=> ?_⟩
  .obtain⟨i,hi',rfl⟩:=L7 hv
   obtain⟨t,e⟩:=hAll i _ (List.getElem?_eq_getElem hi')
   rw[e]
   exact W.Looks.of_pure rfl
  .obtain⟨t,e⟩:=hAll i _ (List.getElem?_eq_getElem hi')
   obtain⟨t',e'⟩:=hAll j _ (List.getElem?_eq_getElem hj')
   rw[e,e']
   refine W.kat_lt_int ?_
   have:z3a (ks.map PyData.int) i j=decide ((ks[i]?).getD 0<(ks[j]?).getD 0):=by
    unfold z3a
    simp[List.getD,show i<ks.length by lia,show j<ks.length by lia,So.ltD]
   rw[<-this];exact hC
 .obtain⟨hl,hAll⟩:=allInt hi
  have rv:J4 (ks.map V.int) its:=z96 hl hAll
  refine⟨.ref D',_,I.laid (t':=tk) (h':=h') (a:=D') (o:= .lst ((So.permS ks.length (z3a (ks.map PyData.int))).map λi=>(ks.map V.int).getD i .non)) kp hD ⟨by rw[i9,So.permS_len];have:sizeLine=16777216:=rfl;lia,_,e1,z2G rv _ λi hi=> ?_, ?_⟩,rfl,q _ (I.hok.fresh hD)⟩
  .rw[hl];exact So.permS_lt i hi
  .rw[<-hv,hkl] at hget;exact hget
end
end L2
namespace Mi
open PySem L2 PySem.Spec PyProof.Rows
section
variable{X:Cx}{G:Gx}{F:Fy}
noncomputable def zc1(ts:List D):M D:=λs=>match ts with
 |[.dct _ (.non::ks) _]=>match z19 ks with
  |some ns=>if ns.length<64 then .ok (.lst s.n (z5V (ns.map D.int))) s.nxt else .no
  |none=> .no
 |_=> .no
theorem z56: ∀{kvs:List (Key×V)} {ns:List Int},z19 (kvs.map λp=>z17 p.1)=some ns->kvs.map (·.1)=ns.map Sum.inl
 |[],ns,e=>by erw[A2,z19] at e;cases e;rfl
 |p::kvs,ns,e=>by
  obtain⟨k,v⟩:=p
  cases k with
  |inr x=>simp[z19,z17] at e
  |inl i=>
   have e:(match z19 (kvs.map λp=>z17 p.1) with|some ns=>some (i::ns)|none=>none)=some ns:=e
   cases e1:z19 (kvs.map λp=>z17 p.1) with
   |none=>rw[e1] at e;cases e
   |some ms=>
    rw[e1] at e
    cases e
    erw[i6,z56 e1]
theorem z6J: ∀ns:List Int,RDs G ρ H (ns.map D.int) (ns.map V.int)
 |[]=>by simp[RDs]
 |n::ns=>by erw[i6,RDs];exact⟨_,_,rfl,by erw[RD],z6J ns⟩
theorem z57: ∀ns:List Int,labsL (ns.map D.int)=[]
 |[]=>rfl
 |n::ns=>by erw[i6,labsL,labs,z57 ns];rfl
theorem z6K: ∀ns:List Int,erL (ns.map D.int)=ns.map PyData.int
 |[]=>rfl
 |n::ns=>by erw[i6,erL,er,z6K ns]
def zdv:V7 G F zgj zc1:=by
 intro ρ s ts vs H σv tv Q M W
 unfold zc1 at W
 split at W
 .rename_i l ks ws
  cases e0:z19 ks with
  |none=>rw[e0] at W;exact False.elim W
  |some ns=>
   rw[e0] at W
   dsimp only at W
   by_cases h64:ns.length<64
   .rw[if_pos h64] at W
    obtain⟨v,rfl,h,_⟩:=M.one
    obtain⟨rfl,kvs,hx,rfl,r⟩:=h.dctp
    refine⟨ρ l,kvs,ns,rfl, .inl hx,z56 e0,h64,λq hq k=> ?_⟩
    have W':wM G F σv tv (.ok (.lst s.n ((So.permS ns.length (z3a (ns.map PyData.int))).map λi=>(ns.map D.int).getD i .non)) s.nxt) Q:=by
     have e:z5V (ns.map D.int)=(So.permS ns.length (z3a (ns.map PyData.int))).map λi=>(ns.map D.int).getD i .non:=by unfold z5V;rw[z6K,i9]
     rw[<-e];exact W
    exact z0I W' M.m (RDs.perm (z6J ns) _ λi hi=>by rw[i9];exact So.permS_lt i hi) (λj hj=>by rw[z2H (z57 ns)] at hj;cases hj) hq k
   .rw[if_neg h64] at W;exact False.elim W
 .exact False.elim W
def zdw(hk:X.K=G.K)(hh:X.A.handled=none):Cb X G F (.builtin "sorted") zc1:=⟨_,z97 hh,zdv⟩
end
section
variable{X:Cx}{G:Gx}{F:Fy}{tg iter:bi}{pos:bG}
noncomputable def tSx(G:Gx)(mb:MS):TS:=λD σ H=> ∃F:Fy,tS G F mb D σ H
def ss_forD(hp:cq (bn X.prog X.w) X.A X.env X.xe)(hc:X.calm=true)(hl:SE X G F iter m0)(hg: ∀F:Fy,SG X G F tg g)(hb: ∀F:Fy,SSs X G F body mb)
 (hst: ∀x,bw iter X.env x=pure x:=by intro _;rfl):SS X G F (.For tg iter body [] pos) (z01 (K0 m0) g mb):=by
 refine PS.imp0 (zbz (g:=tGx G g) (tb:=tSx G mb) hp hc (z8s hl) (λpins s σ H v u Q I r ⟨F',q⟩=>hg F' pins s σ H v u Q I r q) (λpins s σ H D I ⟨F',q⟩=>hb F' pins s σ H D I q) hst) λD σ H h=> ?_
 obtain⟨tv,hs,ρ,s,M,W⟩:=h
 refine⟨tv,hs,ρ,s,M, ?_⟩
 unfold z01 z0K K0 bd at W
 cases em:m0 s with
 |ex d s1=>rw[em] at W;exact W
 |no=>rw[em] at W;exact W
 |ok t s0=>
  rw[em] at W
  dsimp only at W
  intro ρ1 v H1 M0
  cases t with
  |dct l ks vs=>
   dsimp only at W
   by_cases hc:isT ks=true/\labsL vs=[]
   .rw[if_pos hc] at W
    dsimp only at W
    obtain⟨hT,hvs⟩:=hc
    have rd0:=M0.rd1
    obtain⟨rfl,kvs,hx,hks,r⟩:=rd0.dctq hT
    have bl:=M0.lb1 l (by erw[labs];exact l5 ..)
    refine⟨ρ1 l,kvs,rfl,hx,λu=> ?_⟩
    have st:G6 H1 (upd H1 (ρ1 l) (.frz u (.dT kvs))):=
     ⟨λb ys q=>by rw[y9 (z07 q hx (by intro z;cases z))];exact q,λb o w q=>by rw[y9 (z07 q hx (by intro z;cases z))];exact q⟩
    have rdF:RD G ρ1 (upd H1 (ρ1 l) (.frz u (.dT kvs))) (.fdc ks vs) (.ref (ρ1 l)):=by
     erw[RD]
     exact⟨ρ1 l,u,kvs,rfl,y8,hks,RDs.stay st _ _ r λj hj=>by rw[hvs] at hj;cases hj⟩
    have lbF: ∀j∈labs (.fdc ks vs),j<s0.n/\(F.A0 (ρ1 j)\/F.H0 (ρ1 j)=none):=λj hj=>by erw[labs,hvs] at hj;cases hj
    have M2:MR G F.toFx ρ1 (upd H1 (ρ1 l) (.frz u (.dT kvs))) σ tv (s0.put l (.fdc ks vs)):=M0.m.put2 bl.1 bl.2 st (z2A M0.m.kd hx) rdF lbF
    have M3:MR G F.toFx ρ1 (upd H1 (ρ1 l) (.frz u (.dT kvs))) σ (some (.ref (ρ1 l))::tv) ((s0.put l (.fdc ks vs)).psh (.fdc ks vs)):=
     MRL.push ⟨M2,RDs.one rdF,λj hj=>by erw[labsL,l0] at hj;exact lbF j hj⟩
    have M1:MR G (F.frz (ρ1 l) (.frz u (.dT kvs)) bl.2 (M0.m.frb l bl.1)).toFx ρ1 (upd H1 (ρ1 l) (.frz u (.dT kvs))) σ ([some (.ref (ρ1 l))]++tv) ((s0.put l (.fdc ks vs)).psh (.fdc ks vs)):=M3.frzIn y8 ⟨_,_,rfl⟩
    generalize hs1:(s0.put l (.fdc ks vs)).psh (.fdc ks vs)=s1 at M1 W
    generalize hF1:F.frz (ρ1 l) (.frz u (.dT kvs)) bl.2 (M0.m.frb l bl.1)=F1 at M1
    have out: ∀{ρ H σ s},MR G F1.toFx ρ H σ tv s->MR G F.toFx ρ H σ tv s:=by subst hF1;exact λh=>h.frzOut
    have outL: ∀{ρ H σ s ts vs},MRL G F1.toFx ρ H σ tv s ts vs->MRL G F.toFx ρ H σ tv s ts vs:=by subst hF1;exact λh=>h.frzOut
    have at': ∀{ρ H σ tv s},MR G F1.toFx ρ H σ tv s->H (ρ1 l)=some (.frz u (.dT kvs)):=by subst hF1;exact λh=>h.frzAt
    have exw:F1.xw=F.xw:=by subst hF1;rfl
    have et:F1.tv0=F.tv0:=by subst hF1;rfl
    refine⟨λi m σ H=> ∃ρ s,MR G F1.toFx ρ H σ ([some (.ref (ρ1 l))]++tv) s/\wS G F tv (forGo z4A g mb m i s) D,⟨_,ρ1,s1,M1,W⟩, ?_⟩
    rintro i m σ2 H2 ⟨ρ2,s2,M2',W2⟩
    have ok:=zbY (tvp:=[]) (a:=ρ1 l) (tv:=tv) M2' (at' M2') i
    erw[B2,L3,A6] at ok
    unfold forGo at W2
    cases e:z4A.at' i s2.tm with
    |none=>erw[e] at W2;exact False.elim W2
    |some o=>
     cases o with
     |none=>
      erw[e] at W2 ok
      exact .inl ⟨ok,W2 ρ2 σ2 H2 (out (MR.popn M2'))⟩
     |some d=>
      erw[e] at W2 ok
      cases m with
      |zero=>exact False.elim W2
      |succ f=>
       dsimp only at W2
       cases e2:asg g d s2.σ with
       |none=>erw[e2] at W2;exact False.elim W2
       |some σ'=>
        erw[e2] at W2
        refine .inr ⟨ok.1,λ σ H=> ∃ρ s,MR G F1.toFx ρ H σ ([some (.ref (ρ1 l))]++tv) s/\wS G F tv (forGo z4A g mb f (i+1) s) D,λ σ' H' q=>⟨f,B4 _,q⟩,λx H3 y=> ?_⟩
        refine⟨F1,[some (.ref (ρ1 l))]++tv,ρ2,s2,d,ok.2 x H3 y,σ',e2,λ σv' M3=>⟨F1,[some (.ref (ρ1 l))]++tv,by rw[et];exact hs.trans (T2 _ _),ρ2,_,M3, ?_⟩⟩
        cases e3:mb {s2 with σ:=σ'} with
        |nx s4=>erw[e3] at W2;exact λ ρ3 σ3 H3 M4=>⟨ρ3,s4,M4,W2⟩
        |ct s4=>erw[e3] at W2;exact λ ρ3 σ3 H3 M4=>⟨ρ3,s4,M4,W2⟩
        |bk s4=>erw[e3] at W2;exact λ ρ3 σ3 H3 M4=>W2 ρ3 σ3 H3 (out (MR.popn M4))
        |rt d s4=>erw[e3] at W2;exact λ ρ3 σ3 v H3 M4=>W2 ρ3 σ3 v H3 (outL (MRL.popn (tvs:=[some (.ref (ρ1 l))]) M4))
        |ex d s4=>erw[e3] at W2;show F1.xw d s4;rw[exw];exact W2
        |no=>erw[e3] at W2;exact W2
   .rw[if_neg hc] at W;exact False.elim W
  |_=>exact False.elim W
end
end Mi
namespace My
open PySem L2 PySem.Spec PyProof.Rows Mi
@[irreducible] noncomputable def SE(X:Cx)(G:Gx)(F:Fy)(e:bi)(m:M D):Prop:=Mi.SE X G F e m
def eSE(X:Cx)(G:Gx)(F:Fy)(e:bi)(m:M D):SE X G F e m=Mi.SE X G F e m:=by unfold SE;rfl
@[irreducible] noncomputable def SA(X:Cx)(G:Gx)(F:Fy)(e:List bi)(m:M (List D)):Prop:=Mi.SA X G F e m
def eSA(X:Cx)(G:Gx)(F:Fy)(e:List bi)(m:M (List D)):SA X G F e m=Mi.SA X G F e m:=by unfold SA;rfl
@[irreducible] noncomputable def SB(X:Cx)(G:Gx)(F:Fy)(e:bi)(m:M Bool):Prop:=Mi.SB X G F e m
def eSB(X:Cx)(G:Gx)(F:Fy)(e:bi)(m:M Bool):SB X G F e m=Mi.SB X G F e m:=by unfold SB;rfl
@[irreducible] noncomputable def SW(X:Cx)(G:Gx)(F:Fy)(e:bi)(m:M Bool):Prop:=Mi.SW X G F e m
def eSW(X:Cx)(G:Gx)(F:Fy)(e:bi)(m:M Bool):SW X G F e m=Mi.SW X G F e m:=by unfold SW;rfl
@[irreducible] noncomputable def SS(X:Cx)(G:Gx)(F:Fy)(e:Stmt)(m:MS):Prop:=Mi.SS X G F e m
def eSS(X:Cx)(G:Gx)(F:Fy)(e:Stmt)(m:MS):SS X G F e m=Mi.SS X G F e m:=by unfold SS;rfl
@[irreducible] noncomputable def SSs(X:Cx)(G:Gx)(F:Fy)(e:List Stmt)(m:MS):Prop:=Mi.SSs X G F e m
def zhq(X:Cx)(G:Gx)(F:Fy)(e:List Stmt)(m:MS):SSs X G F e m=Mi.SSs X G F e m:=by unfold SSs;rfl
@[irreducible] noncomputable def SG(X:Cx)(G:Gx)(F:Fy)(e:bi)(m:Tg):Prop:=Mi.SG X G F e m
def eSG(X:Cx)(G:Gx)(F:Fy)(e:bi)(m:Tg):SG X G F e m=Mi.SG X G F e m:=by unfold SG;rfl
@[irreducible] noncomputable def SGs(X:Cx)(G:Gx)(F:Fy)(e:List bi)(m:List Tg):Prop:=Mi.SGs X G F e m
def zhr(X:Cx)(G:Gx)(F:Fy)(e:List bi)(m:List Tg):SGs X G F e m=Mi.SGs X G F e m:=by unfold SGs;rfl
@[irreducible] noncomputable def SI(X:Cx)(G:Gx)(F:Fy)(tg e:bi)(m:M ItK):Prop:=Mi.SI X G F tg e m
def eSI(X:Cx)(G:Gx)(F:Fy)(tg e:bi)(m:M ItK):SI X G F tg e m=Mi.SI X G F tg e m:=by unfold SI;rfl
@[irreducible] noncomputable def SO(X:Cx)(G:Gx)(F:Fy)(e:Option bi)(m:Option (M D)):Prop:=Mi.SO X G F e m
def eSO(X:Cx)(G:Gx)(F:Fy)(e:Option bi)(m:Option (M D)):SO X G F e m=Mi.SO X G F e m:=by unfold SO;rfl
@[irreducible] noncomputable def STs(X:Cx)(G:Gx)(F:Fy)(e:List bi)(m:M Bool):Prop:=Mi.STs X G F e m
def zhs(X:Cx)(G:Gx)(F:Fy)(e:List bi)(m:M Bool):STs X G F e m=Mi.STs X G F e m:=by unfold STs;rfl
local macro_rules | `(tactic| walk_at "go") => `(tactic| (simp only [eSE, eSA, eSB, eSW, eSS, zhq, eSG, zhr, eSI, eSO, zhs] at *))
section
variable{X:Cx}{G:Gx}{F:Fy}{e a b c:bi}{pos:bG}
def se_var(i:Nat)(hk:X.K=G.K)(h:PE X (.Name x pos) (zhk i)):SE X G F (.Name x pos) (y0 i):=by
 walk_at "go"
 exact Mi.se_var i hk h
def se_c(hk:X.K=G.K)(h:PE X e (tC v))(hd:cV d=some v:=by rfl):SE X G F e (mC d):=by
 walk_at "go"
 exact Mi.se_c hk h hd
def so_none:SO X G F none none:=by
 walk_at "go"
 exact Mi.so_none
def so_some(h:SE X G F e m):SO X G F (some e) (some m):=by
 walk_at "go"
 exact Mi.so_some h
def se_slice{lo hi:Option bi}{p2:bG}{m:M D}{ml mh:Option (M D)}(hk:X.K=G.K)(he:SE X G F e m)(hl:SO X G F lo ml)(hh:SO X G F hi mh):SE X G F (.Subscript e (.Slice lo hi none p2) pos) (mSl m ml mh):=by
 walk_at "go"
 exact Mi.se_slice hk he hl hh
def se_tup{x1}(hk:X.K=G.K)(h:SA X G F es (Z9 ms)):SE X G F (.Tuple es x1 pos) (mCB ms Q1):=by
 walk_at "go"
 exact Mi.se_tup hk h
def se_lst(hk:X.K=G.K)(h:SA X G F es (Z9 ms)):SE X G F (.List es pos) (mCB ms lstM):=by
 walk_at "go"
 exact Mi.se_lst hk h
def sb_truth(hk:X.K=G.K)(ha:SE X G F a m)(he: ∀whole,fo a X.env whole=(do let v<-whole;fK a.pos;dM [v] (truthy v)):=by intro _;rfl):SB X G F a (z0J m):=by
 walk_at "go"
 exact Mi.sb_truth hk ha he
def SW.sb(h:SW X G F e m):SB X G F e m:=by
 walk_at "go"
 exact Mi.SW.sb h
def sw_and1(h:SB X G F a m):SW X G F (.BoolOp .And [a] pos) m:=by
 walk_at "go"
 exact Mi.sw_and1 h
def sw_or1(h:SB X G F a m):SW X G F (.BoolOp .Or [a] pos) m:=by
 walk_at "go"
 exact Mi.sw_or1 h
def sw_and{rest:List bi}{m m':M Bool}(ha:SB X G F a m)(hb:SW X G F (.BoolOp .And (b::rest) pos) m'):SW X G F (.BoolOp .And (a::b::rest) pos) (z8F m m'):=by
 walk_at "go"
 exact Mi.sw_and ha hb
def sw_or{rest:List bi}{m m':M Bool}(ha:SB X G F a m)(hb:SW X G F (.BoolOp .Or (b::rest) pos) m'):SW X G F (.BoolOp .Or (a::b::rest) pos) (mOr m m'):=by
 walk_at "go"
 exact Mi.sw_or ha hb
def sb_not(ha:SB X G F a m):SB X G F (.UnaryOp .Not a pos) (z7i m):=by
 walk_at "go"
 exact Mi.sb_not ha
def se_one{op}(h:SE X G F a m):SE X G F (.BoolOp op [a] pos) m:=by
 walk_at "go"
 exact Mi.se_one h
def se_and{rest:List bi}{m m':M D}(ha:SE X G F a m)(hb:SE X G F (.BoolOp .And (b::rest) pos) m'):SE X G F (.BoolOp .And (a::b::rest) pos) (z5K m m'):=by
 walk_at "go"
 exact Mi.se_and ha hb
def se_not(ha:SE X G F a m):SE X G F (.UnaryOp .Not a pos) (z8G m):=by
 walk_at "go"
 exact Mi.se_not ha
def se_isi{p:bG}(hk:X.K=G.K)(hT:T= "int" \/T= "bool" \/T= "tuple" \/T= "list" \/T= "str")(hgl:Gl X "isinstance")(hm:X.mg "isinstance" =none)(ha:SE X G F x m)(hy:PE X y (tC (.ty T)))
 (he:bh [x,y] X.env=(false,bB x X.env)::bh [y] X.env:=by rfl) (he2:bh [y] X.env=(false,bB y X.env)::bh [] X.env:=by rfl) (hpl:(bC pos (bh [y] X.env)).any (·.1)=false:=by rfl):SE X G F (.Call (.Name "isinstance" p) [x,y] [] pos) (za5 T m):=by
 walk_at "go"
 exact Mi.se_isi hk hT hgl hm ha hy he he2 hpl
end
section
variable{X:Cx}{G:Gx}{F:Fy}{e a b c:bi}{st:Stmt}{sts rest:List Stmt}{pos:bG}
def ss_nil:SSs X G F [] sNx:=by
 walk_at "go"
 exact Mi.ss_nil
def ss_cons(h1:SS X G F st m)(h2:SSs X G F rest m'):SSs X G F (st::rest) (Z3 m m'):=by
 walk_at "go"
 exact Mi.ss_cons h1 h2
def ss_one(h1:SS X G F st m):SSs X G F [st] m:=by
 walk_at "go"
 exact Mi.ss_one h1
def ss_expr(he:SE X G F e m)(hs:bO e none pos.line X.env=pure false:=by rfl):SS X G F (.Expr e pos) (J8 m):=by
 walk_at "go"
 exact Mi.ss_expr he hs
def ss_ret(he:SE X G F e m):SS X G F (.Return (some e) pos) (z0e m):=by
 walk_at "go"
 exact Mi.ss_ret he
def ss_if(hc:SB X G F c mc)(ha:SSs X G F x m)(hb:SSs X G F y m'):SS X G F (.If c x y pos) (sIf mc m m'):=by
 walk_at "go"
 exact Mi.ss_if hc ha hb
def sg_name{i:Nat}(h:PG X (.Name x p) (z72 i)):SG X G F (.Name x p) (.nm i):=by
 walk_at "go"
 exact Mi.sg_name h
def sgs_nil:SGs X G F [] []:=by
 walk_at "go"
 exact Mi.sgs_nil
def sgs_cons(h1:SG X G F e g)(h2:SGs X G F es gs)(hs:(bu (e::es) X.env).map (·.2)=cE e X.env::(bu es X.env).map (·.2):=by rfl):SGs X G F (e::es) (g::gs):=by
 walk_at "go"
 exact Mi.sgs_cons h1 h2 hs
def sg_tup{k:Nat}{gs:List Tg}(hk:X.K=G.K)(hc:X.calm=true)(h:SGs X G F es gs)(hn:(bu es X.env).length=gs.length:=by rfl)(hst:(bu es X.env).findIdx? (·.1)=none:=by rfl):SG X G F (.Tuple es k pos) (.tp gs):=by
 walk_at "go"
 exact Mi.sg_tup hk hc h hn hst
def ss_asg(he:SE X G F e m)(hg:SG X G F tg g)(hs:cu [tg] e pos.line X.env=pure false:=by rfl)(hw:cw [tg] e X.env=pure none:=by rfl)
 (h1:(bu [tg] X.env).map (·.2)=[cE tg X.env]:=by rfl):SS X G F (.Assign [tg] e pos) (Y5 g m):=by
 walk_at "go"
 exact Mi.ss_asg he hg hs hw h1
def ss_set{i:Nat}(h: ∀{te:TE},PE X e te->PS X (.Assign [.Name x p] e pos) (zhl te (z72 i)))(he:SE X G F e m):SS X G F (.Assign [.Name x p] e pos) (Y5 (.nm i) m):=by
 walk_at "go"
 exact Mi.ss_set h he
def ss_while(hp:cq (bn X.prog X.w) X.A X.env X.xe)(hc:SB X G F c mc)(hb:SSs X G F body mb):SS X G F (.While c body [] pos) (z18 fuel mc mb):=by
 walk_at "go"
 exact Mi.ss_while hp hc hb
end
section
variable{X:Cx}{G:Gx}{F:Fy}{e a b c tg iter:bi}{pos:bG}
def si_seq(hk:X.K=G.K)(h:SE X G F e m):SI X G F tg e (Q8 m):=by
 walk_at "go"
 exact Mi.si_seq hk h
def si_rng1{p:bG}(hg:Gl X "range")(hm:X.mg "range" =none)(ha:SA X G F [a] (Z9 ms))(hs:bh [a] X.env=[(false,bB a X.env)]:=by rfl):SI X G F tg (.Call (.Name "range" p) [a] [] pos) (v7 ms):=by
 walk_at "go"
 exact Mi.si_rng1 hg hm ha hs
def si_rng2{p:bG}(hg:Gl X "range")(hm:X.mg "range" =none)(ha:SA X G F [a,b] (Z9 ms))(hs:bh [a,b] X.env=[(false,bB a X.env),(false,bB b X.env)]:=by rfl)(hs2:bh [b] X.env=[(false,bB b X.env)]:=by rfl):SI X G F tg (.Call (.Name "range" p) [a,b] [] pos) (z5L ms):=by
 walk_at "go"
 exact Mi.si_rng2 hg hm ha hs hs2
def ss_for{body:List Stmt}{mi:M ItK}{g:Tg}{mb:MS}(hp:cq (bn X.prog X.w) X.A X.env X.xe)(hc:X.calm=true)(hi:SI X G F tg iter mi)(hg:SG X G F tg g)(hb:SSs X G F body mb)(hst: ∀x,bw iter X.env x=pure x:=by intro _;rfl):SS X G F (.For tg iter body [] pos) (z01 mi g mb):=by
 walk_at "go"
 exact Mi.ss_for hp hc hi hg hb hst
end
section
variable{X:Cx}{G:Gx}{F:Fy}{e a b c tg iter elt:bi}{pos:bG}
def sts_nil:STs X G F [] (rt true):=by
 walk_at "go"
 exact Mi.sts_nil
def se_comp{scope:Scope}{own frees:List Str}{ix:List Nat}{ifs:List bi}{mi:M ItK}{g:Tg}{mt:M Bool}{me:M D}(hk:X.K=G.K)(hc:X.calm=true)(S:U2 X.env.scope scope own frees X.N ix)(hi:SI X G F tg iter mi)
 (hg: ∀(F:Fy) cl C s₀ H₀ fp pn,SG (J5 X scope own frees cl C s₀ H₀ fp pn) G F tg g) (ht: ∀(F:Fy) cl C s₀ H₀ fp pn,STs (J5 X scope own frees cl C s₀ H₀ fp pn) G F ifs mt) (he: ∀(F:Fy) cl C s₀ H₀ fp pn,SE (J5 X scope own frees cl C s₀ H₀ fp pn) G F elt me)
 (hs: ∀x,bw iter X.env x=pure x:=by intro _;rfl):SE X G F (.ListComp elt [⟨tg,iter,ifs,0⟩] scope pos) (J1 mi g mt me own.length ix):=by
 walk_at "go"
 exact Mi.se_comp hk hc S hi hg ht he hs
end
section
variable{G:Gx}{ρ:Nat->Addr}{H:Hp}
section
variable(k:KD G.K H){n:Nat}(inj: ∀i j,i<n->j<n->ρ i=ρ j->i=j)
include k inj
end
end
section
variable{G:Gx}{ρ ρ':Nat->Addr}{H H':Hp}
section
variable(k:KD G.K H){n:Nat}(inj: ∀i j,i<n->j<n->ρ i=ρ j->i=j){ts:List D}{vs:List V}(r:RDs G ρ H ts vs)(lb: ∀l∈labsL ts,l<n)
include k inj r lb
end
variable{F:Fy}{σv tv:List (Option V)}{s:Stt}{np:Nat}
def se_call{X:Cx}{e:bi}{es:List bi}{pos p:bG}{k:Nat}{ps:List Str}{ms:List (M D)}(hk:X.K=G.K)(Fn:z0c X.prog X.w X.K X.mg X.base CX k fa fd ps (spM G ps.length f))(hr:z29 k X.A)(hg:Gl X x)(hm:X.mg x=some (.ref fa))(hkp:W.keepIn X.K (.ref fa)=true)(hb:z3c X.K fd ps [])(hx:z3p CX X E)
 (ha:SA X G F (e::es) (Z9 ms)) (hln:ms.length=ps.length) (hdb:(x==("__debug__" :Str))=false:=by decide) (he:bh (e::es) X.env=(false,bB e X.env)::bh es X.env:=by rfl) (hpl:(bC pos (bh es X.env)).any (·.1)=false:=by rfl):
 SE X G F (.Call (.Name x p) (e::es) [] pos) (Z1 f ms):=by
 walk_at "go"
 exact Mi.se_call hk Fn hr hg hm hkp hb hx ha hln hdb he hpl
def fn_M{P:bm}{w:bo}{K:W.Frag}{mg:Str->Option be}{base:Heap}{x qual:Str}{st:Stmt}{fa:Addr}{fd:bA}{N ps:List Str}{k:Nat}{mb:MS}(Fn:Fun K x qual st fa fd)(S:w6 N ps (y4 st))(hG:G.K=K)
 (hb: ∀(cdv:be) (A:bq) (outer:List dC) (s:bf) (H:Hp) (E:XK) (F:Fy),z29 k (A.deeper (envOfC qual (y4 st) s.heap.objs.size fa cdv))->SSs (zai CX0 P w K mg base N qual (y4 st) fa cdv A outer s H E).nox G F (k7 st) mb):
 z0c P w K mg base CX0 (k+1) fa fd ps (spM G ps.length (z1K N.length mb)):=by
 walk_at "go"
 exact Mi.fn_M Fn S hG hb
end
section
variable{X:Cx}{G:Gx}{F:Fy}{e o:bi}{es:List bi}{apos cpos:bG}
def ss_setI{ob ix:bi}{pos tpos:bG}{mo mi me:M D}(he:SE X G F e me)(ho:SE X G F ob mo)(hi:SE X G F ix mi)(hg: ∀{to ti:TE},PE X ob to->PE X ix ti->PG X (.Subscript ob ix tpos) (zhH to ti zal))(hs:cu [.Subscript ob ix tpos] e pos.line X.env=pure false:=by rfl)(hw:cw [.Subscript ob ix tpos] e X.env=pure none:=by rfl)
 (h1:(bu [.Subscript ob ix tpos] X.env).map (·.2)=[cE (.Subscript ob ix tpos) X.env]:=by rfl):SS X G F (.Assign [.Subscript ob ix tpos] e pos) (z1f me mo mi zbR):=by
 walk_at "go"
 exact Mi.ss_setI he ho hi hg hs hw h1
end
section
variable{X:Cx}{G:Gx}{F:Fy}{e a b c:bi}{pos:bG}{ma mb mc m:M D}
def se_add(hk:X.K=G.K)(ha:SE X G F a ma)(hb:SE X G F b mb):SE X G F (.BinOp a .Add b pos) (y2 ma mb v6):=by
 walk_at "go"
 exact Mi.se_add hk ha hb
def se_mul(hk:X.K=G.K)(ha:SE X G F a ma)(hb:SE X G F b mb):SE X G F (.BinOp a .Mult b pos) (y2 ma mb z7h):=by
 walk_at "go"
 exact Mi.se_mul hk ha hb
def se_fdiv(hk:X.K=G.K)(ha:SE X G F a ma)(hb:SE X G F b mb):SE X G F (.BinOp a .FloorDiv b pos) (y2 ma mb z3g):=by
 walk_at "go"
 exact Mi.se_fdiv hk ha hb
def se_mod(hk:X.K=G.K)(ha:SE X G F a ma)(hb:SE X G F b mb):SE X G F (.BinOp a .Mod b pos) (y2 ma mb z24):=by
 walk_at "go"
 exact Mi.se_mod hk ha hb
def se_pow(hk:X.K=G.K)(ha:SE X G F a ma)(hb:SE X G F b mb):SE X G F (.BinOp a .Pow b pos) (y2 ma mb zaB):=by
 walk_at "go"
 exact Mi.se_pow hk ha hb
def se_cmp(hc:Cm X G F op g)(ha:SE X G F a ma)(hb:SE X G F b mb)(hm:bI op b=false):SE X G F (.Compare a [op] [b] pos) (y2 ma mb g):=by
 walk_at "go"
 exact Mi.se_cmp hc ha hb hm
def sb_cmp(hc:Cm X G F op g)(ha:SE X G F a ma)(hb:SE X G F b mb)(hm:bI op b=false):SB X G F (.Compare a [op] [b] pos) (G7 (y2 ma mb g)):=by
 walk_at "go"
 exact Mi.sb_cmp hc ha hb hm
def se_idx(hk:X.K=G.K)(ha:SE X G F a ma)(hb:SE X G F b mb)(hs:z0H b):SE X G F (.Subscript a b pos) (y2 ma mb ixD):=by
 walk_at "go"
 exact Mi.se_idx hk ha hb hs
def se_cb{x:Str}{p:bG}{es:List bi}{ms:List (M D)}{g:List D->M D}{id:String}(hk:X.K=G.K)(hc:Cb X G F (.builtin id) g)(hgl:Gl X x)(hm:X.mg x=none)(hv:bF x=some (.builtin id))(ha:SA X G F (e::es) (Z9 ms))(hn:x≠ "__name__" :=by decide)(hdb:(x==("__debug__" :Str))=false:=by decide)
 (he:bh (e::es) X.env=(false,bB e X.env)::bh es X.env:=by rfl) (hpl:(bC pos (bh es X.env)).any (·.1)=false:=by rfl):SE X G F (.Call (.Name x p) (e::es) [] pos) (mCB ms g):=by
 walk_at "go"
 exact Mi.se_cb hk hc hgl hm hv ha hn hdb he hpl
def se_ct{p:bG}(hk:X.K=G.K)(hc:Cb X G F (.type T) g)(hgl:Gl X x)(hm:X.mg x=none)(hv:bF x=some (.type T))(ha:SA X G F (e::es) (Z9 ms))(hn:x≠ "__name__" :=by decide)(hdb:(x==("__debug__" :Str))=false:=by decide)
 (he:bh (e::es) X.env=(false,bB e X.env)::bh es X.env:=by rfl) (hpl:(bC pos (bh es X.env)).any (·.1)=false:=by rfl):SE X G F (.Call (.Name x p) (e::es) [] pos) (mCB ms g):=by
 walk_at "go"
 exact Mi.se_ct hk hc hgl hm hv ha hn hdb he hpl
end
section
variable{X:Cx}{G:Gx}{F:Fy}{e o:bi}{es:List bi}{apos cpos:bG}
def se_cl{name:Str}{id:String}{mo:M D}{ms:List (M D)}{g:D->List D->M D}(hk:X.K=G.K)(slot:Slot "list" name id)(hty:fN (.builtin id)=pure (.type "method_descriptor"))(hm:Cl X G F id g)(ho:SE X G F o mo)(ha:SA X G F (e::es) (Z9 ms))
 (hbase:bN o name X.env (bB o X.env)=bB o X.env:=by rfl)
 (hfew:((bC cpos (bh (e::es) X.env)).all (λx=> !x.1)&&(cm cpos (bS [] X.env)).all (λx=>x.1.isSome)
  &&decide ((e::es).length+([]:List bM).length+(if([]:List bM).isEmpty then 0 else 1)<30))=true:=by rfl)
 (hline:(apos.endLine==cpos.line)=true:=by rfl) (hs:bh (e::es) X.env=(false,bB e X.env)::bh es X.env:=by rfl) (hplain:(bC cpos (bh es X.env)).any (·.1)=false:=by rfl):SE X G F (.Call (.Attribute o name apos) (e::es) [] cpos) (J2 mo ms g):=by
 walk_at "go"
 exact Mi.se_cl hk slot hty hm ho ha hbase hfew hline hs hplain
end
section
variable{X:Cx}{G:Gx}{F:Fy}{a b e:bi}{ma mb:M D}{pos:bG}
def se_dgt(hk:X.K=G.K)(hu:X.A.units+64<cLine)(ha:SE X G F a ma)(hb:SE X G F b mb)(hs:z0H b):SE X G F (.Subscript a b pos) (y2 ma mb z15):=by
 walk_at "go"
 exact Mi.se_dgt hk hu ha hb hs
def se_dnew(hk:X.K=G.K):SE X G F (.Dict [] [] pos) z2F:=by
 walk_at "go"
 exact Mi.se_dnew hk
def ss_dput{ob ix:bi}{pos tpos:bG}{mo mi me:M D}(hu:X.A.units+64<cLine)(he:SE X G F e me)(ho:SE X G F ob mo)(hi:SE X G F ix mi)(hs:bO e (some (.Subscript ob ix tpos)) pos.line X.env=pure false:=by rfl):
 SS X G F (.Assign [.Subscript ob ix tpos] e pos) (z1f me mo mi z03):=by
 walk_at "go"
 exact Mi.ss_dput hu he ho hi hs
end
section
variable{X:Cx}{G:Gx}{F:Fy}{tg iter elt:bi}{pos:bG}
def se_compD{scope:Scope}{own frees:List Str}{ix:List Nat}{ifs:List bi}{m0:M D}{g:Tg}{mt:M Bool}{me:M D}(hk:X.K=G.K)(hc:X.calm=true)(S:U2 X.env.scope scope own frees X.N ix)(hi:SE X G F iter m0)
 (hg: ∀(F:Fy) cl C s₀ H₀ fp pn,SG (J5 X scope own frees cl C s₀ H₀ fp pn) G F tg g) (ht: ∀(F:Fy) cl C s₀ H₀ fp pn,STs (J5 X scope own frees cl C s₀ H₀ fp pn) G F ifs mt) (he: ∀(F:Fy) cl C s₀ H₀ fp pn,SE (J5 X scope own frees cl C s₀ H₀ fp pn) G F elt me)
 (hs: ∀x,bw iter X.env x=pure x:=by intro _;rfl):SE X G F (.ListComp elt [⟨tg,iter,ifs,0⟩] scope pos) (J1 (K0 m0) g mt me own.length ix):=by
 walk_at "go"
 exact Mi.se_compD hk hc S hi hg ht he hs
end
section
variable{X:Cx}{G:Gx}{F:Fy}{pos:bG}{kx vx:bi}
def se_disp1(hK:X.K=G.K)(hu:X.A.units+64<cLine)(hk:SE X G F kx mk)(hv:SE X G F vx mv):SE X G F (.Dict [some kx] [vx] pos) (v3 mk mv):=by
 walk_at "go"
 exact Mi.se_disp1 hK hu hk hv
end
section
variable{X:Cx}{G:Gx}{F:Fy}{a b e:bi}{ma mb:M D}{pos:bG}
def ss_setN{i:Nat}(hN:X.N.Nodup)(hi:X.N[i]? =some x)(hx:Loc X.env.scope x)(hf:X.fn x=true\/X.env.scope.names.lookup x=some .local)(he:SE X G F e m)(hs:bO e (some (.Name x p)) pos.line X.env=pure false:=by rfl):SS X G F (.Assign [.Name x p] e pos) (Y5 (.nm i) m):=by
 walk_at "go"
 exact Mi.ss_setN hN hi hx hf he hs
end
inductive SEs(X:Cx)(G:Gx)(F:Fy):List bi->List (M D)->Prop
 |nil:SEs X G F [] []
 |cons {e:bi} {m:M D} {es:List bi} {ms:List (M D)}:SE X G F e m->nst e=true->SEs X G F es ms->SEs X G F (e::es) (m::ms)
def zjQ(h:SEs X G F es ms):Mi.SEs X G F es ms:=by
 induction h with
 |nil=>exact .nil
 |cons h n _ ih=>rw[eSE] at h;exact .cons h n ih
def sa_of{X:Cx}{G:Gx}(hk:X.K=G.K)(h:SEs X G F es ms):SA X G F es (Z9 ms):=by
 rw[eSA];exact Mi.sa_of hk (zjQ h)
section
variable{X:Cx}{G:Gx}{F:Fy}{e:bi}{pos pos' tpos:bG}
def ss_augI{i:Nat}(hN:X.N.Nodup)(hi:X.N[i]? =some x)(hx:Loc X.env.scope x)(hf:X.fn x=true\/X.env.scope.names.lookup x=some .local)(he:SE X G F e m):SS X G F (.AugAssign (.Name x pos') .Add e pos) (z5S i m):=by
 rw[eSS];rw[eSE] at he
 exact Mi.ss_augI hN hi hx hf he
end
section
variable{X:Cx}{G:Gx}{F:Fy}{e a b c d:bi}{pos p:bG}{m ma mb mc md:M D}
def sv(i:Nat){x:Str}(hk:X.K=G.K:=by rfl)(hN:X.N[i]? =some x:=by rfl)(hv:Vis X.env.scope x:=by first|exact Or.inl rfl|exact Or.inr (Or.inl rfl)|exact Or.inr (Or.inr rfl))(hd:(x==("__debug__" :Str))=false:=by decide)(hcd:(x==("__classdict__" :Str))=false:=by decide):SE X G F (.Name x pos) (y0 i):=se_var i hk (pv i hN hv hd hcd)
def s1(h:SE X G F a ma)(n:nst a=true:=by rfl)(hk:X.K=G.K:=by rfl):SA X G F [a] (Z9 [ma]):=sa_of hk (.cons h n .nil)
def s2(h:SE X G F a ma)(h2:SE X G F b mb)(n:nst a=true:=by rfl)(n2:nst b=true:=by rfl)(hk:X.K=G.K:=by rfl):SA X G F [a,b] (Z9 [ma,mb]):=sa_of hk (.cons h n (.cons h2 n2 .nil))
def s3(h:SE X G F a ma)(h2:SE X G F b mb)(h3:SE X G F c mc)(n:nst a=true:=by rfl)(n2:nst b=true:=by rfl)(n3:nst c=true:=by rfl)(hk:X.K=G.K:=by rfl):SA X G F [a,b,c] (Z9 [ma,mb,mc]):=sa_of hk (.cons h n (.cons h2 n2 (.cons h3 n3 .nil)))
def s4(h:SE X G F a ma)(h2:SE X G F b mb)(h3:SE X G F c mc)(h4:SE X G F d md)(n:nst a=true:=by rfl)(n2:nst b=true:=by rfl)(n3:nst c=true:=by rfl)(n4:nst d=true:=by rfl)(hk:X.K=G.K:=by rfl):SA X G F [a,b,c,d] (Z9 [ma,mb,mc,md]):=sa_of hk (.cons h n (.cons h2 n2 (.cons h3 n3 (.cons h4 n4 .nil))))
def sst(i:Nat)(hN:X.N.Nodup)(he:SE X G F e m)(hi:X.N[i]? =some x:=by rfl)(hx:Loc X.env.scope x:=by exact Or.inl rfl)(hs:bO e (some (.Name x p)) pos.line X.env=pure false:=by rfl)(hf:X.fn x=true\/X.env.scope.names.lookup x=some .local:=by first|exact .inl rfl|exact .inr rfl|assumption):SS X G F (.Assign [.Name x p] e pos) (Y5 (.nm i) m):=
 ss_set (λ{te} h=>z2j hN hi hx h hs hf) he
def sgn(i:Nat)(hN:X.N.Nodup)(hi:X.N[i]? =some x:=by rfl)(hx:Loc X.env.scope x:=by exact Or.inl rfl)(hf:X.fn x=true\/X.env.scope.names.lookup x=some .local:=by first|exact .inl rfl|exact .inr rfl|assumption):SG X G F (.Name x pos) (.nm i):=sg_name (v5 hN hi hx hf)
def sln(hm:X.mg "len" =none)(ha:SA X G F (e::es) (Z9 ms))(hgl:Gl X "len" :=by rfl)(he:bh (e::es) X.env=(false,bB e X.env)::bh es X.env:=by rfl)(hpl:(bC pos (bh es X.env)).any (·.1)=false:=by rfl)(hk:X.K=G.K:=by rfl):SE X G F (.Call (.Name "len" p) (e::es) [] pos) (mCB ms U3):=
 se_cb hk (zg2 hk) hgl hm PyProof.Rows.Boot.«len» ha (by decide) (by decide) he hpl
def sc0{v:V}{d:D}(h:PE X e (tC v))(hd:cV d=some v:=by rfl)(hk:X.K=G.K:=by rfl):SE X G F e (mC d):=se_c hk h hd
def sxc(ha:SE X G F a ma)(h:PE X b (tC v))(hd:cV q=some v:=by rfl)(hs:z0H b:=by exact λ_ _=>rfl)(hk:X.K=G.K:=by rfl):SE X G F (.Subscript a b pos) (y2 ma (mC q) ixD):=se_idx hk ha (se_c hk h hd) hs
def sxx(ha:SE X G F a ma)(hb:SE X G F b mb)(hs:z0H b:=by exact λ_ _=>rfl)(hk:X.K=G.K:=by rfl):SE X G F (.Subscript a b pos) (y2 ma mb ixD):=se_idx hk ha hb hs
end
section
variable{G:Gx}{P:bm}{w:bo}{K:W.Frag}{mg:Str->Option be}{base:Heap}{x qual:Str}{st:Stmt}{fa:Addr}{fd:bA}{N ps:List Str}{k np:Nat}{f:FM}
def okM(mb:MS)(Fn:Fun K x qual st fa fd)(S:w6 N ps (y4 st))(hb: ∀(cdv:be) (A:bq) (outer:List dC) (s:bf) (H:Hp) (E:XK) (F:Fy),z29 k (A.deeper (envOfC qual (y4 st) s.heap.objs.size fa cdv))->SSs (zai CX0 P w K mg base N qual (y4 st) fa cdv A outer s H E).nox G F (k7 st) mb)(hG:G.K=K:=by rfl)(hf:f=z1K N.length mb:=by rfl)(hn:np=ps.length:=by rfl):
 z0c P w K mg base CX0 (k+1) fa fd ps (spM G np f):=by
 subst hf hn;exact fn_M Fn S hG hb
end
section
variable{X:Cx}{G:Gx}{F:Fy}{e o a b:bi}{pos apos cpos:bG}{mo mi mx:M D}
def se_dnewK(hk:X.K=G.K):SE X G F (.Dict [] [] pos) z8Z:=by
 rw[eSE];exact Mi.se_dnewK hk
def ss_dputP{ob ix:bi}{pos tpos:bG}{me:M D}(hu:X.A.units+64<cLine)(he:SE X G F e me)(ho:SE X G F ob mo)(hi:SE X G F ix mi)(hs:bO e (some (.Subscript ob ix tpos)) pos.line X.env=pure false:=by rfl):
 SS X G F (.Assign [.Subscript ob ix tpos] e pos) (z1f me mo mi z44):=by
 rw[eSS];rw[eSE] at he ho hi
 exact Mi.ss_dputP hu he ho hi hs
end
section
variable{X:Cx}{G:Gx}{F:Fy}{a b tg e o iter elt:bi}{pos apos cpos:bG}{mo mi mx:M D}
def se_compDI{scope:Scope}{own frees:List Str}{ix:List Nat}{ifs:List bi}{m0:M D}{g:Tg}{mt:M Bool}{me:M D}{elts:List bi}{x1:Nat}{tpos apos cpos:bG}(hk:X.K=G.K)(hc:X.calm=true)(S:U2 X.env.scope scope own frees X.N ix)(hi:SE X G F iter m0)
 (hg: ∀(F:Fy) cl C s₀ H₀ fp pn,SG (J5 X scope own frees cl C s₀ H₀ fp pn) G F (.Tuple elts x1 tpos) g) (ht: ∀(F:Fy) cl C s₀ H₀ fp pn,STs (J5 X scope own frees cl C s₀ H₀ fp pn) G F ifs mt) (he: ∀(F:Fy) cl C s₀ H₀ fp pn,SE (J5 X scope own frees cl C s₀ H₀ fp pn) G F elt me)
 (hs: ∀x,bw (.Call (.Attribute iter "items" apos) [] [] cpos) X.env x=pure x:=by intro _;rfl) (hbase:bN iter "items" X.env (bB iter X.env)=bB iter X.env:=by rfl)
 (hfew:((bC cpos (bh [] X.env)).all (λx=> !x.1)&&(cm cpos (bS [] X.env)).all (λx=>x.1.isSome)&&decide (([]:List bi).length+([]:List bM).length+(if([]:List bM).isEmpty then 0 else 1)<30))=true:=by rfl)
 (hline:(apos.endLine==cpos.line)=true:=by rfl):SE X G F (.ListComp elt [⟨.Tuple elts x1 tpos, .Call (.Attribute iter "items" apos) [] [] cpos,ifs,0⟩] scope pos) (J1 (z5U m0) g mt me own.length ix):=by
 erw[eSE,eSA,eSB,eSW,eSS,zhq,eSG,zhr,eSI,eSO,zhs] at*
 exact Mi.se_compDI hk hc S hi hg ht he hs hbase hfew hline
end
section
variable{X:Cx}{G:Gx}{F:Fy}{e:bi}
def ss_dputL{ob ix:bi}{pos tpos:bG}{mo mi me:M D}(hu:X.A.units+64<cLine)(he:SE X G F e me)(ho:SE X G F ob mo)(hi:SE X G F ix mi)(hs:bO e (some (.Subscript ob ix tpos)) pos.line X.env=pure false:=by rfl):
 SS X G F (.Assign [.Subscript ob ix tpos] e pos) (z1f me mo mi z3k):=by
 erw[eSE,eSA,eSB,eSW,eSS,zhq,eSG,zhr,eSI,eSO,zhs] at*
 exact Mi.ss_dputL hu he ho hi hs
end
section
variable{X:Cx}{G:Gx}{F:Fy}{tg iter:bi}{pos:bG}
def ss_forD(hp:cq (bn X.prog X.w) X.A X.env X.xe)(hc:X.calm=true)(hl:SE X G F iter m0)(hg: ∀F:Fy,SG X G F tg g)(hb: ∀F:Fy,SSs X G F body mb)
 (hst: ∀x,bw iter X.env x=pure x:=by intro _;rfl):SS X G F (.For tg iter body [] pos) (z01 (K0 m0) g mb):=by
 erw[eSE,eSA,eSB,eSW,eSS,zhq,eSG,zhr,eSI,eSO,zhs] at*
 exact Mi.ss_forD hp hc hl hg hb hst
end
end My
namespace My
open PySem L2 Mi
noncomputable def top(i:Nat):Stmt:=PySem.Challenge.pw_signbench_k06_standings.main.body.getD i (.Pass ⟨0,0,0,0⟩)
noncomputable abbrev z0p:Stmt:=top 2
noncomputable abbrev K1:Stmt:=top 3
noncomputable abbrev z2I:Stmt:=top 4
noncomputable abbrev z0N:Stmt:=top 5
noncomputable abbrev V0:Stmt:=top 6
noncomputable abbrev z1g:Stmt:=top 7
noncomputable abbrev Q9:Stmt:=top 8
noncomputable abbrev z5X:Stmt:=top 10
noncomputable abbrev z45:Stmt:=top 11
noncomputable abbrev z2J:Stmt:=top 12
noncomputable abbrev z1h:Stmt:=top 13
noncomputable abbrev z46:Stmt:=top 14
noncomputable abbrev z47:Stmt:=top 15
noncomputable abbrev z1M:Stmt:=top 16
noncomputable abbrev z2K:Stmt:=top 17
noncomputable abbrev z2L:Stmt:=top 18
noncomputable abbrev z1N:Stmt:=top 19
noncomputable abbrev z2M:Stmt:=top 20
noncomputable abbrev z2N:Stmt:=top 21
noncomputable abbrev z48:Stmt:=top 22
noncomputable abbrev K2:Stmt:=top 23
noncomputable abbrev zdx:Stmt:=top 24
noncomputable abbrev z49:List Str:=["table", "keys", "row"]
noncomputable abbrev z0q:List Str:=["table", "keys"]
noncomputable abbrev z2O:List Str:=["table", "keys", "best", "row"]
noncomputable abbrev K3:List Str:=["table", "keys"]
noncomputable abbrev z98:List Str:=["table", "waiting", "key", "sounds", "lost", "rest", "told", "gone"]
noncomputable abbrev z2P:List Str:=["table", "waiting", "key"]
noncomputable abbrev z1Z:List Str:=["table", "keys"]
noncomputable abbrev z0O:List Str:=z1Z
noncomputable abbrev z1O:List Str:=["table", "sounds", "ways"]
noncomputable abbrev V1:List Str:=["table", "sounds"]
noncomputable abbrev z5Y:List Str:=["table", "sounds", "start", "ways", "found", "presses", "done", "standing", "place", "waiting", "key", "told", "then", "reached"]
noncomputable abbrev z1i:List Str:=["table", "sounds"]
noncomputable abbrev z0f:List Str:=["table", "waiting", "found", "key", "sounds", "lost", "then"]
noncomputable abbrev j0:List Str:=["table", "waiting"]
noncomputable abbrev zdy:List Str:=["_law_script", "_law_at", "_law_cell", "_law_mix", "_law_k"]
noncomputable abbrev z5Z:List Str:=["_law_script", "_law_at"]
noncomputable abbrev zaW:List Str:=["_law_bag_here", "_law_many", "_law_digit"]
noncomputable abbrev z4a:List Str:=["_law_bag_here", "_law_many"]
noncomputable abbrev z99:List Str:=["_law_bag_here", "_law_wide", "_law_letters", "_law_first", "_law_top", "_law_found", "_law_k", "_law_turn", "_law_keys", "_law_sounds_here", "_law_left"]
noncomputable abbrev z2Q:List Str:=["_law_bag_here"]
noncomputable abbrev z60:List Str:=["_law_bag_here", "_law_table_here", "_law_most", "_law_some", "_law_keys", "_law_sounds_here", "_law_left", "_law_found", "_law_k", "_law_other"]
noncomputable abbrev z1j:List Str:=["_law_bag_here", "_law_table_here", "_law_most"]
noncomputable abbrev zaX:List Str:=["_law_table_here", "_law_keys", "_law_best", "_law_told", "_law_left", "_law_row"]
noncomputable abbrev z4b:List Str:=["_law_table_here", "_law_keys"]
noncomputable abbrev zaY:List Str:=["_law_table_here", "_law_keys", "_law_sounds_here", "_law_lost", "_law_left", "_law_more", "_law_gone"]
noncomputable abbrev z4c:List Str:=["_law_table_here", "_law_keys"]
noncomputable abbrev z7m:List Str:=["_law_table_here", "_law_found", "_law_row", "_law_length"]
noncomputable abbrev z1P:List Str:=["_law_table_here"]
noncomputable abbrev z9a:List Str:=["_law_table_here", "_law_starts_here", "_law_waiting", "_law_key", "_law_sounds_here", "_law_lost", "_law_left", "_law_more", "_law_gone"]
noncomputable abbrev z2R:List Str:=["_law_table_here", "_law_starts_here", "_law_waiting", "_law_key"]
noncomputable abbrev z58:List Str:=["_law_thing"]
noncomputable abbrev z2S:List Str:=z58
noncomputable abbrev z7n:List Str:=["_law_bag_here", "_law_table_here", "_law_most", "_law_way", "_law_some", "_law_keys", "_law_sounds_here", "_law_left", "_law_many", "_law_found", "_law_k", "_law_other"]
noncomputable abbrev z1Q:List Str:=["_law_bag_here", "_law_table_here", "_law_most"]
noncomputable abbrev z9b:List Str:=["_law_table_here", "_law_starts_here", "_law_keys", "_law_row", "_law_key", "_law_found", "_law_waiting", "_law_some", "_law_told", "_law_lost", "_law_left"]
noncomputable abbrev z2T:List Str:=["_law_table_here", "_law_starts_here"]
noncomputable abbrev z9c:List Str:=["_law_steps_here", "_law_sounds_here", "_law_place", "_law_waiting", "_law_found", "_law_key", "_law_told", "_law_left"]
noncomputable abbrev z2U:List Str:=["_law_steps_here", "_law_sounds_here", "_law_place", "_law_waiting"]
noncomputable abbrev zaZ:List Str:=["_law_steps_here", "_law_sounds_here", "_law_found", "_law_edge", "_law_more", "_law_place", "_law_waiting", "_law_key", "_law_goal"]
noncomputable abbrev z4d:List Str:=["_law_steps_here", "_law_sounds_here"]
noncomputable abbrev z0P:List Str:=["_law_thing"]
noncomputable abbrev K4:List Str:=z0P
noncomputable abbrev zim:List Str:=["_law_script", "_law_k", "_law_bag_here", "_law_table_here", "_law_sounds_here", "_law_ways_here", "_law_due", "_law_handed", "_law_turn", "_law_told"]
noncomputable abbrev zdz:List Str:=["_law_script"]
local macro_rules | `(tactic| walk_at "sc") => `(tactic| exact ⟨rfl, rfl, rfl, by decide +kernel, rfl, by decide +kernel, by decide +kernel⟩)
def z1a:w6 z49 z0q (y4 z0p):=by walk_at "sc"
def G5:w6 z2O K3 (y4 K1):=by walk_at "sc"
def V2:w6 z98 z2P (y4 z2I):=by walk_at "sc"
def z4e:w6 z1Z z0O (y4 z0N):=by walk_at "sc"
def z06:w6 z1O V1 (y4 V0):=by walk_at "sc"
def Y1:w6 z5Y z1i (y4 z1g):=by walk_at "sc"
def Z6:w6 z0f j0 (y4 Q9):=by walk_at "sc"
def z0r:w6 zdy z5Z (y4 z5X):=by walk_at "sc"
def z59:w6 zaW z4a (y4 z45):=by walk_at "sc"
def j3:w6 z99 z2Q (y4 z2J):=by walk_at "sc"
def J0:w6 z60 z1j (y4 z1h):=by walk_at "sc"
def X2:w6 zaX z4b (y4 z46):=by walk_at "sc"
def K5:w6 zaY z4c (y4 z47):=by walk_at "sc"
def z0s:w6 z7m z1P (y4 z1M):=by walk_at "sc"
def V3:w6 z9a z2R (y4 z2K):=by walk_at "sc"
def z7o:w6 z58 z2S (y4 z2L):=by walk_at "sc"
def Q5:w6 z7n z1Q (y4 z1N):=by walk_at "sc"
def j4:w6 z9b z2T (y4 z2M):=by walk_at "sc"
def z0g:w6 z9c z2U (y4 z2N):=by walk_at "sc"
def U4:w6 zaZ z4d (y4 z48):=by walk_at "sc"
def z26:w6 z0P K4 (y4 K2):=by walk_at "sc"
def z1b:w6 zim zdz (y4 zdx):=by walk_at "sc"
structure Dx(K:W.Frag)(mg:Str->Option be)(x:Str)(st:Stmt)(ps:List Str) where
 f:Addr
 d:bA
 F:Fun K x x st f d
 b:z3c K d ps []
 m:mg x=some (.ref f)
def scl{X:Cx}{pos p:bG}{k j:Nat}{ps:List Str}{E:XK}(d:Dx X.K X.mg x st ps)(Fn:z0c X.prog X.w X.K X.mg X.base CX j d.f d.d ps (spM G ps.length f))(hr:z29 k X.A)(ha:SA X G F (e::es) (Z9 ms))(hg:Gl X x:=by rfl)(hx:z3p CX X E:=by exact zi3)(hln:ms.length=ps.length:=by rfl)(hk:X.K=G.K:=by rfl)(hj:j<=k:=by lia)(hdb:(x==("__debug__" :Str))=false:=by decide)(he:bh (e::es) X.env=(false,bB e X.env)::bh es X.env:=by rfl)(hpl:(bC pos (bh es X.env)).any (·.1)=false:=by rfl):SE X G F (.Call (.Name x p) (e::es) [] pos) (Z1 f ms):=se_call hk (Fn.mono hj) hr hg d.m d.F.kp d.b hx ha hln hdb he hpl
set_option genInjectivity false in
set_option genSizeOf false in
set_option genSizeOfSpec false in
structure Wd(K:W.Frag)(mg:Str->Option be) where
 x_p_read_step:Dx K mg "read_step" z0p z0q
 x_p_longest_row:Dx K mg "longest_row" K1 K3
 x_p_press:Dx K mg "press" z2I z2P
 x_p_may_wait:Dx K mg "may_wait" z0N z0O
 x_p_key_standings:Dx K mg "key_standings" V0 V1
 x_p_ways_to:Dx K mg "ways_to" z1g z1i
 x_p_presses_without_loss:Dx K mg "presses_without_loss" Q9 j0
 x_l_bag:Dx K mg "_law_bag" z5X z5Z
 x_l_take:Dx K mg "_law_take" z45 z4a
 x_l_table:Dx K mg "_law_table" z2J z2Q
 x_l_pressed:Dx K mg "_law_pressed" z1h z1j
 x_l_step:Dx K mg "_law_step" z46 z4b
 x_l_read:Dx K mg "_law_read" z47 z4c
 x_l_starts:Dx K mg "_law_starts" z1M z1P
 x_l_press:Dx K mg "_law_press" z2K z2R
 x_l_whole:Dx K mg "_law_whole" z2L z2S
 x_l_sounds:Dx K mg "_law_sounds" z1N z1Q
 x_l_steps:Dx K mg "_law_steps" z2M z2T
 x_l_goals:Dx K mg "_law_goals" z2N z2U
 x_l_ways:Dx K mg "_law_ways" z48 z4d
 x_l_is_standing:Dx K mg "_law_is_standing" K2 K4
 x_law:Dx K mg "law" zdx zdz
 n_abs:mg "abs" =none
 n_all:mg "all" =none
 n_any:mg "any" =none
 n_bool:mg "bool" =none
 c_LAST_KEY: ∃t,mg "LAST_KEY" =some (.int 25 t)
 n_int:mg "int" =none
 n_isinstance:mg "isinstance" =none
 n_len:mg "len" =none
 n_list:mg "list" =none
 n_max:mg "max" =none
 n_min:mg "min" =none
 n_range:mg "range" =none
 n_sorted:mg "sorted" =none
 n_tuple:mg "tuple" =none
section
variable{P:bm}{w:bo}{K:W.Frag}{mg:Str->Option be}{base:Heap}
noncomputable def K6:MS:=(Z3 (Y5 (.nm 2) (mC .non))
 (Z3 (z01 (Q8 (y0 0)) (.nm 3) (sIf (z8F (G7 (y2 (mSl (y0 1) none (some (mCB [(y2 (y0 3) (mC (.int 0)) ixD)] U3))) (y2 (y0 3) (mC (.int 0)) ixD) eqD)) (mOr (G7 (y2 (y0 2) (mC .non) isN)) (G7 (y2 (mCB [(y2 (y0 3) (mC (.int 0)) ixD)] U3) (mCB [(y2 (y0 2) (mC (.int 0)) ixD)] U3) gtD)))) (Y5 (.nm 2) (y0 3)) sNx))
 (z0e (y0 2))))
noncomputable def U5:FM:=z1K 4 K6
def z27(T:Wd K mg):z0c P w K mg base CX0 1 T.x_p_longest_row.f T.x_p_longest_row.d K3 (spM (G0 K) 2 U5):=okM K6 T.x_p_longest_row.F G5 λcdv A outer s H E F hr=>by
 have h64:=hr.units
 exact(ss_cons (sst 2 G5.nd (sc0 z3n))
 (ss_cons (ss_for PassesOwn.never rfl (si_seq rfl (sv 0)) (sgn 3 G5.nd) (ss_one (ss_if (SW.sb (sw_and (sb_cmp (z3j rfl h64) (se_slice rfl (sv 1) so_none (so_some (sln T.n_len (s1 (sxc (sv 3) y1))))) (sxc (sv 3) y1) (j8 _)) (sw_and1 (SW.sb (sw_or (sb_cmp zbS (sv 2) (sc0 z3n) (j8 _)) (sw_or1 (sb_cmp z8P (sln T.n_len (s1 (sxc (sv 3) y1))) (sln T.n_len (s1 (sxc (sv 2) y1))) (j8 _)))))))) (ss_one (sst 2 G5.nd (sv 3))) ss_nil)))
 (ss_one (ss_ret (sv 2)))))
noncomputable def z0t:MS:=(Z3 (Y5 (.nm 2) (Z1 U5 [(y0 0),(y0 1)]))
 (Z3 (sIf (G7 (y2 (y0 2) (mC .non) isN)) (z0e (mCB [(mCB [] Q1),(mSl (y0 1) none (some (mC (.int 1)))),(mSl (y0 1) (some (mC (.int 1))) none)] Q1)) sNx)
 (z0e (mCB [(y2 (y0 2) (mC (.int 1)) ixD),(mCB [] Q1),(y2 (y2 (y0 2) (mC (.int 2)) ixD) (mSl (y0 1) (some (mCB [(y2 (y0 2) (mC (.int 0)) ixD)] U3)) none) v6)] Q1))))
noncomputable def U6:FM:=z1K 3 z0t
def z3l(T:Wd K mg):z0c P w K mg base CX0 2 T.x_p_read_step.f T.x_p_read_step.d z0q (spM (G0 K) 2 U6):=okM z0t T.x_p_read_step.F z1a λcdv A outer s H E F hr=>(ss_cons (sst 2 z1a.nd (scl T.x_p_longest_row (z27 T) hr (s2 (sv 0) (sv 1))))
 (ss_cons (ss_if (sb_cmp zbS (sv 2) (sc0 z3n) (j8 _)) (ss_one (ss_ret (se_tup rfl (s3 (se_tup rfl (sa_of rfl .nil)) (se_slice rfl (sv 1) so_none (so_some (sc0 y1))) (se_slice rfl (sv 1) (so_some (sc0 y1)) so_none))))) ss_nil)
 (ss_one (ss_ret (se_tup rfl (s3 (sxc (sv 2) y1) (se_tup rfl (sa_of rfl .nil)) (se_add rfl (sxc (sv 2) y1) (se_slice rfl (sv 1) (so_some (sln T.n_len (s1 (sxc (sv 2) y1)))) so_none))))))))
noncomputable def z0Q:MS:=(z0e (mCB [(J1 (Q8 (y0 0)) (.nm 0) (rt true) (z5K (y2 (mCB [(y0 1)] U3) (mCB [(y2 (y0 0) (mC (.int 0)) ixD)] U3) ltD) (y2 (mSl (y2 (y0 0) (mC (.int 0)) ixD) none (some (mCB [(y0 1)] U3))) (y0 1) eqD)) 1 [1])] zel))
noncomputable def X3:FM:=z1K 2 z0Q
def z4f(T:Wd K mg):z0c P w K mg base CX0 1 T.x_p_may_wait.f T.x_p_may_wait.d z0O (spM (G0 K) 2 X3):=okM z0Q T.x_p_may_wait.F z4e λcdv A outer s H E F hr=>by
 have h64:=hr.units
 exact(ss_one (ss_ret (se_cb rfl (zg5 rfl hr.hd) rfl T.n_any PyProof.Rows.Boot.«any» (s1 (se_comp (own:=["row"]) (frees:=["keys"]) (ix:=[1]) rfl rfl (z0F.sc (by kernel_rfl)) (si_seq rfl (sv 0)) (λ_ _ _ _ _ _ _=>(sg_name (v5 (i:=0) (show E6 (["row", "keys"]:List Str) by decide+kernel) rfl (Or.inl rfl)))) (λ_ _ _ _ _ _ _=>sts_nil) (λ_ _ _ _ _ _ _=>(se_and (se_cmp zaO (sln T.n_len (s1 (sv 1))) (sln T.n_len (s1 (sxc (sv 0) y1))) (j8 _)) (se_one (se_cmp (z3j rfl h64) (se_slice rfl (sxc (sv 0) y1) so_none (so_some (sln T.n_len (s1 (sv 1))))) (sv 1) (j8 _))))))))))
noncomputable def z2V:MS:=(Z3 (Y5 (.nm 3) (mCB [] lstM))
 (Z3 (Y5 (.nm 4) (mCB [] lstM))
 (Z3 (Y5 (.nm 5) (y2 (y0 1) (mCB [(y0 2)] Q1) v6))
 (Z3 (z18 (λ_=>1000) (z8F (z0J (y0 5)) (z7i (z0J (Z1 X3 [(y0 0),(y0 5)])))) (Z3 (Y5 (.tp [(.nm 6),(.nm 7),(.nm 5)]) (Z1 U6 [(y0 0),(y0 5)]))
 (Z3 (J8 (J2 (y0 3) [(y0 6)] z25))
 (J8 (J2 (y0 4) [(y0 7)] z25)))))
 (z0e (mCB [(y0 3),(y0 4),(y0 5)] Q1))))))
noncomputable def z0R:FM:=z1K 8 z2V
def z7p(T:Wd K mg):z0c P w K mg base CX0 3 T.x_p_press.f T.x_p_press.d z2P (spM (G0 K) 3 z0R):=okM z2V T.x_p_press.F V2 λcdv A outer s H E F hr=>(ss_cons (sst 3 V2.nd (se_lst rfl (sa_of rfl .nil)))
 (ss_cons (sst 4 V2.nd (se_lst rfl (sa_of rfl .nil)))
 (ss_cons (sst 5 V2.nd (se_add rfl (sv 1) (se_tup rfl (s1 (sv 2)))))
 (ss_cons (ss_while PassesOwn.never (SW.sb (sw_and (sb_truth rfl (sv 5)) (sw_and1 (sb_not (sb_truth rfl (scl T.x_p_may_wait (z4f T) hr (s2 (sv 0) (sv 5)))))))) (ss_cons (ss_asg (scl T.x_p_read_step (z3l T) hr (s2 (sv 0) (sv 5))) (sg_tup rfl rfl (sgs_cons (sgn 6 V2.nd) (sgs_cons (sgn 7 V2.nd) (sgs_cons (sgn 5 V2.nd) sgs_nil)))))
 (ss_cons (ss_expr (se_cl rfl PySem.F.slot_list_extend PySem.F.type_list_extend (V9 rfl) (sv 3) (s1 (sv 6))))
 (ss_one (ss_expr (se_cl rfl PySem.F.slot_list_extend PySem.F.type_list_extend (V9 rfl) (sv 4) (s1 (sv 7))))))))
 (ss_one (ss_ret (se_tup rfl (s3 (sv 3) (sv 4) (sv 5)))))))))
noncomputable def j6:MS:=(Z3 (Y5 (.nm 2) (mCB [] lstM))
 (Z3 (z01 (v7 [(y2 (mC (.int 25)) (mC (.int 1)) v6)]) (.nm 3) (Z3 (Y5 (.tp [(.nm 4),(.nm 5),(.nm 6)]) (Z1 z0R [(y0 0),(y0 1),(y0 3)]))
 (sIf (z7i (z0J (y0 5))) (J8 (J2 (y0 2) [(mCB [(y0 3),(y0 4),(y0 6)] Q1)] z2B)) sNx)))
 (z0e (y0 2))))
noncomputable def Y3:FM:=z1K 7 j6
def z08(T:Wd K mg):z0c P w K mg base CX0 4 T.x_p_presses_without_loss.f T.x_p_presses_without_loss.d j0 (spM (G0 K) 2 Y3):=okM j6 T.x_p_presses_without_loss.F Z6 λcdv A outer s H E F hr=>(ss_cons (sst 2 Z6.nd (se_lst rfl (sa_of rfl .nil)))
 (ss_cons (ss_for PassesOwn.never rfl (si_rng1 rfl T.n_range (s1 (se_add rfl (se_c rfl (zcy (v:= .int 25) rfl T.c_LAST_KEY.choose_spec ⟨_,rfl⟩)) (sc0 y1)))) (sgn 3 Z6.nd) (ss_cons (ss_asg (scl T.x_p_press (z7p T) hr (s3 (sv 0) (sv 1) (sv 3))) (sg_tup rfl rfl (sgs_cons (sgn 4 Z6.nd) (sgs_cons (sgn 5 Z6.nd) (sgs_cons (sgn 6 Z6.nd) sgs_nil)))))
 (ss_one (ss_if (sb_not (sb_truth rfl (sv 5))) (ss_one (ss_expr (se_cl rfl PySem.F.slot_list_append PySem.F.type_list_append V8 (sv 2) (s1 (se_tup rfl (s3 (sv 3) (sv 4) (sv 6))))))) ss_nil))))
 (ss_one (ss_ret (sv 2)))))
noncomputable def z1k:MS:=(Z3 (Y5 (.nm 2) (mCB [(mC (.int 0)),(mCB [] Q1)] Q1))
 (Z3 (Y5 (.nm 3) (v3 (y0 2) (mCB [(mC (.int 0)),(mC .non),(mC .non)] Q1)))
 (Z3 (Y5 (.nm 4) (mCB [(y0 2)] lstM))
 (Z3 (Y5 (.nm 5) z2F)
 (Z3 (Y5 (.nm 6) (mC (.int 0)))
 (Z3 (z18 (λ_=>100000) (G7 (y2 (y0 6) (mCB [(y0 4)] U3) ltD)) (Z3 (Y5 (.nm 7) (y2 (y0 4) (y0 6) ixD))
 (Z3 (Y5 (.tp [(.nm 8),(.nm 9)]) (y0 7))
 (Z3 (sIf (G7 (y2 (y0 9) (y0 5) z0o)) (z1f (Z1 Y3 [(y0 0),(y0 9)]) (y0 5) (y0 9) z3k) sNx)
 (Z3 (z01 (Q8 (y2 (y0 5) (y0 9) z15)) (.tp [(.nm 10),(.nm 11),(.nm 12)]) (Z3 (Y5 (.nm 13) (mCB [(y2 (y0 8) (mCB [(y0 11)] U3) v6),(y0 12)] Q1))
 (sIf (z8F (G7 (y2 (y0 13) (y0 3) z0o)) (G7 (y2 (mSl (y0 1) (some (y0 8)) (some (y2 (y0 8) (mCB [(y0 11)] U3) v6))) (y0 11) eqD))) (Z3 (z1f (mCB [(y2 (y2 (y2 (y0 3) (y0 7) z15) (mC (.int 0)) ixD) (mC (.int 1)) v6),(y0 7),(y0 10)] Q1) (y0 3) (y0 13) z03)
 (J8 (J2 (y0 4) [(y0 13)] z2B))) sNx)))
 (z5S 6 (mC (.int 1))))))))
 (z0e (y0 3))))))))
noncomputable def z0u:FM:=z1K 14 z1k
def z5a(T:Wd K mg):z0c P w K mg base CX0 5 T.x_p_ways_to.f T.x_p_ways_to.d z1i (spM (G0 K) 2 z0u):=okM z1k T.x_p_ways_to.F Y1 λcdv A outer s H E F hr=>by
 have h64:=hr.units
 exact(ss_cons (sst 2 Y1.nd (se_tup rfl (s2 (sc0 y1) (se_tup rfl (sa_of rfl .nil)))))
 (ss_cons (sst 3 Y1.nd (se_disp1 rfl h64 (sv 2) (se_tup rfl (s3 (sc0 y1) (sc0 z3n) (sc0 z3n)))))
 (ss_cons (sst 4 Y1.nd (se_lst rfl (s1 (sv 2))))
 (ss_cons (sst 5 Y1.nd (se_dnew rfl))
 (ss_cons (sst 6 Y1.nd (sc0 y1))
 (ss_cons (ss_while PassesOwn.never (sb_cmp zaO (sv 6) (sln T.n_len (s1 (sv 4))) (j8 _)) (ss_cons (sst 7 Y1.nd (sxx (sv 4) (sv 6)))
 (ss_cons (ss_asg (sv 7) (sg_tup rfl rfl (sgs_cons (sgn 8 Y1.nd) (sgs_cons (sgn 9 Y1.nd) sgs_nil))))
 (ss_cons (ss_if (sb_cmp (z40 h64) (sv 9) (sv 5) (by with_unfolding_all rfl)) (ss_one (ss_dputL h64 (scl T.x_p_presses_without_loss (z08 T) hr (s2 (sv 0) (sv 9))) (sv 5) (sv 9))) ss_nil)
 (ss_cons (ss_for PassesOwn.never rfl (si_seq rfl (se_dgt rfl h64 (sv 5) (sv 9) (λ_ _=>rfl))) (sg_tup rfl rfl (sgs_cons (sgn 10 Y1.nd) (sgs_cons (sgn 11 Y1.nd) (sgs_cons (sgn 12 Y1.nd) sgs_nil)))) (ss_cons (sst 13 Y1.nd (se_tup rfl (s2 (se_add rfl (sv 8) (sln T.n_len (s1 (sv 11)))) (sv 12))))
 (ss_one (ss_if (SW.sb (sw_and (sb_cmp (z40 h64) (sv 13) (sv 3) (by with_unfolding_all rfl)) (sw_and1 (sb_cmp (z3j rfl h64) (se_slice rfl (sv 1) (so_some (sv 8)) (so_some (se_add rfl (sv 8) (sln T.n_len (s1 (sv 11)))))) (sv 11) (j8 _))))) (ss_cons (ss_dput h64 (se_tup rfl (s3 (se_add rfl (sxc (se_dgt rfl h64 (sv 3) (sv 7) (λ_ _=>rfl)) y1) (sc0 y1)) (sv 7) (sv 10))) (sv 3) (sv 13))
 (ss_one (ss_expr (se_cl rfl PySem.F.slot_list_append PySem.F.type_list_append V8 (sv 4) (s1 (sv 13)))))) ss_nil))))
 (ss_one (ss_augI (i:=6) Y1.nd rfl (Or.inl rfl) (by first|exact .inl rfl|exact .inr rfl) (sc0 y1))))))))
 (ss_one (ss_ret (sv 3)))))))))
noncomputable def V4:MS:=(Z3 (Y5 (.nm 2) (Z1 z0u [(y0 0),(y0 1)]))
 (z0e (mCB [(J1 (z5U (y0 2)) (.tp [(.tp [(.nm 1),(.nm 2)]),(.nm 0)]) (rt true) (mCB [(y0 1),(y0 2),(y2 (y0 0) (mC (.int 0)) ixD)] Q1) 3 [])] zbZ)))
noncomputable def j7:FM:=z1K 3 V4
def z1w(T:Wd K mg):z0c P w K mg base CX0 6 T.x_p_key_standings.f T.x_p_key_standings.d V1 (spM (G0 K) 2 j7):=okM V4 T.x_p_key_standings.F z06 λcdv A outer s H E F hr=>by
 have h64:=hr.units
 exact(ss_cons (sst 2 z06.nd (scl T.x_p_ways_to (z5a T) hr (s2 (sv 0) (sv 1))))
 (ss_one (ss_ret (se_cb rfl (zc0 rfl h64) rfl T.n_sorted PyProof.Rows.Boot.«sorted» (s1 (se_compDI (own:=["way", "place", "waiting"]) (frees:=[]) (ix:=[]) rfl rfl (z0F.sc (by kernel_rfl)) (sv 2) (λ_ _ _ _ _ _ _=>(sg_tup rfl rfl (sgs_cons (sg_tup rfl rfl (sgs_cons (sg_name (v5 (i:=1) (show E6 (["way", "place", "waiting"]:List Str) by decide+kernel) rfl (Or.inl rfl))) (sgs_cons (sg_name (v5 (i:=2) (show E6 (["way", "place", "waiting"]:List Str) by decide+kernel) rfl (Or.inl rfl))) sgs_nil))) (sgs_cons (sg_name (v5 (i:=0) (show E6 (["way", "place", "waiting"]:List Str) by decide+kernel) rfl (Or.inl rfl))) sgs_nil)))) (λ_ _ _ _ _ _ _=>sts_nil) (λ_ _ _ _ _ _ _=>(se_tup rfl (s3 (sv 1) (sv 2) (sxc (sv 0) y1))))))))))
noncomputable def z61:MS:=(Z3 (Y5 (.nm 2) (mC (.int 0)))
 (Z3 (sIf (G7 (y2 (y0 1) (mCB [(y0 0)] U3) ltD)) (Y5 (.nm 2) (mCB [(y2 (y0 0) (y0 1) ixD)] zej)) sNx)
 (Z3 (Y5 (.nm 3) (y2 (y2 (y2 (y2 (y2 (y0 2) (mC (.int 2147483629)) z24) (y2 (mC (.int 104729)) (y0 1) z7h) v6) (mC (.int 17)) v6) (mC (.int 5)) zaB) (mC (.int 2147483647)) z24))
 (Z3 (z01 (v7 [(mCB [(mCB [(y0 0)] U3),(mC (.int 60))] zdi)]) (.nm 4) (Y5 (.nm 3) (y2 (y2 (y2 (y2 (y0 3) (mC (.int 48271)) z7h) (y2 (y2 (y2 (y0 0) (y0 4) ixD) (mC (.int 2147483587)) z24) (y2 (y0 4) (mC (.int 3)) v6) z7h) v6) (y0 4) v6) (mC (.int 2147483629)) z24)))
 (Z3 (sIf (G7 (y2 (y0 2) (y2 (mC (.int 10)) (mC (.int 18)) zaB) ltD)) (Y5 (.nm 2) (mC (.int 0))) sNx)
 (z0e (mCB [(y0 2),(y0 3)] lstM)))))))
noncomputable def z2W:FM:=z1K 5 z61
def zb0(T:Wd K mg):z0c P w K mg base CX0 1 T.x_l_bag.f T.x_l_bag.d z5Z (spM (G0 K) 2 z2W):=okM z61 T.x_l_bag.F z0r λcdv A outer s H E F hr=>(ss_cons (sst 2 z0r.nd (sc0 y1))
 (ss_cons (ss_if (sb_cmp zaO (sv 1) (sln T.n_len (s1 (sv 0))) (j8 _)) (ss_one (sst 2 z0r.nd (se_cb rfl zg3 rfl T.n_abs PyProof.Rows.Boot.«abs» (s1 (sxx (sv 0) (sv 1)))))) ss_nil)
 (ss_cons (sst 3 z0r.nd (se_mod rfl (se_pow rfl (se_add rfl (se_add rfl (se_mod rfl (sv 2) (sc0 y1)) (se_mul rfl (sc0 y1) (sv 1))) (sc0 y1)) (sc0 y1)) (sc0 y1)))
 (ss_cons (ss_for PassesOwn.never rfl (si_rng1 rfl T.n_range (s1 (se_cb rfl (zbT rfl) rfl T.n_min PyProof.Rows.Boot.«min» (s2 (sln T.n_len (s1 (sv 0))) (sc0 y1))))) (sgn 4 z0r.nd) (ss_one (sst 3 z0r.nd (se_mod rfl (se_add rfl (se_add rfl (se_mul rfl (sv 3) (sc0 y1)) (se_mul rfl (se_mod rfl (sxx (sv 0) (sv 4)) (sc0 y1)) (se_add rfl (sv 4) (sc0 y1)))) (sv 4)) (sc0 y1)))))
 (ss_cons (ss_if (sb_cmp zaO (sv 2) (se_pow rfl (sc0 y1) (sc0 y1)) (j8 _)) (ss_one (sst 2 z0r.nd (sc0 y1))) ss_nil)
 (ss_one (ss_ret (se_lst rfl (s2 (sv 2) (sv 3))))))))))
noncomputable def z4g:MS:=(Z3 (sIf (G7 (y2 (y2 (y0 0) (mC (.int 0)) ixD) (mC (.int 0)) gtD)) (Z3 (Y5 (.nm 2) (y2 (y2 (y0 0) (mC (.int 0)) ixD) (y0 1) z24))
 (Z3 (z1f (y2 (y2 (y0 0) (mC (.int 0)) ixD) (y0 1) z3g) (y0 0) (mC (.int 0)) zbR)
 (z0e (y0 2)))) sNx)
 (Z3 (z1f (y2 (y2 (y2 (y2 (y0 0) (mC (.int 1)) ixD) (mC (.int 48271)) z7h) (mC (.int 7919)) v6) (mC (.int 2147483647)) z24) (y0 0) (mC (.int 1)) zbR)
 (z0e (y2 (y2 (y2 (y2 (y2 (y2 (y2 (y0 0) (mC (.int 1)) ixD) (mC (.int 3)) zaB) (mC (.int 2147483587)) z24) (mC (.int 7)) z3g) (mC (.int 69621)) z7h) (mC (.int 1073741789)) z24) (y0 1) z24))))
noncomputable def y3:FM:=z1K 3 z4g
def Y0(T:Wd K mg):z0c P w K mg base CX0 1 T.x_l_take.f T.x_l_take.d z4a (spM (G0 K) 2 y3):=okM z4g T.x_l_take.F z59 λcdv A outer s H E F hr=>(ss_cons (ss_if (sb_cmp z8P (sxc (sv 0) y1) (sc0 y1) (j8 _)) (ss_cons (sst 2 z59.nd (se_mod rfl (sxc (sv 0) y1) (sv 1)))
 (ss_cons (ss_setI (se_fdiv rfl (sxc (sv 0) y1) (sv 1)) (sv 0) (sc0 y1) (λ{to ti} h1 h2=>zbx h1 h2 z6q))
 (ss_one (ss_ret (sv 2))))) ss_nil)
 (ss_cons (ss_setI (se_mod rfl (se_add rfl (se_mul rfl (sxc (sv 0) y1) (sc0 y1)) (sc0 y1)) (sc0 y1)) (sv 0) (sc0 y1) (λ{to ti} h1 h2=>zbx h1 h2 z6q))
 (ss_one (ss_ret (se_mod rfl (se_mod rfl (se_mul rfl (se_fdiv rfl (se_mod rfl (se_pow rfl (sxc (sv 0) y1) (sc0 y1)) (sc0 y1)) (sc0 y1)) (sc0 y1)) (sc0 y1)) (sv 1))))))
noncomputable def z2X:MS:=(Z3 (Y5 (.nm 1) (y2 (Z1 y3 [(y0 0),(mC (.int 8))]) (mC (.int 7)) z3g))
 (Z3 (Y5 (.nm 2) (y2 (mCB [(y2 (mC (.int 1)) (Z1 y3 [(y0 0),(mC (.int 4))]) v6),(mC (.int 26))] lstM) (y0 1) ixD))
 (Z3 (Y5 (.nm 3) (Z1 y3 [(y0 0),(mC (.int 26))]))
 (Z3 (Y5 (.nm 4) (y2 (mCB [(mC (.int 3)),(mC (.int 40))] lstM) (Z1 y3 [(y0 0),(mC (.int 2))]) ixD))
 (Z3 (Y5 (.nm 5) z2F)
 (Z3 (sIf (G7 (y2 (Z1 y3 [(y0 0),(mC (.int 2))]) (mC (.int 0)) eqD)) (z01 (v7 [(y0 2)]) (.nm 6) (z1f (mCB [(mCB [(Z1 y3 [(y0 0),(y0 4)])] Q1),(mCB [] Q1)] Q1) (y0 5) (mCB [(y2 (y2 (y0 3) (y0 6) v6) (mC (.int 26)) z24)] Q1) z03)) sNx)
 (Z3 (z01 (v7 [(y2 (mCB [(Z1 y3 [(y0 0),(mC (.int 8))]),(mC (.int 40))] lstM) (y0 1) ixD)]) (.nm 7) (Z3 (Y5 (.nm 8) (mCB [(J1 (v7 [(y2 (mC (.int 1)) (Z1 y3 [(y0 0),(mC (.int 4))]) v6)]) (.nm 0) (rt true) (y2 (y2 (y0 1) (Z1 y3 [(y0 2),(y0 3)]) v6) (mC (.int 26)) z24) 1 [3,0,2])] z6z))
 (Z3 (Y5 (.nm 9) (mCB [(J1 (v7 [(Z1 y3 [(y0 0),(mC (.int 4))])]) (.nm 0) (rt true) (Z1 y3 [(y0 1),(y0 2)]) 1 [0,4])] z6z))
 (Z3 (Y5 (.nm 10) (mCB [(J1 (v7 [(Z1 y3 [(y0 0),(mCB [(y0 8)] U3)])]) (.nm 0) (rt true) (y2 (y2 (y0 1) (Z1 y3 [(y0 2),(y0 3)]) v6) (mC (.int 26)) z24) 1 [3,0,2])] z6z))
 (z1f (mCB [(y0 9),(y0 10)] Q1) (y0 5) (y0 8) z03)))))
 (z0e (mSl (J1 (K0 (y0 5)) (.nm 0) (rt true) (y2 (mCB [(y0 0)] Q1) (y2 (y0 1) (y0 0) z15) v6) 1 [5]) none (some (mC (.int 40))))))))))))
noncomputable def z0h:FM:=z1K 11 z2X
def z7q(T:Wd K mg):z0c P w K mg base CX0 2 T.x_l_table.f T.x_l_table.d z2Q (spM (G0 K) 1 z0h):=okM z2X T.x_l_table.F j3 λcdv A outer s H E F hr=>by
 have h64:=hr.units
 exact(ss_cons (sst 1 j3.nd (se_fdiv rfl (scl T.x_l_take (Y0 T) hr (s2 (sv 0) (sc0 y1))) (sc0 y1)))
 (ss_cons (ss_set (λ{te} h=>z2j (i:=2) j3.nd rfl (Or.inr rfl) h) (sxx (se_lst rfl (s2 (se_add rfl (sc0 y1) (scl T.x_l_take (Y0 T) hr (s2 (sv 0) (sc0 y1)))) (sc0 y1))) (sv 1)))
 (ss_cons (ss_set (λ{te} h=>z2j (i:=3) j3.nd rfl (Or.inr rfl) h) (scl T.x_l_take (Y0 T) hr (s2 (sv 0) (sc0 y1))))
 (ss_cons (ss_set (λ{te} h=>z2j (i:=4) j3.nd rfl (Or.inr rfl) h) (sxx (se_lst rfl (s2 (sc0 y1) (sc0 y1))) (scl T.x_l_take (Y0 T) hr (s2 (sv 0) (sc0 y1)))))
 (ss_cons (ss_set (λ{te} h=>z2j (i:=5) j3.nd rfl (Or.inr rfl) h) (se_dnew rfl))
 (ss_cons (ss_if (sb_cmp (z3j rfl h64) (scl T.x_l_take (Y0 T) hr (s2 (sv 0) (sc0 y1))) (sc0 y1) (j8 _)) (ss_one (ss_for PassesOwn.never rfl (si_rng1 rfl T.n_range (s1 (sv 2))) (sgn 6 j3.nd) (ss_one (ss_dput h64 (se_tup rfl (s2 (se_tup rfl (s1 (scl T.x_l_take (Y0 T) hr (s2 (sv 0) (sv 4))))) (se_tup rfl (sa_of rfl .nil)))) (sv 5) (se_tup rfl (s1 (se_mod rfl (se_add rfl (sv 3) (sv 6)) (sc0 y1)))))))) ss_nil)
 (ss_cons (ss_for PassesOwn.never rfl (si_rng1 rfl T.n_range (s1 (sxx (se_lst rfl (s2 (scl T.x_l_take (Y0 T) hr (s2 (sv 0) (sc0 y1))) (sc0 y1))) (sv 1)))) (sgn 7 j3.nd) (ss_cons (sst 8 j3.nd (se_ct rfl (z2e rfl) rfl T.n_tuple PyProof.Rows.Boot.«tuple» (s1 (se_comp (own:=["_law_k"]) (frees:=["_law_first", "_law_bag_here", "_law_letters"]) (ix:=[3,0,2]) rfl rfl (z0F.sc (by kernel_rfl)) (si_rng1 rfl T.n_range (s1 (se_add rfl (sc0 y1) (scl T.x_l_take (Y0 T) hr (s2 (sv 0) (sc0 y1)))))) (λ_ _ _ _ _ _ _=>(sg_name (v5 (i:=0) (show E6 (["_law_k", "_law_first", "_law_bag_here", "_law_letters"]:List Str) by decide+kernel) rfl (Or.inl rfl)))) (λ_ _ _ _ _ _ _=>sts_nil) (λ_ _ _ _ _ _ _=>(se_mod rfl (se_add rfl (sv 1) (scl T.x_l_take (Y0 T) hr (s2 (sv 2) (sv 3)))) (sc0 y1)))))))
 (ss_cons (sst 9 j3.nd (se_ct rfl (z2e rfl) rfl T.n_tuple PyProof.Rows.Boot.«tuple» (s1 (se_comp (own:=["_law_k"]) (frees:=["_law_bag_here", "_law_top"]) (ix:=[0,4]) rfl rfl (z0F.sc (by kernel_rfl)) (si_rng1 rfl T.n_range (s1 (scl T.x_l_take (Y0 T) hr (s2 (sv 0) (sc0 y1))))) (λ_ _ _ _ _ _ _=>(sg_name (v5 (i:=0) (show E6 (["_law_k", "_law_bag_here", "_law_top"]:List Str) by decide+kernel) rfl (Or.inl rfl)))) (λ_ _ _ _ _ _ _=>sts_nil) (λ_ _ _ _ _ _ _=>(scl T.x_l_take (Y0 T) hr (s2 (sv 1) (sv 2))))))))
 (ss_cons (sst 10 j3.nd (se_ct rfl (z2e rfl) rfl T.n_tuple PyProof.Rows.Boot.«tuple» (s1 (se_comp (own:=["_law_k"]) (frees:=["_law_first", "_law_bag_here", "_law_letters"]) (ix:=[3,0,2]) rfl rfl (z0F.sc (by kernel_rfl)) (si_rng1 rfl T.n_range (s1 (scl T.x_l_take (Y0 T) hr (s2 (sv 0) (sln T.n_len (s1 (sv 8))))))) (λ_ _ _ _ _ _ _=>(sg_name (v5 (i:=0) (show E6 (["_law_k", "_law_first", "_law_bag_here", "_law_letters"]:List Str) by decide+kernel) rfl (Or.inl rfl)))) (λ_ _ _ _ _ _ _=>sts_nil) (λ_ _ _ _ _ _ _=>(se_mod rfl (se_add rfl (sv 1) (scl T.x_l_take (Y0 T) hr (s2 (sv 2) (sv 3)))) (sc0 y1)))))))
 (ss_one (ss_dput h64 (se_tup rfl (s2 (sv 9) (sv 10))) (sv 5) (sv 8)))))))
 (ss_one (ss_ret (se_slice rfl (se_compD (own:=["_law_keys"]) (frees:=["_law_found"]) (ix:=[5]) rfl rfl (z0F.sc (by kernel_rfl)) (sv 5) (λ_ _ _ _ _ _ _=>(sg_name (v5 (i:=0) (show E6 (["_law_keys", "_law_found"]:List Str) by decide+kernel) rfl (Or.inl rfl)))) (λ_ _ _ _ _ _ _=>sts_nil) (λ_ _ _ _ _ _ _=>(se_add rfl (se_tup rfl (s1 (sv 0))) (se_dgt rfl h64 (sv 1) (sv 0) (λ_ _=>rfl))))) so_none (so_some (sc0 y1))))))))))))
noncomputable def z1l:MS:=(Z3 (Y5 (.nm 3) (mCB [(mC (.int 0))] lstM))
 (Z3 (z01 (Q8 (y0 1)) (.tp [(.nm 4),(.nm 5),(.nm 6)]) (J8 (J2 (y0 3) [(y0 4)] z25)))
 (Z3 (Y5 (.nm 7) (mCB [] lstM))
 (Z3 (z01 (v7 [(Z1 y3 [(y0 0),(y2 (y0 2) (mC (.int 1)) v6)])]) (.nm 8) (Z3 (Y5 (.nm 9) (mCB [(y2 (Z1 y3 [(y0 0),(mC (.int 8))]) (mC (.int 7)) eqD)] za4))
 (J8 (J2 (y0 7) [(y2 (mCB [(y2 (y0 3) (Z1 y3 [(y0 0),(mCB [(y0 3)] U3)]) ixD),(Z1 y3 [(y0 0),(mC (.int 26))])] lstM) (y0 9) ixD)] z2B))))
 (z0e (y0 7))))))
noncomputable def z0v:FM:=z1K 10 z1l
def z5b(T:Wd K mg):z0c P w K mg base CX0 2 T.x_l_pressed.f T.x_l_pressed.d z1j (spM (G0 K) 3 z0v):=okM z1l T.x_l_pressed.F J0 λcdv A outer s H E F hr=>by
 have h64:=hr.units
 exact(ss_cons (sst 3 J0.nd (se_lst rfl (s1 (sc0 y1))))
 (ss_cons (ss_for PassesOwn.never rfl (si_seq rfl (sv 1)) (sg_tup rfl rfl (sgs_cons (sgn 4 J0.nd) (sgs_cons (sgn 5 J0.nd) (sgs_cons (sgn 6 J0.nd) sgs_nil)))) (ss_one (ss_expr (se_cl rfl PySem.F.slot_list_extend PySem.F.type_list_extend (V9 rfl) (sv 3) (s1 (sv 4))))))
 (ss_cons (sst 7 J0.nd (se_lst rfl (sa_of rfl .nil)))
 (ss_cons (ss_for PassesOwn.never rfl (si_rng1 rfl T.n_range (s1 (scl T.x_l_take (Y0 T) hr (s2 (sv 0) (se_add rfl (sv 2) (sc0 y1)))))) (sgn 8 J0.nd) (ss_cons (sst 9 J0.nd (se_ct rfl z8R rfl T.n_int PyProof.Rows.Boot.«int» (s1 (se_cmp (z3j rfl h64) (scl T.x_l_take (Y0 T) hr (s2 (sv 0) (sc0 y1))) (sc0 y1) (j8 _)))))
 (ss_one (ss_expr (se_cl rfl PySem.F.slot_list_append PySem.F.type_list_append V8 (sv 7) (s1 (sxx (se_lst rfl (s2 (sxx (sv 3) (scl T.x_l_take (Y0 T) hr (s2 (sv 0) (sln T.n_len (s1 (sv 3)))))) (scl T.x_l_take (Y0 T) hr (s2 (sv 0) (sc0 y1))))) (sv 9))))))))
 (ss_one (ss_ret (sv 7)))))))
noncomputable def z4h:MS:=(Z3 (Y5 (.nm 2) (mCB [] Q1))
 (Z3 (Y5 (.nm 3) (mCB [] Q1))
 (Z3 (Y5 (.nm 4) (mCB [] Q1))
 (Z3 (z01 (Q8 (y0 0)) (.nm 5) (sIf (z8F (G7 (y2 (mCB [(y2 (y0 5) (mC (.int 0)) ixD)] U3) (mCB [(y0 2)] U3) gtD)) (G7 (y2 (mSl (y0 1) none (some (mCB [(y2 (y0 5) (mC (.int 0)) ixD)] U3))) (y2 (y0 5) (mC (.int 0)) ixD) eqD))) (Y5 (.tp [(.nm 2),(.nm 3),(.nm 4)]) (y0 5)) sNx))
 (Z3 (sIf (G7 (y2 (y0 2) (mCB [] Q1) eqD)) (z0e (mCB [(mCB [] lstM),(mCB [(y2 (y0 1) (mC (.int 0)) ixD)] lstM),(mSl (y0 1) (some (mC (.int 1))) none)] Q1)) sNx)
 (z0e (mCB [(mCB [(y0 3)] z3i),(mCB [] lstM),(y2 (y0 4) (mSl (y0 1) (some (mCB [(y0 2)] U3)) none) v6)] Q1)))))))
noncomputable def z0w:FM:=z1K 6 z4h
def z5c(T:Wd K mg):z0c P w K mg base CX0 1 T.x_l_step.f T.x_l_step.d z4b (spM (G0 K) 2 z0w):=okM z4h T.x_l_step.F X2 λcdv A outer s H E F hr=>by
 have h64:=hr.units
 exact(ss_cons (sst 2 X2.nd (se_tup rfl (sa_of rfl .nil)))
 (ss_cons (sst 3 X2.nd (se_tup rfl (sa_of rfl .nil)))
 (ss_cons (sst 4 X2.nd (se_tup rfl (sa_of rfl .nil)))
 (ss_cons (ss_for PassesOwn.never rfl (si_seq rfl (sv 0)) (sgn 5 X2.nd) (ss_one (ss_if (SW.sb (sw_and (sb_cmp z8P (sln T.n_len (s1 (sxc (sv 5) y1))) (sln T.n_len (s1 (sv 2))) (j8 _)) (sw_and1 (sb_cmp (z3j rfl h64) (se_slice rfl (sv 1) so_none (so_some (sln T.n_len (s1 (sxc (sv 5) y1))))) (sxc (sv 5) y1) (j8 _))))) (ss_one (ss_asg (sv 5) (sg_tup rfl rfl (sgs_cons (sgn 2 X2.nd) (sgs_cons (sgn 3 X2.nd) (sgs_cons (sgn 4 X2.nd) sgs_nil)))))) ss_nil)))
 (ss_cons (ss_if (sb_cmp (z3j rfl h64) (sv 2) (se_tup rfl (sa_of rfl .nil)) (j8 _)) (ss_one (ss_ret (se_tup rfl (s3 (se_lst rfl (sa_of rfl .nil)) (se_lst rfl (s1 (sxc (sv 1) y1))) (se_slice rfl (sv 1) (so_some (sc0 y1)) so_none))))) ss_nil)
 (ss_one (ss_ret (se_tup rfl (s3 (se_ct rfl (z5P rfl) rfl T.n_list PyProof.Rows.Boot.«list» (s1 (sv 3))) (se_lst rfl (sa_of rfl .nil)) (se_add rfl (sv 4) (se_slice rfl (sv 1) (so_some (sln T.n_len (s1 (sv 2)))) so_none)))))))))))
noncomputable def z4i:MS:=(Z3 (Y5 (.nm 2) (mCB [] lstM))
 (Z3 (Y5 (.nm 3) (mCB [] lstM))
 (Z3 (Y5 (.nm 4) (mCB [(y0 1)] z6z))
 (Z3 (z18 (λ_=>1000) (G7 (y2 (y0 4) (mCB [] Q1) neD)) (Z3 (Y5 (.tp [(.nm 5),(.nm 6),(.nm 4)]) (Z1 z0w [(y0 0),(y0 4)]))
 (Z3 (J8 (J2 (y0 2) [(y0 5)] z25))
 (J8 (J2 (y0 3) [(y0 6)] z25)))))
 (z0e (mCB [(y0 2),(y0 3)] Q1))))))
noncomputable def z2f:FM:=z1K 7 z4i
def z9d(T:Wd K mg):z0c P w K mg base CX0 2 T.x_l_read.f T.x_l_read.d z4c (spM (G0 K) 2 z2f):=okM z4i T.x_l_read.F K5 λcdv A outer s H E F hr=>by
 have h64:=hr.units
 exact(ss_cons (sst 2 K5.nd (se_lst rfl (sa_of rfl .nil)))
 (ss_cons (sst 3 K5.nd (se_lst rfl (sa_of rfl .nil)))
 (ss_cons (sst 4 K5.nd (se_ct rfl (z2e rfl) rfl T.n_tuple PyProof.Rows.Boot.«tuple» (s1 (sv 1))))
 (ss_cons (ss_while PassesOwn.never (sb_cmp (z8Q rfl h64) (sv 4) (se_tup rfl (sa_of rfl .nil)) (j8 _)) (ss_cons (ss_asg (scl T.x_l_step (z5c T) hr (s2 (sv 0) (sv 4))) (sg_tup rfl rfl (sgs_cons (sgn 5 K5.nd) (sgs_cons (sgn 6 K5.nd) (sgs_cons (sgn 4 K5.nd) sgs_nil)))))
 (ss_cons (ss_expr (se_cl rfl PySem.F.slot_list_extend PySem.F.type_list_extend (V9 rfl) (sv 2) (s1 (sv 5))))
 (ss_one (ss_expr (se_cl rfl PySem.F.slot_list_extend PySem.F.type_list_extend (V9 rfl) (sv 3) (s1 (sv 6))))))))
 (ss_one (ss_ret (se_tup rfl (s2 (sv 2) (sv 3)))))))))
noncomputable def z1R:MS:=(Z3 (Y5 (.nm 1) (v3 (mCB [] Q1) (mC (.bool true))))
 (Z3 (z01 (Q8 (y0 0)) (.nm 2) (z01 (z5L [(mC (.int 1)),(mCB [(y2 (y0 2) (mC (.int 0)) ixD)] U3)]) (.nm 3) (z1f (mC (.bool true)) (y0 1) (mSl (y2 (y0 2) (mC (.int 0)) ixD) none (some (y0 3))) z03)))
 (z0e (y0 1))))
noncomputable def z0i:FM:=z1K 4 z1R
def z62(T:Wd K mg):z0c P w K mg base CX0 1 T.x_l_starts.f T.x_l_starts.d z1P (spM (G0 K) 1 z0i):=okM z1R T.x_l_starts.F z0s λcdv A outer s H E F hr=>by
 have h64:=hr.units
 exact(ss_cons (sst 1 z0s.nd (se_disp1 rfl h64 (se_tup rfl (sa_of rfl .nil)) (sc0 z5y)))
 (ss_cons (ss_for PassesOwn.never rfl (si_seq rfl (sv 0)) (sgn 2 z0s.nd) (ss_one (ss_for PassesOwn.never rfl (si_rng2 rfl T.n_range (s2 (sc0 y1) (sln T.n_len (s1 (sxc (sv 2) y1))))) (sgn 3 z0s.nd) (ss_one (ss_dput h64 (sc0 z5y) (sv 1) (se_slice rfl (sxc (sv 2) y1) so_none (so_some (sv 3))))))))
 (ss_one (ss_ret (sv 1)))))
noncomputable def z2Y:MS:=(Z3 (Y5 (.nm 4) (mCB [] lstM))
 (Z3 (Y5 (.nm 5) (mCB [] lstM))
 (Z3 (Y5 (.nm 6) (y2 (y0 2) (mCB [(y0 3)] Q1) v6))
 (Z3 (z18 (λ_=>1000) (G7 (y2 (y0 6) (y0 1) z0o)) (Z3 (Y5 (.tp [(.nm 7),(.nm 8),(.nm 6)]) (Z1 z0w [(y0 0),(y0 6)]))
 (Z3 (J8 (J2 (y0 4) [(y0 7)] z25))
 (J8 (J2 (y0 5) [(y0 8)] z25)))))
 (z0e (mCB [(y0 4),(y0 5),(y0 6)] Q1))))))
noncomputable def z0S:FM:=z1K 9 z2Y
def z7r(T:Wd K mg):z0c P w K mg base CX0 2 T.x_l_press.f T.x_l_press.d z2R (spM (G0 K) 4 z0S):=okM z2Y T.x_l_press.F V3 λcdv A outer s H E F hr=>by
 have h64:=hr.units
 exact(ss_cons (sst 4 V3.nd (se_lst rfl (sa_of rfl .nil)))
 (ss_cons (sst 5 V3.nd (se_lst rfl (sa_of rfl .nil)))
 (ss_cons (sst 6 V3.nd (se_add rfl (sv 2) (se_tup rfl (s1 (sv 3)))))
 (ss_cons (ss_while PassesOwn.never (sb_cmp (z40 h64) (sv 6) (sv 1) (by with_unfolding_all rfl)) (ss_cons (ss_asg (scl T.x_l_step (z5c T) hr (s2 (sv 0) (sv 6))) (sg_tup rfl rfl (sgs_cons (sgn 7 V3.nd) (sgs_cons (sgn 8 V3.nd) (sgs_cons (sgn 6 V3.nd) sgs_nil)))))
 (ss_cons (ss_expr (se_cl rfl PySem.F.slot_list_extend PySem.F.type_list_extend (V9 rfl) (sv 4) (s1 (sv 7))))
 (ss_one (ss_expr (se_cl rfl PySem.F.slot_list_extend PySem.F.type_list_extend (V9 rfl) (sv 5) (s1 (sv 8))))))))
 (ss_one (ss_ret (se_tup rfl (s3 (sv 4) (sv 5) (sv 6)))))))))
noncomputable def z2Z:MS:=(z0e (z5K (za5 "int" (y0 0)) (z8G (za5 "bool" (y0 0)))))
noncomputable def z0j:FM:=z1K 1 z2Z
def z7s(T:Wd K mg):z0c P w K mg base CX0 1 T.x_l_whole.f T.x_l_whole.d z2S (spM (G0 K) 1 z0j):=okM z2Z T.x_l_whole.F z7o λcdv A outer s H E F hr=>(ss_one (ss_ret (se_and (se_isi rfl (by decide) rfl T.n_isinstance (sv 0) (z2i (v:= .ty "int") rfl T.n_int PyProof.Rows.Boot.«int» rfl)) (se_one (se_not (se_isi rfl (by decide) rfl T.n_isinstance (sv 0) (z2i (v:= .ty "bool") rfl T.n_bool PyProof.Rows.Boot.«bool» rfl)))))))
noncomputable def z1S:MS:=(Z3 (Y5 (.nm 3) (Z1 y3 [(y0 0),(mC (.int 3))]))
 (Z3 (Y5 (.nm 4) (mCB [(mC (.int 0))] lstM))
 (Z3 (z01 (Q8 (y0 1)) (.tp [(.nm 5),(.nm 6),(.nm 7)]) (J8 (J2 (y0 4) [(y0 6)] z25)))
 (Z3 (Y5 (.nm 8) (Z1 y3 [(y0 0),(y2 (y0 2) (mC (.int 1)) v6)]))
 (Z3 (sIf (G7 (y2 (y0 3) (mC (.int 0)) gtD)) (z0e (mSl (y2 (Z1 z2f [(y0 1),(Z1 z0v [(y0 0),(y0 1),(mC (.int 60))])]) (mC (.int 0)) ixD) none (some (y0 8)))) sNx)
 (Z3 (Y5 (.nm 9) (mCB [] lstM))
 (Z3 (z01 (v7 [(y0 8)]) (.nm 10) (Z3 (Y5 (.nm 11) (mCB [(y2 (Z1 y3 [(y0 0),(mC (.int 8))]) (mC (.int 7)) eqD)] za4))
 (J8 (J2 (y0 9) [(y2 (mCB [(y2 (y0 4) (Z1 y3 [(y0 0),(mCB [(y0 4)] U3)]) ixD),(Z1 y3 [(y0 0),(mC (.int 40))])] lstM) (y0 11) ixD)] z2B))))
 (z0e (y0 9)))))))))
noncomputable def X8:FM:=z1K 12 z1S
def z63(T:Wd K mg):z0c P w K mg base CX0 3 T.x_l_sounds.f T.x_l_sounds.d z1Q (spM (G0 K) 3 X8):=okM z1S T.x_l_sounds.F Q5 λcdv A outer s H E F hr=>by
 have h64:=hr.units
 exact(ss_cons (sst 3 Q5.nd (scl T.x_l_take (Y0 T) hr (s2 (sv 0) (sc0 y1))))
 (ss_cons (sst 4 Q5.nd (se_lst rfl (s1 (sc0 y1))))
 (ss_cons (ss_for PassesOwn.never rfl (si_seq rfl (sv 1)) (sg_tup rfl rfl (sgs_cons (sgn 5 Q5.nd) (sgs_cons (sgn 6 Q5.nd) (sgs_cons (sgn 7 Q5.nd) sgs_nil)))) (ss_one (ss_expr (se_cl rfl PySem.F.slot_list_extend PySem.F.type_list_extend (V9 rfl) (sv 4) (s1 (sv 6))))))
 (ss_cons (sst 8 Q5.nd (scl T.x_l_take (Y0 T) hr (s2 (sv 0) (se_add rfl (sv 2) (sc0 y1)))))
 (ss_cons (ss_if (sb_cmp z8P (sv 3) (sc0 y1) (j8 _)) (ss_one (ss_ret (se_slice rfl (sxc (scl T.x_l_read (z9d T) hr (s2 (sv 1) (scl T.x_l_pressed (z5b T) hr (s3 (sv 0) (sv 1) (sc0 y1))))) y1) so_none (so_some (sv 8))))) ss_nil)
 (ss_cons (sst 9 Q5.nd (se_lst rfl (sa_of rfl .nil)))
 (ss_cons (ss_for PassesOwn.never rfl (si_rng1 rfl T.n_range (s1 (sv 8))) (sgn 10 Q5.nd) (ss_cons (sst 11 Q5.nd (se_ct rfl z8R rfl T.n_int PyProof.Rows.Boot.«int» (s1 (se_cmp (z3j rfl h64) (scl T.x_l_take (Y0 T) hr (s2 (sv 0) (sc0 y1))) (sc0 y1) (j8 _)))))
 (ss_one (ss_expr (se_cl rfl PySem.F.slot_list_append PySem.F.type_list_append V8 (sv 9) (s1 (sxx (se_lst rfl (s2 (sxx (sv 4) (scl T.x_l_take (Y0 T) hr (s2 (sv 0) (sln T.n_len (s1 (sv 4)))))) (scl T.x_l_take (Y0 T) hr (s2 (sv 0) (sc0 y1))))) (sv 11))))))))
 (ss_one (ss_ret (sv 9))))))))))
noncomputable def z30:MS:=(Z3 (Y5 (.nm 2) z8Z)
 (Z3 (z01 (Q8 (y0 0)) (.nm 3) (z01 (Q8 (y2 (y0 3) (mC (.int 0)) ixD)) (.nm 4) (z1f (mC (.bool true)) (y0 2) (y0 4) z44)))
 (Z3 (Y5 (.nm 5) z2F)
 (Z3 (z01 (K0 (y0 1)) (.nm 6) (Z3 (Y5 (.nm 7) (mCB [] lstM))
 (Z3 (z01 (Q8 (mCB [(y0 2)] zc1)) (.nm 4) (Z3 (Y5 (.tp [(.nm 8),(.nm 9),(.nm 10)]) (Z1 z0S [(y0 0),(y0 1),(y0 6),(y0 4)]))
 (sIf (G7 (y2 (y0 9) (mCB [] lstM) eqD)) (J8 (J2 (y0 7) [(mCB [(y0 4),(y0 8),(y0 10)] Q1)] z2B)) sNx)))
 (z1f (y0 7) (y0 5) (y0 6) z3k))))
 (z0e (y0 5))))))
noncomputable def z0T:FM:=z1K 11 z30
def z7t(T:Wd K mg):z0c P w K mg base CX0 3 T.x_l_steps.f T.x_l_steps.d z2T (spM (G0 K) 2 z0T):=okM z30 T.x_l_steps.F j4 λcdv A outer s H E F hr=>by
 have h64:=hr.units
 exact(ss_cons (sst 2 j4.nd (se_dnewK rfl))
 (ss_cons (ss_for PassesOwn.never rfl (si_seq rfl (sv 0)) (sgn 3 j4.nd) (ss_one (ss_for PassesOwn.never rfl (si_seq rfl (sxc (sv 3) y1)) (sgn 4 j4.nd) (ss_one (ss_dputP h64 (sc0 z5y) (sv 2) (sv 4))))))
 (ss_cons (sst 5 j4.nd (se_dnew rfl))
 (ss_cons (ss_forD PassesOwn.never rfl (sv 1) (λ_=>(sgn 6 j4.nd)) (λ_=>(ss_cons (sst 7 j4.nd (se_lst rfl (sa_of rfl .nil)))
 (ss_cons (ss_for PassesOwn.never rfl (si_seq rfl (se_cb rfl (zdw rfl hr.hd) rfl T.n_sorted PyProof.Rows.Boot.«sorted» (s1 (sv 2)))) (sgn 4 j4.nd) (ss_cons (ss_asg (scl T.x_l_press (z7r T) hr (s4 (sv 0) (sv 1) (sv 6) (sv 4))) (sg_tup rfl rfl (sgs_cons (sgn 8 j4.nd) (sgs_cons (sgn 9 j4.nd) (sgs_cons (sgn 10 j4.nd) sgs_nil)))))
 (ss_one (ss_if (sb_cmp (z3j rfl h64) (sv 9) (se_lst rfl (sa_of rfl .nil)) (j8 _)) (ss_one (ss_expr (se_cl rfl PySem.F.slot_list_append PySem.F.type_list_append V8 (sv 7) (s1 (se_tup rfl (s3 (sv 4) (sv 8) (sv 10))))))) ss_nil))))
 (ss_one (ss_dputL h64 (sv 7) (sv 5) (sv 6)))))))
 (ss_one (ss_ret (sv 5)))))))
noncomputable def z31:MS:=(Z3 (Y5 (.nm 4) (mCB [] lstM))
 (Z3 (z01 (Q8 (y2 (y0 0) (y0 3) z15)) (.tp [(.nm 5),(.nm 6),(.nm 7)]) (sIf (G7 (y2 (mSl (y0 1) (some (y0 2)) (some (y2 (y0 2) (mCB [(y0 6)] U3) v6))) (y0 6) eqD)) (J8 (J2 (y0 4) [(mCB [(y0 5),(mCB [(y2 (y0 2) (mCB [(y0 6)] U3) v6),(y0 7)] Q1)] Q1)] z2B)) sNx))
 (z0e (y0 4))))
noncomputable def z0k:FM:=z1K 8 z31
def z7u(T:Wd K mg):z0c P w K mg base CX0 1 T.x_l_goals.f T.x_l_goals.d z2U (spM (G0 K) 4 z0k):=okM z31 T.x_l_goals.F z0g λcdv A outer s H E F hr=>by
 have h64:=hr.units
 exact(ss_cons (sst 4 z0g.nd (se_lst rfl (sa_of rfl .nil)))
 (ss_cons (ss_for PassesOwn.never rfl (si_seq rfl (se_dgt rfl h64 (sv 0) (sv 3) (λ_ _=>rfl))) (sg_tup rfl rfl (sgs_cons (sgn 5 z0g.nd) (sgs_cons (sgn 6 z0g.nd) (sgs_cons (sgn 7 z0g.nd) sgs_nil)))) (ss_one (ss_if (sb_cmp (z3j rfl h64) (se_slice rfl (sv 1) (so_some (sv 2)) (so_some (se_add rfl (sv 2) (sln T.n_len (s1 (sv 6)))))) (sv 6) (j8 _)) (ss_one (ss_expr (se_cl rfl PySem.F.slot_list_append PySem.F.type_list_append V8 (sv 4) (s1 (se_tup rfl (s2 (sv 5) (se_tup rfl (s2 (se_add rfl (sv 2) (sln T.n_len (s1 (sv 6)))) (sv 7))))))))) ss_nil)))
 (ss_one (ss_ret (sv 4)))))
noncomputable def z4j:MS:=(Z3 (Y5 (.nm 2) (v3 (mCB [(mC (.int 0)),(mCB [] Q1)] Q1) (mC (.int 0))))
 (Z3 (Y5 (.nm 3) (mCB [(mCB [(mC (.int 0)),(mCB [] Q1)] Q1)] lstM))
 (Z3 (z18 (λ_=>100000) (G7 (y2 (y0 3) (mCB [] lstM) neD)) (Z3 (Y5 (.nm 4) (mCB [] lstM))
 (Z3 (z01 (Q8 (y0 3)) (.tp [(.nm 5),(.nm 6)]) (z01 (Q8 (Z1 z0k [(y0 0),(y0 1),(y0 5),(y0 6)])) (.tp [(.nm 7),(.nm 8)]) (sIf (G7 (y2 (y0 8) (y0 2) z0o)) (Z3 (z1f (y2 (y2 (y0 2) (mCB [(y0 5),(y0 6)] Q1) z15) (mC (.int 1)) v6) (y0 2) (y0 8) z03)
 (J8 (J2 (y0 4) [(y0 8)] z2B))) sNx)))
 (Y5 (.nm 3) (y0 4)))))
 (z0e (y0 2)))))
noncomputable def z1x:FM:=z1K 9 z4j
def z9e(T:Wd K mg):z0c P w K mg base CX0 2 T.x_l_ways.f T.x_l_ways.d z4d (spM (G0 K) 2 z1x):=okM z4j T.x_l_ways.F U4 λcdv A outer s H E F hr=>by
 have h64:=hr.units
 exact(ss_cons (sst 2 U4.nd (se_disp1 rfl h64 (se_tup rfl (s2 (sc0 y1) (se_tup rfl (sa_of rfl .nil)))) (sc0 y1)))
 (ss_cons (ss_setN (i:=3) U4.nd rfl (Or.inl rfl) (Or.inl rfl) (se_lst rfl (s1 (se_tup rfl (s2 (sc0 y1) (se_tup rfl (sa_of rfl .nil)))))))
 (ss_cons (ss_while PassesOwn.never (sb_cmp (z8Q rfl h64) (sv 3) (se_lst rfl (sa_of rfl .nil)) (j8 _)) (ss_cons (sst 4 U4.nd (se_lst rfl (sa_of rfl .nil)))
 (ss_cons (ss_for PassesOwn.never rfl (si_seq rfl (sv 3)) (sg_tup rfl rfl (sgs_cons (sgn 5 U4.nd) (sgs_cons (sgn 6 U4.nd) sgs_nil))) (ss_one (ss_for PassesOwn.never rfl (si_seq rfl (scl T.x_l_goals (z7u T) hr (s4 (sv 0) (sv 1) (sv 5) (sv 6)))) (sg_tup rfl rfl (sgs_cons (sgn 7 U4.nd) (sgs_cons (sgn 8 U4.nd) sgs_nil))) (ss_one (ss_if (sb_cmp (z40 h64) (sv 8) (sv 2) (by with_unfolding_all rfl)) (ss_cons (ss_dput h64 (se_add rfl (se_dgt rfl h64 (sv 2) (se_tup rfl (s2 (sv 5) (sv 6))) (λ_ _=>rfl)) (sc0 y1)) (sv 2) (sv 8))
 (ss_one (ss_expr (se_cl rfl PySem.F.slot_list_append PySem.F.type_list_append V8 (sv 4) (s1 (sv 8)))))) ss_nil)))))
 (ss_one (sst 3 U4.nd (sv 4))))))
 (ss_one (ss_ret (sv 2))))))
noncomputable def K7:MS:=(Z3 (sIf (mOr (z7i (z0J (za5 "tuple" (y0 0)))) (mOr (G7 (y2 (mCB [(y0 0)] U3) (mC (.int 3)) neD)) (z7i (z0J (za5 "tuple" (y2 (y0 0) (mC (.int 1)) ixD)))))) (z0e (mC (.bool false))) sNx)
 (z0e (mCB [(J1 (Q8 (y2 (mCB [(y2 (y0 0) (mC (.int 0)) ixD),(y2 (y0 0) (mC (.int 2)) ixD)] Q1) (y2 (y0 0) (mC (.int 1)) ixD) v6)) (.nm 0) (rt true) (Z1 z0j [(y0 0)]) 1 [])] zaD)))
noncomputable def W6:FM:=z1K 1 K7
def z28(T:Wd K mg):z0c P w K mg base CX0 2 T.x_l_is_standing.f T.x_l_is_standing.d K4 (spM (G0 K) 1 W6):=okM K7 T.x_l_is_standing.F z26 λcdv A outer s H E F hr=>by
 have h64:=hr.units
 exact(ss_cons (ss_if (SW.sb (sw_or (sb_not (sb_truth rfl (se_isi rfl (by decide) rfl T.n_isinstance (sv 0) (z2i (v:= .ty "tuple") rfl T.n_tuple PyProof.Rows.Boot.«tuple» rfl)))) (sw_or (sb_cmp (z8Q rfl h64) (sln T.n_len (s1 (sv 0))) (sc0 y1) (j8 _)) (sw_or1 (sb_not (sb_truth rfl (se_isi rfl (by decide) rfl T.n_isinstance (sxc (sv 0) y1) (z2i (v:= .ty "tuple") rfl T.n_tuple PyProof.Rows.Boot.«tuple» rfl)))))))) (ss_one (ss_ret (sc0 z5y))) ss_nil)
 (ss_one (ss_ret (se_cb rfl (zbU rfl hr.hd) rfl T.n_all PyProof.Rows.Boot.«all» (s1 (se_comp (own:=["_law_one"]) (frees:=[]) (ix:=[]) rfl rfl (z0F.sc (by kernel_rfl)) (si_seq rfl (se_add rfl (se_tup rfl (s2 (sxc (sv 0) y1) (sxc (sv 0) y1))) (sxc (sv 0) y1))) (λ_ _ _ _ _ _ _=>(sg_name (v5 (i:=0) (show E6 (["_law_one"]:List Str) by decide+kernel) rfl (Or.inl rfl)))) (λ_ _ _ _ _ _ _=>sts_nil) (λ_ _ _ _ _ _ _=>(scl T.x_l_whole (z7s T) hr (s1 (sv 0))))))))))
noncomputable def zdA:MS:=(Z3 (z01 (v7 [(mCB [(mC (.int 1)),(mCB [(mC (.int 3)),(mCB [(y0 0)] U3)] zdi)] zek)]) (.nm 1) (Z3 (Y5 (.nm 2) (Z1 z2W [(y0 0),(y0 1)]))
 (Z3 (Y5 (.nm 3) (Z1 z0h [(y0 2)]))
 (Z3 (Y5 (.nm 4) (Z1 X8 [(y0 2),(y0 3),(y2 (mCB [(mC (.int 24)),(mC (.int 6))] lstM) (mCB [(y2 (mCB [(y0 3)] U3) (mC (.int 12)) gtD)] za4) ixD)]))
 (Z3 (Y5 (.nm 5) (Z1 z1x [(Z1 z0T [(y0 3),(Z1 z0i [(y0 3)])]),(y0 4)]))
 (Z3 (Y5 (.nm 6) (mCB [(J1 (K0 (y0 5)) (.tp [(.nm 0),(.nm 1)]) (rt true) (mCB [(y0 0),(y0 1),(y2 (y0 2) (mCB [(y0 0),(y0 1)] Q1) z15)] Q1) 2 [5])] zbZ))
 (Z3 (Y5 (.nm 7) (mCB [(mCB [(y0 3)] z3i),(mCB [(y0 4)] z3i)] lstM))
 (z01 (v7 [(mC (.int 2))]) (.nm 8) (Z3 (Y5 (.nm 9) (Z1 j7 [(y2 (y0 7) (mC (.int 0)) ixD),(y2 (y0 7) (mC (.int 1)) ixD)]))
 (Z3 (sIf (mOr (z7i (z0J (za5 "list" (y0 9)))) (mOr (G7 (y2 (y0 9) (y0 6) neD)) (G7 (y2 (y0 7) (mCB [(y0 3),(y0 4)] lstM) neD)))) (z0e (mC (.bool false))) sNx)
 (Z3 (sIf (z7i (z0J (mCB [(J1 (Q8 (y0 9)) (.nm 0) (rt true) (Z1 W6 [(y0 0)]) 1 [])] zaD))) (z0e (mC (.bool false))) sNx)
 (J8 (J2 (y0 9) [(mC .non)] z2B)))))))))))))
 (z0e (mC (.bool true))))
noncomputable def f_law:FM:=z1K 10 zdA
def zgk(T:Wd K mg):z0c P w K mg base CX0 7 T.x_law.f T.x_law.d zdz (spM (G0 K) 1 f_law):=okM zdA T.x_law.F z1b λcdv A outer s H E F hr=>by
 have h64:=hr.units
 exact(ss_cons (ss_for PassesOwn.never rfl (si_rng1 rfl T.n_range (s1 (se_cb rfl (zg4 rfl) rfl T.n_max PyProof.Rows.Boot.«max» (s2 (sc0 y1) (se_cb rfl (zbT rfl) rfl T.n_min PyProof.Rows.Boot.«min» (s2 (sc0 y1) (sln T.n_len (s1 (sv 0))))))))) (sgn 1 z1b.nd) (ss_cons (sst 2 z1b.nd (scl T.x_l_bag (zb0 T) hr (s2 (sv 0) (sv 1))))
 (ss_cons (sst 3 z1b.nd (scl T.x_l_table (z7q T) hr (s1 (sv 2))))
 (ss_cons (sst 4 z1b.nd (scl T.x_l_sounds (z63 T) hr (s3 (sv 2) (sv 3) (sxx (se_lst rfl (s2 (sc0 y1) (sc0 y1))) (se_ct rfl z8R rfl T.n_int PyProof.Rows.Boot.«int» (s1 (se_cmp z8P (sln T.n_len (s1 (sv 3))) (sc0 y1) (j8 _))))))))
 (ss_cons (ss_set (λ{te} h=>z2j (i:=5) z1b.nd rfl (Or.inr rfl) h) (scl T.x_l_ways (z9e T) hr (s2 (scl T.x_l_steps (z7t T) hr (s2 (sv 3) (scl T.x_l_starts (z62 T) hr (s1 (sv 3))))) (sv 4))))
 (ss_cons (sst 6 z1b.nd (se_cb rfl (zc0 rfl h64) rfl T.n_sorted PyProof.Rows.Boot.«sorted» (s1 (se_compD (own:=["_law_place", "_law_waiting"]) (frees:=["_law_ways_here"]) (ix:=[5]) rfl rfl (z0F.sc (by kernel_rfl)) (sv 5) (λ_ _ _ _ _ _ _=>(sg_tup rfl rfl (sgs_cons (sg_name (v5 (i:=0) (show E6 (["_law_place", "_law_waiting", "_law_ways_here"]:List Str) by decide+kernel) rfl (Or.inl rfl))) (sgs_cons (sg_name (v5 (i:=1) (show E6 (["_law_place", "_law_waiting", "_law_ways_here"]:List Str) by decide+kernel) rfl (Or.inl rfl))) sgs_nil)))) (λ_ _ _ _ _ _ _=>sts_nil) (λ_ _ _ _ _ _ _=>(se_tup rfl (s3 (sv 0) (sv 1) (se_dgt rfl h64 (sv 2) (se_tup rfl (s2 (sv 0) (sv 1))) (λ_ _=>rfl)))))))))
 (ss_cons (sst 7 z1b.nd (se_lst rfl (s2 (se_ct rfl (z5P rfl) rfl T.n_list PyProof.Rows.Boot.«list» (s1 (sv 3))) (se_ct rfl (z5P rfl) rfl T.n_list PyProof.Rows.Boot.«list» (s1 (sv 4))))))
 (ss_one (ss_for PassesOwn.never rfl (si_rng1 rfl T.n_range (s1 (sc0 y1))) (sgn 8 z1b.nd) (ss_cons (sst 9 z1b.nd (scl T.x_p_key_standings (z1w T) hr (s2 (sxc (sv 7) y1) (sxc (sv 7) y1))))
 (ss_cons (ss_if (SW.sb (sw_or (sb_not (sb_truth rfl (se_isi rfl (by decide) rfl T.n_isinstance (sv 9) (z2i (v:= .ty "list") rfl T.n_list PyProof.Rows.Boot.«list» rfl)))) (sw_or (sb_cmp (z8Q rfl h64) (sv 9) (sv 6) (j8 _)) (sw_or1 (sb_cmp (z8Q rfl h64) (sv 7) (se_lst rfl (s2 (sv 3) (sv 4))) (j8 _)))))) (ss_one (ss_ret (sc0 z5y))) ss_nil)
 (ss_cons (ss_if (sb_not (sb_truth rfl (se_cb rfl (zbU rfl hr.hd) rfl T.n_all PyProof.Rows.Boot.«all» (s1 (se_comp (own:=["_law_one"]) (frees:=[]) (ix:=[]) rfl rfl (z0F.sc (by kernel_rfl)) (si_seq rfl (sv 9)) (λ_ _ _ _ _ _ _=>(sg_name (v5 (i:=0) (show E6 (["_law_one"]:List Str) by decide+kernel) rfl (Or.inl rfl)))) (λ_ _ _ _ _ _ _=>sts_nil) (λ_ _ _ _ _ _ _=>(scl T.x_l_is_standing (z28 T) hr (s1 (sv 0))))))))) (ss_one (ss_ret (sc0 z5y))) ss_nil)
 (ss_one (ss_expr (se_cl rfl PySem.F.slot_list_append PySem.F.type_list_append V8 (sv 9) (s1 (sc0 z3n)))))))))))))))))
 (ss_one (ss_ret (sc0 z5y))))
end
end My
namespace Mi
open PySem L2
def V6{α:Type}(xs ys:List α)(k:Nat)(h:xs.length=k):(xs++ys).drop k=ys:=by subst h;simp
def z0Y{α:Type}(xs ys:List α)(k:Nat)(h:xs.length=k):(xs++ys).take k=xs:=by subst h;simp
theorem z0x: ∀ds:List D,Y2 (ds.map some)=some ds
 |[]=>rfl
 |d::ds=>by simp[Y2,z0x ds]
def z7v{t:D}{ts:List D}{n':Nat}{s:Stt}:z1J (.ok t ts n') ts s= .ok t {s with n:=n'}:=by
 unfold z1J;simp
end Mi
set_option maxHeartbeats 40000
namespace Mi
open PySem L2
class Kq{α:Type}(f:α):Type where
instance kq{α:Type}(f:α):Kq f:=⟨⟩
noncomputable def Res.bnd{α β:Type}(f:α->Stt->Res β)[Kq f](r:Res α):Res β:=match r with
 | .ok a s=>f a s
 | .ex d s=> .ex d s
 | .no=> .no
def z20{α β:Type}{a:α}{s:Stt}{f:α->Stt->Res β}:((Res.ok a s).bnd f:Res β)=f a s:=(rfl)
noncomputable def Res.lf{α:Type}(f:α->MS)[Kq f](r:Res α):RS:=match r with
 | .ok a s=>f a s
 | .ex d s=> .ex d s
 | .no=> .no
def z4k{α:Type}{a:α}{s:Stt}{f:α->MS}:((Res.ok a s).lf f:RS)=f a s:=(rfl)
noncomputable def RS.sq(m:MS)[Kq m](r:RS):RS:=match r with
 | .nx s=>m s
 |r=>r
def zin{s:Stt}{m:MS}:((RS.nx s).sq m:RS)=m s:=(rfl)
def zio{d:D}{s:Stt}{m:MS}:((RS.rt d s).sq m:RS)= .rt d s:=(rfl)
noncomputable def RS.fin(r:RS):RF:=match r with
 | .nx s'=>match Y2 s'.tm with|some ts'=> .ok .non ts' s'.n|none=> .no
 | .rt t s'=>match Y2 s'.tm with|some ts'=> .ok t ts' s'.n|none=> .no
 | .ex d s'=>match Y2 s'.tm with|some ts'=> .ex d ts' s'.n|none=> .no
 |_=> .no
noncomputable def zht(o:Option (List D))(t:D)(n:Nat):RF:=match o with|some ts=> .ok t ts n|none=> .no
def z9f{ts:List D}{t:D}{n:Nat}:zht (some ts) t n= .ok t ts n:=(rfl)
def ziq{t:D}{σ tm:List (Option D)}{n:Nat}:(RS.rt t ⟨σ,tm,n⟩).fin=zht (Y2 tm) t n:=(rfl)
def zir{nl:Nat}{mb:MS}{ts:List D}{n:Nat}:z1K nl mb ts n=(mb ⟨ts.map some++m9 (nl -ts.length) none,ts.map some,n⟩).fin:=(rfl)
section
variable{α β:Type}{m ma mb mc:M D}{s:Stt}{ms:List (M D)}{σ tm:List (Option D)}{n:Nat}
def zhu{m:M α}{f:α->M β}:bd m f s=(m s).bnd f:=(rfl)
def zjR{a:α}:rt a s= .ok a s:=(rfl)
def zgl{t:D}:Stt.psh ⟨σ,tm,n⟩ t=⟨σ,some t::tm,n⟩:=(rfl)
def zis:Stt.nxt ⟨σ,tm,n⟩=⟨σ,tm,n+1⟩:=(rfl)
def zit{t:D}{r:List (Option D)}:pop ⟨σ,some t::r,n⟩= .ok t ⟨σ,r,n⟩:=(rfl)
noncomputable def vOf(o:Option (Option D))(s:Stt):Res D:=match o with
 |some (some t)=> .ok t s
 |_=> .no
def zb1{t:D}:vOf (some (some t)) s= .ok t s:=(rfl)
def ziu{i:Nat}:y0 i ⟨σ,tm,n⟩=vOf (σ[i]?) ⟨σ,tm,n⟩:=by
 unfold y0 vOf
 cases σ[i]? with
 |none=>rfl
 |some o=>cases o<;>rfl
def x_C{d:D}:mC d s= .ok d s:=(rfl)
def zdB{g:D->D->M D}:y2 ma mb g s=(ma s).bnd λx s1=>(mb (s1.psh x)).bnd λy s2=>(pop s2).bnd λx' s3=>g x' y s3:=(rfl)
def ziv:G7 m s=(m s).bnd zfI:=(rfl)
def zgm{b:Bool}:zfI (.bool b) s= .ok b s:=(rfl)
def zgn:z0J m s=(m s).bnd zde:=(rfl)
def zjS{b:Bool}:zde (.bool b) s= .ok b s:=(rfl)
def zjT{ds:List D}:zde (.tup ds) s= .ok (!ds.isEmpty) s:=(rfl)
def zjU{l:Nat}{ds:List D}:zde (.lst l ds) s= .ok (!ds.isEmpty) s:=(rfl)
def ziw{m m':M Bool}:z8F m m' s=(m s).bnd λb=>zbN b m' (rt false):=(rfl)
def zjV{m m':M Bool}:mOr m m' s=(m s).bnd λb=>zbN b (rt true) m':=(rfl)
def zix{m:M Bool}:z7i m s=(m s).bnd λb s1=> .ok (!b) s1:=(rfl)
def zgo{m m':M D}:z5K m m' s=(m s).bnd λd s1=>(zfI d s1).bnd λb=>zbN b m' (rt (.bool false)):=by
 unfold z5K G7 bd Res.bnd
 cases m s<;>rfl
def zgp{m:M D}:z8G m s=(m s).bnd λd s1=>(zfI d s1).bnd λb=>rt (.bool (!b)):=by
 unfold z8G G7 bd Res.bnd
 cases m s<;>rfl
def zjW{m m':M α}:zbN true m m' s=m s:=(rfl)
def zjX{m m':M α}:zbN false m m' s=m' s:=(rfl)
def zdC:Z9 [] s= .ok [] s:=(rfl)
def z1T:Z9 (m::ms) s=(m s).bnd λx s1=>(Z9 ms (s1.psh x)).bnd λys s2=>(pop s2).bnd λx' s3=> .ok (x'::ys) s3:=(rfl)
def zjn{g:List D->M D}:mCB ms g s=(Z9 ms s).bnd g:=(rfl)
def zgq{f:FM}:Z1 f ms s=(Z9 ms s).bnd λts s1=>z1J (f ts s1.n) ts s1:=(rfl)
noncomputable def ziy(o:Option Bool)(s:Stt):Res D:=match o with
 |some b=> .ok (.bool b) s
 |none=> .no
def z9g{b:Bool}:ziy (some b) s= .ok (.bool b) s:=(rfl)
def ziz{T:String}:za5 T m s=(m s).bnd λd s1=>ziy (isiD T d) s1:=by
 unfold za5 bd Res.bnd ziy
 cases m s with
 |ok d s1=>dsimp only;cases isiD T d<;>rfl
 |ex d s1=>rfl
 |no=>rfl
noncomputable def ziA(o:Option Int)(s:Stt):Res (Option Int):=match o with
 |some i=> .ok (some i) s
 |none=> .no
def z9h{i:Int}:ziA (some i) s= .ok (some i) s:=(rfl)
def zdD:z3h none s= .ok none s:=(rfl)
def zdE:z3h (some m) s=(m s).bnd λd s1=>ziA (mInt d) s1:=by
 show bd m (λd=>match mInt d with|some i=>rt (some i)|none=>fl) s=_
 unfold bd Res.bnd
 cases m s with
 |ok d s1=>show(match mInt d with|some i=>rt (some i)|none=>fl:M (Option Int)) s1=ziA (mInt d) s1;cases mInt d<;>rfl
 |ex d s1=>rfl
 |no=>rfl
def zgr{i:Int}:mInt (.int i)=some i:=(rfl)
def zjY{lo hi:Option (M D)}:mSl m lo hi s=(m s).bnd λx s1=>(z3h lo (s1.psh x)).bnd λl s2=>(z3h hi s2).bnd λh s3=>(pop s3).bnd λx' s4=>slD x' l h s4:=(rfl)
def zgs{i j:Int}:v6 (.int i) (.int j) s= .ok (.int (i+j)) s:=(rfl)
def z3z{a b:List D}(h:a.length+b.length<=sizeLine):v6 (.tup a) (.tup b) s= .ok (.tup (a++b)) s:=by erw[v6,if_pos h];rfl
def z9i{i j:Int}(h:zaf i j):z7h (.int i) (.int j) s= .ok (.int (i*j)) s:=by erw[z7h,if_pos h];rfl
def z9j{i j:Int}(h:zef i j):z3g (.int i) (.int j) s= .ok (.int (i/j)) s:=by erw[z3g,if_pos h];rfl
def z32{i j:Int}(h:0<j):z24 (.int i) (.int j) s= .ok (.int (i %j)) s:=by erw[z24,if_pos h];rfl
def zdF{i j:Int}(h:zeg i j):zaB (.int i) (.int j) s= .ok (.int (i^j.toNat)) s:=by erw[zaB,if_pos h];rfl
def zjZ{i j:Int}:ltD (.int i) (.int j) s= .ok (.bool (decide (i<j))) s:=(rfl)
def zk0{i j:Int}:gtD (.int i) (.int j) s= .ok (.bool (decide (j<i))) s:=(rfl)
def zhv(h:eqC t t'=true):eqD t t' s= .ok (.bool (PyData.eqv (er t) (er t'))) s:=by erw[eqD,if_pos h];rfl
def zhw(h:eqC t t'=true):neD t t' s= .ok (.bool (!PyData.eqv (er t) (er t'))) s:=by erw[neD,if_pos h];rfl
def ziB{ds:List D}{i:Int}:ixD (.tup ds) (.int i) s=zei (atI ds i) s:=(rfl)
def ziC{l:Nat}{ds:List D}{i:Int}:ixD (.lst l ds) (.int i) s=zei (atI ds i) s:=(rfl)
def ziD{ds:List D}{i:Int}:ixD (.ro ds) (.int i) s=zei (atI ds i) s:=(rfl)
def ziE{d:D}:zei (some d) s= .ok d s:=(rfl)
def ziF{ds:List D}{lo hi:Option Int}:slD (.tup ds) lo hi s= .ok (.tup (z4W ds lo hi)) s:=(rfl)
def ziG{l:Nat}{ds:List D}{lo hi:Option Int}:slD (.lst l ds) lo hi s= .ok (.lst s.n (z4W ds lo hi)) s.nxt:=(rfl)
def z9k{ts:List D}(h:ts.length<=sizeLine):Q1 ts s= .ok (.tup ts) s:=by erw[Q1,if_pos h];rfl
def z64{ts:List D}(h:ts.length<=sizeLine):lstM ts s= .ok (.lst s.n ts) s.nxt:=by erw[lstM,if_pos h];rfl
def zgt{ds:List D}:U3 [.tup ds] s= .ok (.int ds.length) s:=(rfl)
def zgu{l:Nat}{ds:List D}:U3 [.lst l ds] s= .ok (.int ds.length) s:=(rfl)
def zgv{ds:List D}:U3 [.ro ds] s= .ok (.int ds.length) s:=(rfl)
def ziH{i:Int}:zej [.int i] s= .ok (.int (if i<0 then -i else i)) s:=(rfl)
def ziI{i j:Int}:zdi [.int i, .int j] s= .ok (.int (if j<i then j else i)) s:=(rfl)
def ziJ{i j:Int}:zek [.int i, .int j] s= .ok (.int (if j>i then j else i)) s:=(rfl)
def zgw{b:Bool}:za4 [.bool b] s= .ok (.int (if b then 1 else 0)) s:=(rfl)
def zgx{ds:List D}:z6z [.tup ds] s= .ok (.tup ds) s:=(rfl)
def zgy{l:Nat}{ds:List D}:z6z [.lst l ds] s= .ok (.tup ds) s:=(rfl)
def zdG{ds:List D}:z3i [.tup ds] s= .ok (.lst s.n ds) s.nxt:=(rfl)
def zdH{l:Nat}{ds:List D}:z3i [.lst l ds] s= .ok (.lst s.n ds) s.nxt:=(rfl)
def ziK{l:Nat}{bs:List Bool}(h:X5 ds=some bs):zaD [.lst l ds] s= .ok (.bool (bs.all id)) s:=by erw[zaD,h];rfl
def ziL{l:Nat}{bs:List Bool}(h:X5 ds=some bs):zel [.lst l ds] s= .ok (.bool (bs.any id)) s:=by erw[zel,h];rfl
def ziM{a b:MS}:Z3 a b s=(a s).sq b:=by
 unfold Z3 RS.sq
 cases a s<;>rfl
def zgz{m:M α}{f:α->MS}:z0K m f s=(m s).lf f:=(rfl)
def ziN:sNx s= .nx s:=(rfl)
def zgA:z0e m s=(m s).lf λd s1=> .rt d s1:=(rfl)
def zdI:J8 m s=(m s).lf λ_ s1=> .nx s1:=(rfl)
def ziO{c:M Bool}{a b:MS}:sIf c a b s=(c s).lf λk=>zbP k a b:=(rfl)
def zk1{a b:MS}:zbP true a b s=a s:=(rfl)
def zk2{a b:MS}:zbP false a b s=b s:=(rfl)
noncomputable def ziP(o:Option (List (Option D)))(s:Stt):RS:=match o with
 |some σ'=> .nx {s with σ:=σ'}
 |none=> .no
def z9l{σ':List (Option D)}:ziP (some σ') ⟨σ,tm,n⟩= .nx ⟨σ',tm,n⟩:=(rfl)
def zgB{g:Tg}:Y5 g m s=(m s).lf λd s1=>ziP (asg g d s1.σ) s1:=by
 unfold Y5 z0K Res.lf ziP
 cases m s with
 |ok d s1=>first|(dsimp only;cases asg g d s1.σ<;>rfl)|(dsimp only;done)|rfl
 |ex d s1=>rfl
 |no=>rfl
def ziQ{me mo mi:M D}{g:D->D->D->MS}:z1f me mo mi g s=(me s).lf λv s1=>(mo (s1.psh v)).lf λo s2=>(mi (s2.psh o)).lf λi s3=>(pop s3).lf λo' s4=>(pop s4).lf λv' s5=>g o' i v' s5:=(rfl)
def zgC{l:Nat}{ds:List D}{k:Int}{j:Nat}(e:ixN ds.length k=some j)(h:l∉labs v):zbR (.lst l ds) (.int k) v s= .nx (s.put l (.lst l (ds.set j v))):=by erw[zbR,e,if_pos h]
def zgD{mo:M D}{g:D->List D->M D}:J2 mo ms g s=(mo s).bnd λx s1=>(isL x s1).bnd λ_ s2=>(Z9 ms (s2.psh x)).bnd λys s3=>(pop s3).bnd λx' s4=>g x' ys s4:=(rfl)
def ziR{l:Nat}{ds:List D}:isL (.lst l ds) s= .ok () s:=(rfl)
def y_app{l:Nat}{ds:List D}(h:ds.length<sizeLine/\l∉labs y):z2B (.lst l ds) [y] s= .ok .non (s.put l (.lst l (ds++[y]))):=by erw[z2B,if_pos h]
end
def z3A{α:Type}{xs:List α}{i:Int}{d:α}(h0:0<=i)(h:xs[i.toNat]? =some d):atI xs i=some d:=by
 obtain⟨j,rfl⟩:=Int.eq_ofNat_of_zero_le h0
 exact zcN (by simpa using h)
end Mi
set_option maxHeartbeats 400000
namespace Mi
open PySem L2
noncomputable def pl(l:Nat)(d:D):Nat->Option D:=λk=>if k=l then some d else none
def z0U{σ tm:List (Option D)}{n l:Nat}{d:D}:Stt.put ⟨σ,tm,n⟩ l d=⟨rpO (pl l d) σ,rpO (pl l d) tm,n⟩:=(rfl)
def G4{l:Nat}(h:l∉labs t):rp (pl l d) t=t:=z8v t λk hk=>by
 unfold pl;rw[if_neg];intro e;subst e;exact h hk
def Z7{f:Nat->Option D}:rpO f []=[]:=(rfl)
def zb2{f:Nat->Option D}{r:List (Option D)}:rpO f (none::r)=none::rpO f r:=(rfl)
def zb3{f:Nat->Option D}{d:D}{r:List (Option D)}:rpO f (some d::r)=some (rp f d)::rpO f r:=(rfl)
def zgE{l:Nat}{d:D}{b:List D}:rp (pl l d) (.lst l b)=d:=by erw[rp,pl,if_true]
def Q7{f:Nat->Option D}{i:Int}:rp f (.int i)= .int i:=(rfl)
def zc2{f:Nat->Option D}{ds:List D}:rp f (.tup ds)= .tup (rpL f ds):=(rfl)
def J9{f:Nat->Option D}:rpL f []=[]:=(rfl)
def J3{f:Nat->Option D}{d:D}{ds:List D}:rpL f (d::ds)=rp f d::rpL f ds:=(rfl)
mutual
theorem z3B{l:Nat}: ∀t:D,l∉labs t->findT l t=none
 | .non,_=>rfl
 | .bool _,_=>rfl
 | .int _,_=>rfl
 | .str _,_=>rfl
 | .exc _,_=>rfl
 | .fn _,_=>rfl
 | .tup ds,h=>by erw[labs] at h;erw[findT];exact findL_none ds h
 | .ro ds,h=>by erw[labs] at h;erw[findT];exact findL_none ds h
 | .fdc ks ds,h=>by erw[labs] at h;erw[findT];exact findL_none ds h
 | .lst k ds,h=>by
  erw[labs,l7,not_or] at h;erw[findT];rw[if_neg λe=>h.1 e.symm];exact findL_none ds h.2
 | .dct k ks ds,h=>by
  erw[labs,l7,l4,not_or] at h;erw[findT];rw[if_neg λe=>h.1 e.symm];exact findL_none ds h.2.2
 | .obj k c ks ds,h=>by
  erw[labs,l7,not_or] at h;erw[findT];rw[if_neg λe=>h.1 e.symm];exact findL_none ds h.2
theorem findL_none{l:Nat}: ∀t:List D,l∉labsL t->findL l t=none
 |[],_=>rfl
 |d::ds,h=>by
  erw[labsL,l4,not_or] at h
  erw[findL,z3B d h.1,findL_none ds h.2]
end
def z0l{t:D}{l n' n:Nat}(hb:labsL b=[])(hb':labsL b'=[])(hr:labsL r=[])(f1:rpO (pl l (.lst l b)) σ=σ)(f2:rpO (pl l (.lst l b)) tm=tm):
 z1J (.ok t (.lst l b'::r) n') (.lst l b::r) ⟨σ,tm,n⟩= .ok t ⟨rpO (pl l (.lst l b')) σ,rpO (pl l (.lst l b')) tm,n'⟩:=by
 have e:(λk=>findL k (.lst l b'::r))=pl l (.lst l b'):=by
  funext k
  erw[findL,findT,pl]
  by_cases h:l=k
  .subst h;rw[if_pos rfl,if_pos rfl]
  .rw[if_neg h,if_neg λq=>h q.symm,findL_none b' (by rw[hb'];exact t7),findL_none r (by rw[hr];exact t7)]
 unfold z1J
 by_cases h:(D.lst l b'::r)=(D.lst l b::r)
 .have hh:b'=b:=by injection h with h _;injection h
  subst hh
  erw[if_true]
  rw[f1,f2]
 .erw[if_neg h]
  rw[if_pos,e]
  intro k _ hk
  erw[labsL,labs,hb,hr,l0,t9] at hk
  subst hk
  have:=congrFun e k
  rw[show findL k (D.lst k b'::r)=pl k (D.lst k b') k from this];simp[pl]
def z7w{mi:M ItK}{g:Tg}{b:MS}{s:Stt}:z01 mi g b s=(mi s).lf λK s=>forGo K g b (K.len s.tm) 0 s:=(rfl)
def zc3{ms:List (M D)}{s:Stt}:v7 ms s=(Z9 ms s).bnd zfV:=(rfl)
def z1y{j:Int}(h: -(2^62)<=j/\j<2^62):zfV [.int j] s= .ok (z6B 0 j.toNat) s:=by erw[zfV,if_pos h];rfl
def zgF{lo:Int}{N:Nat}{tm:List (Option D)}:(z6B lo N).len tm=N:=(rfl)
def z0y{P:Nat->Stt->Prop}{lo:Int}{N:Nat}{g:Tg}{b:MS}
 (body: ∀i,i<N->∀s,P i s->∃σ',asg g (.int (lo+i)) s.σ=some σ'/\∃s',b {s with σ:=σ'}= .nx s'/\P (i+1) s'):
 ∀(f i:Nat) (s:Stt),i+f=N->P i s->∃s',forGo (z6B lo N) g b f i s= .nx s'/\P N s':=by
 intro f
 induction f with
 |zero=>
  intro i s hi h
  have e:i=N:=by lia
  subst e
  refine⟨s, ?_,h⟩
  unfold forGo
  erw[z6B,D8,if_false]
  rfl
 |succ f ih=>
  intro i s hi h
  have hl:i<N:=by lia
  obtain⟨σ',e1,s',e2,h'⟩:=body i hl s h
  obtain⟨s2,e3,h2⟩:=ih (i+1) s' (by lia) h'
  refine⟨s2, ?_,h2⟩
  unfold forGo
  erw[z6B,if_pos hl,e1,e2]
  exact e3
mutual
theorem zgG{l:Nat}{b:List D}{d:D}: ∀t:D,rp (pl l d) (rp (pl l (.lst l b)) t)=rp (pl l d) t
 | .non=>rfl
 | .bool _=>rfl
 | .int _=>rfl
 | .str _=>rfl
 | .exc _=>rfl
 | .fn _=>rfl
 | .tup ds=>by erw[rp];rw[rpL_rp ds]
 | .ro ds=>by erw[rp];rw[rpL_rp ds]
 | .fdc ks ds=>by erw[rp];rw[rpL_rp ds]
 | .lst k ds=>by
  by_cases h:k=l
  .subst h;erw[rp,pl,if_true]
  .have e: ∀x,pl l x k=none:=λx=>by erw[pl,if_neg h]
   erw[rp,e];rw[rpL_rp ds]
 | .dct k ks ds=>by
  by_cases h:k=l
  .subst h;erw[rp,pl,if_true]
  .have e: ∀x,pl l x k=none:=λx=>by erw[pl,if_neg h]
   erw[rp,e];rw[rpL_rp ds]
 | .obj k c ks ds=>by
  by_cases h:k=l
  .subst h;erw[rp,pl,if_true]
  .have e: ∀x,pl l x k=none:=λx=>by erw[pl,if_neg h]
   erw[rp,e];rw[rpL_rp ds]
theorem rpL_rp{l:Nat}{b:List D}{d:D}: ∀t:List D,rpL (pl l d) (rpL (pl l (.lst l b)) t)=rpL (pl l d) t
 |[]=>rfl
 |t::ts=>by erw[rpL];rw[zgG t,rpL_rp ts]
end
theorem z5d{l:Nat}: ∀t:List (Option D),rpO (pl l d) (rpO (pl l (.lst l b)) t)=rpO (pl l d) t
 |[]=>rfl
 |none::ts=>by erw[rpO];rw[z5d ts]
 |some t::ts=>by erw[rpO];rw[zgG t,z5d ts]
theorem z33: ∀(a b:List (Option D)),rpO f (a++b)=rpO f a++rpO f b
 |[],b=>rfl
 |none::a,b=>by erw[B7,rpO,z33 a b]
 |some d::a,b=>by erw[B7,rpO,z33 a b]
theorem z4l: ∀(a:List (Option D)),(rpO f a).length=a.length
 |[]=>rfl
 |none::a=>by erw[rpO,A3,z4l a]
 |some d::a=>by erw[rpO,A3,z4l a]
theorem z5e: ∀ds:List D,Z4 (ds.map some)=labsL ds
 |[]=>rfl
 |d::ds=>by erw[i6,Z4,labsL,z5e ds]
theorem z1z: ∀a b:List D,labsL (a++b)=labsL a++labsL b
 |[],b=>rfl
 |d::ds,b=>by erw[B7,labsL,z1z ds b,A5]
theorem z9m{l:Nat}: ∀ds:List D,l∈labsL ds.reverse↔l∈labsL ds
 |[]=>Iff.rfl
 |d::ds=>by erw[C2,z1z,labsL,l4,z9m ds,l0];exact Or.comm
def z5f{l:Nat}{ds:List D}(h:l∉labsL ds):rpO (pl l d) (ds.reverse.map some)=ds.reverse.map some:=z8w _ λk hk=>by
 rw[z5e,z9m] at hk
 unfold pl;rw[if_neg];intro e;subst e;exact h hk
def z7x{me:M D}{N:Nat}{cap σ0 tm0:List (Option D)}{l ol:Nat}{Bg:List D->Prop}{Q:Nat->D->Prop}(mono: ∀a b,a<=b->∀y,Q a y->Q b y)(hol:σ0.length=ol)(hz:N<sizeLine)
 (hme: ∀i,i<N->∀b tm n,Bg b->l<n->rpO (pl l (.lst l b)) tm=tm->∃y b' n',Bg b'/\Q n' y/\n<=n'/\l∉labs y/\me ⟨some (.int (0+(i:Nat)))::rpO (pl l (.lst l b)) cap,tm,n⟩= .ok y ⟨some (.int (0+(i:Nat)))::rpO (pl l (.lst l b')) cap,rpO (pl l (.lst l b')) tm,n'⟩):
 ∀(f:Nat) (acc:List D) (o:Option D) (b:List D) (n:Nat),acc.length+f=N->Bg b->l<n->(∀y∈acc,Q n y)->l∉labsL acc->
  ∃ys b' n',ys.length=N/\(∀y∈ys,Q n' y)/\l∉labsL ys/\Bg b'/\n<=n'/\
   v0 (z6B 0 N) (.nm 0) (rt true) me ol f acc.length acc.length ⟨o::rpO (pl l (.lst l b)) cap,(acc.reverse.map some)++(rpO (pl l (.lst l b)) σ0++rpO (pl l (.lst l b)) tm0),n⟩= .ok (.lst n' ys) ⟨rpO (pl l (.lst l b')) σ0,rpO (pl l (.lst l b')) tm0,n'+1⟩:=by
 intro f
 induction f with
 |zero=>
  intro acc o b n hi hb hn hq hf
  have hi:acc.length=N:=by lia
  refine⟨acc,b,n,hi,hq,hf,hb,i7 _, ?_⟩
  have l1:(acc.reverse.map some).length=acc.length:=by simp
  unfold v0
  erw[z6B,hi,D8,if_false]
  rw[<-hi,z0Y _ _ _ l1]
  have e2:(acc.reverse.map some).reverse=acc.map some:=by simp
  rw[e2,z0x]
  erw[Res.ok.injEq,true_and,Stt.mk.injEq,and_true]
  constructor
  .rw[V6 _ _ _ l1,z0Y _ _ _ (by rw[z4l];exact hol)]
  .rw[<-A5,Nat.add_zero]
   exact V6 _ _ _ (by simp[z4l,hol])
 |succ f ih=>
  intro acc o b n hi hb hn hq hf
  have hlt:acc.length<N:=by lia
  unfold v0
  erw[z6B,if_pos hlt,asg,D0,rt]
  rw[if_pos (by lia)]
  obtain⟨y,b',n',h1,h2,h3,h4,h5⟩:=hme acc.length hlt b ((acc.reverse.map some)++(rpO (pl l (.lst l b)) σ0++rpO (pl l (.lst l b)) tm0)) n hb hn (by rw[z33,z33,z5d,z5d,z5f hf])
  rw[h5]
  obtain⟨ys,b2,n2,g1,g2,g3,g4,g5,g6⟩:=ih (acc++[y]) (some (.int (0+(acc.length:Nat)))) b' n' (by simp;lia) h1 (by lia) (by
   intro z hz
   rcases l4.mp hz with hz|hz
   .exact mono _ _ h3 z (hq z hz)
   .rw[t9.mp hz];exact h2) (by
   rw[z1z]
   erw[labsL,l0,l4,not_or]
   exact⟨hf,h4⟩)
  refine⟨ys,b2,n2,g1,g2,g3,g4,by lia, ?_⟩
  rw[<-g6]
  erw[Stt.psh,z33,z5d,z5f hf,m5,A3,B2,F6,E3,C2,D7,A6,t8,i6,A2,B7]
  rfl
def z5g{me:M D}{N:Nat}{ix:List Nat}{l n:Nat}{j:Int}{Bg:List D->Prop}{Q:Nat->D->Prop}(mono: ∀a b,a<=b->∀y,Q a y->Q b y)(hms:Z9 ms s= .ok [.int j] ⟨σ0,tm0,n⟩)(hj:j.toNat=N)(hj': -(2^62)<=j/\j<2^62)(hz:N<sizeLine)
 (hb:Bg b) (hn:l<n) (f1:rpO (pl l (.lst l b)) σ0=σ0) (f2:rpO (pl l (.lst l b)) tm0=tm0) (f3:rpO (pl l (.lst l b)) (ix.map λi=>(σ0[i]?).getD none)=ix.map λi=>(σ0[i]?).getD none)
 (hme: ∀i,i<N->∀b tm n,Bg b->l<n->rpO (pl l (.lst l b)) tm=tm->∃y b' n',Bg b'/\Q n' y/\n<=n'/\l∉labs y/\me ⟨some (.int (0+(i:Nat)))::rpO (pl l (.lst l b)) (ix.map λi=>(σ0[i]?).getD none),tm,n⟩= .ok y ⟨some (.int (0+(i:Nat)))::rpO (pl l (.lst l b')) (ix.map λi=>(σ0[i]?).getD none),rpO (pl l (.lst l b')) tm,n'⟩):
 ∃ys b' n',ys.length=N/\(∀y∈ys,Q n' y)/\l∉labsL ys/\Bg b'/\n<=n'/\J1 (v7 ms) (.nm 0) (rt true) me 1 ix s= .ok (.lst n' ys) ⟨rpO (pl l (.lst l b')) σ0,rpO (pl l (.lst l b')) tm0,n'+1⟩:=by
 obtain⟨ys,b',n',h1,h2,h3,h4,h5,h6⟩:=z7x (me:=me) (N:=N) (cap:=ix.map λi=>(σ0[i]?).getD none) (σ0:=σ0) (tm0:=tm0) (l:=l) (Bg:=Bg) (Q:=Q) mono rfl hz hme N [] none b n (by simp) hb hn (by intro y h;cases h) (by simp[labsL])
 refine⟨ys,b',n',h1,h2,h3,h4,h5, ?_⟩
 unfold J1
 rw[zhu,zc3,hms,z20,z1y hj',z20,hj]
 rw[f1,f2,f3] at h6
 exact h6
inductive All2(Q:D->D->Prop):List D->List D->Prop
 |nil:All2 Q [] []
 |cons {a b:D} {as bs:List D}:Q a b->All2 Q as bs->All2 Q (a::as) (b::bs)
def z0G{l:Nat}{n:Nat}(h:m s= .ok (.lst l ds) ⟨σ,tm,n⟩):Q8 m s= .ok kLst ⟨σ,some (.lst l ds)::tm,n⟩:=by
 unfold Q8;rw[zhu,h];rfl
def z7y{K:ItK}{mt:M Bool}{me:M D}{p:D->Bool}{g:D->D}{items:List D}{its fr σ0 tm0:List (Option D)}{ol:Nat}(hk:its.length=K.k)(hol:σ0.length=ol)(hz:items.length<sizeLine)(hat: ∀i rest,K.at' i (its++rest)=some items[i]?)
 (hmt: ∀d∈items,∀tm n,∃n',n<=n'/\mt ⟨some d::fr,tm,n⟩= .ok (p d) ⟨some d::fr,tm,n'⟩)
 (hme: ∀d∈items,p d=true->∀tm n,∃n',n<=n'/\me ⟨some d::fr,tm,n⟩= .ok (g d) ⟨some d::fr,tm,n'⟩):
 ∀(f i:Nat) (acc:List D) (o:Option D) (n:Nat),i+f=items.length->acc.length<=i->∃n',n<=n'/\v0 K (.nm 0) mt me ol f i acc.length ⟨o::fr,(acc.reverse.map some)++(σ0++(its++tm0)),n⟩= .ok (.lst n' (acc++((items.drop i).filter p).map g)) ⟨σ0,tm0,n'+1⟩:=by
 intro f
 induction f with
 |zero=>
  intro i acc o n hi ha
  have hi:i=items.length:=by lia
  refine⟨n,i7 _, ?_⟩
  have l1:(acc.reverse.map some).length=acc.length:=by simp
  have e1:((acc.reverse.map some)++(σ0++(its++tm0))).drop (acc.length+ol)=its++tm0:=by
   rw[<-A5];exact V6 _ _ _ (by simp[hol])
  unfold v0
  erw[e1,hat,List.getElem?_eq_none (show items.length<=i by lia)]
  rw[z0Y _ _ _ l1]
  have e2:(acc.reverse.map some).reverse=acc.map some:=by simp
  rw[e2,z0x]
  erw[Res.ok.injEq,Stt.mk.injEq,and_true,D1 (show items.length<=i by lia),List.filter_nil,A2,l0,true_and]
  constructor
  .rw[V6 _ _ _ l1,z0Y _ _ _ hol]
  .have:((acc.reverse.map some)++(σ0++(its++tm0))).drop (acc.length+ol+K.k)=(((acc.reverse.map some)++(σ0++(its++tm0))).drop (acc.length+ol)).drop K.k:=by rw[M7]
   rw[this,e1]
   exact V6 _ _ _ hk
 |succ f ih=>
  intro i acc o n hi ha
  have hlt:i<items.length:=by lia
  have e1:((acc.reverse.map some)++(σ0++(its++tm0))).drop (acc.length+ol)=its++tm0:=by
   rw[<-A5];exact V6 _ _ _ (by simp[hol])
  obtain⟨n1,hn1,h1⟩:=hmt items[i] (B3 hlt) ((acc.reverse.map some)++(σ0++(its++tm0))) n
  rw[L4 hlt,R1]
  unfold v0
  erw[e1,hat,List.getElem?_eq_getElem hlt,asg,D0,h1]
  cases hp:p items[i] with
  |false=>
   obtain⟨n2,hn2,h2⟩:=ih (i+1) acc (some items[i]) n1 (by lia) (by lia)
   exact⟨n2,by lia,h2⟩
  |true=>
   obtain⟨n2,hn2,h2⟩:=hme items[i] (B3 hlt) hp ((acc.reverse.map some)++(σ0++(its++tm0))) n1
   obtain⟨n3,hn3,h3⟩:=ih (i+1) (acc++[g items[i]]) (some items[i]) n2 (by lia) (by simp;lia)
   refine⟨n3,by lia, ?_⟩
   erw[if_pos (show acc.length<sizeLine by lia),h2]
   erw[m5,A3,B2,F6,E3,C2,D7,A6,t8,i6,A2,B7,A5] at h3⊢
   exact h3
def z5h{K:ItK}{mt:M Bool}{me:M D}{p:D->Bool}{g:D->D}{items:List D}{its:List (Option D)}{ix:List Nat}{n:Nat}(hc:mi s= .ok K ⟨σ,its++tm,n⟩)(hk:its.length=K.k)(hz:items.length<sizeLine)(hat: ∀i rest,K.at' i (its++rest)=some items[i]?)(hlen:K.len (its++tm)=items.length)
 (hmt: ∀d∈items,∀tm n,∃n',n<=n'/\mt ⟨some d::(ix.map λi=>(σ[i]?).getD none),tm,n⟩= .ok (p d) ⟨some d::(ix.map λi=>(σ[i]?).getD none),tm,n'⟩)
 (hme: ∀d∈items,p d=true->∀tm n,∃n',n<=n'/\me ⟨some d::(ix.map λi=>(σ[i]?).getD none),tm,n⟩= .ok (g d) ⟨some d::(ix.map λi=>(σ[i]?).getD none),tm,n'⟩):
 ∃n',n<=n'/\J1 mi (.nm 0) mt me 1 ix s= .ok (.lst n' ((items.filter p).map g)) ⟨σ,tm,n'+1⟩:=by
 obtain⟨n',h2,h3⟩:=z7y (K:=K) (mt:=mt) (me:=me) (σ0:=σ) (tm0:=tm) hk rfl hz hat hmt hme items.length 0 [] none n (by simp) (by simp)
 refine⟨n',h2, ?_⟩
 unfold J1
 erw[bd,hc,hlen]
 erw[A2,D7,A6,B2,L3] at h3
 exact h3
def z7z{mt:M Bool}{me:M D}{p:D->Bool}{g:D->D}{l:Nat}{ds:List D}{ix:List Nat}{n:Nat}(hc:mc s= .ok (.lst l ds) ⟨σ,tm,n⟩)(hz:ds.length<sizeLine)
 (hmt: ∀d∈ds,∀tm n,∃n',n<=n'/\mt ⟨some d::(ix.map λi=>(σ[i]?).getD none),tm,n⟩= .ok (p d) ⟨some d::(ix.map λi=>(σ[i]?).getD none),tm,n'⟩)
 (hme: ∀d∈ds,p d=true->∀tm n,∃n',n<=n'/\me ⟨some d::(ix.map λi=>(σ[i]?).getD none),tm,n⟩= .ok (g d) ⟨some d::(ix.map λi=>(σ[i]?).getD none),tm,n'⟩):
 ∃n',n<=n'/\J1 (Q8 mc) (.nm 0) mt me 1 ix s= .ok (.lst n' ((ds.filter p).map g)) ⟨σ,tm,n'+1⟩:=
 z5h (K:=kLst) (its:=[some (.lst l ds)]) (items:=ds) (by unfold Q8;rw[zhu,hc];rfl) rfl hz (λi rest=>rfl) rfl hmt hme
end Mi
set_option maxHeartbeats 1000000
namespace Mi
open PySem L2
noncomputable def ziS(o:Option (List D))(t:D)(n:Nat):RF:=match o with|some ts=> .ex t ts n|none=> .no
noncomputable def _root_.Mi.RS.finX(k:Nat):RS->RF
 | .nx s'=>zht (Y2 s'.tm) .non s'.n
 | .rt t s'=>zht (Y2 s'.tm) t s'.n
 | .ex d s'=>ziS (Y2 (zik k s'.tm)) d s'.n
 |_=> .no
end Mi
set_option maxHeartbeats 4000000
namespace Mi
open PySem L2
end Mi
set_option maxHeartbeats 40000
namespace Mi
open PySem L2
section
variable{α β:Type}{m ma mb mc:M D}{s:Stt}{ms:List (M D)}{σ tm l:List (Option D)}{n i j k p:Nat}{x y z u d:D}{g g2:D->D->M D}{h:List D->M D}
variable{a0 a1 a2 a3 a4 a5 a6 a7 a8 a9 a10 a11 a12 a13 a14 a15 v:Option D}
def qg1:(a0::a1::l)[1]? =some a1:=(rfl)
def qg2:(a0::a1::a2::l)[2]? =some a2:=(rfl)
def qg3:(a0::a1::a2::a3::l)[3]? =some a3:=(rfl)
def qg4:(a0::a1::a2::a3::a4::l)[4]? =some a4:=(rfl)
def qg5:(a0::a1::a2::a3::a4::a5::l)[5]? =some a5:=(rfl)
def qg6:(a0::a1::a2::a3::a4::a5::a6::l)[6]? =some a6:=(rfl)
def qg7:(a0::a1::a2::a3::a4::a5::a6::a7::l)[7]? =some a7:=(rfl)
def qg8:(a0::a1::a2::a3::a4::a5::a6::a7::a8::l)[8]? =some a8:=(rfl)
def qg9:(a0::a1::a2::a3::a4::a5::a6::a7::a8::a9::l)[9]? =some a9:=(rfl)
def zk3:(a0::a1::a2::a3::a4::a5::a6::a7::a8::a9::a10::l)[10]? =some a10:=(rfl)
def zk4:(a0::a1::a2::a3::a4::a5::a6::a7::a8::a9::a10::a11::l)[11]? =some a11:=(rfl)
def zk5:(a0::a1::a2::a3::a4::a5::a6::a7::a8::a9::a10::a11::a12::l)[12]? =some a12:=(rfl)
def zk6:(a0::a1::a2::a3::a4::a5::a6::a7::a8::a9::a10::a11::a12::a13::l)[13]? =some a13:=(rfl)
def qh1:(a0::a1::l).set 1 v=a0::v::l:=(rfl)
def qh2:(a0::a1::a2::l).set 2 v=a0::a1::v::l:=(rfl)
def qh3:(a0::a1::a2::a3::l).set 3 v=a0::a1::a2::v::l:=(rfl)
def qh4:(a0::a1::a2::a3::a4::l).set 4 v=a0::a1::a2::a3::v::l:=(rfl)
def qh5:(a0::a1::a2::a3::a4::a5::l).set 5 v=a0::a1::a2::a3::a4::v::l:=(rfl)
def qh6:(a0::a1::a2::a3::a4::a5::a6::l).set 6 v=a0::a1::a2::a3::a4::a5::v::l:=(rfl)
def qh7:(a0::a1::a2::a3::a4::a5::a6::a7::l).set 7 v=a0::a1::a2::a3::a4::a5::a6::v::l:=(rfl)
def qh8:(a0::a1::a2::a3::a4::a5::a6::a7::a8::l).set 8 v=a0::a1::a2::a3::a4::a5::a6::a7::v::l:=(rfl)
def qh9:(a0::a1::a2::a3::a4::a5::a6::a7::a8::a9::l).set 9 v=a0::a1::a2::a3::a4::a5::a6::a7::a8::v::l:=(rfl)
def zk7:(a0::a1::a2::a3::a4::a5::a6::a7::a8::a9::a10::l).set 10 v=a0::a1::a2::a3::a4::a5::a6::a7::a8::a9::v::l:=(rfl)
def zk8:(a0::a1::a2::a3::a4::a5::a6::a7::a8::a9::a10::a11::a12::l).set 12 v=a0::a1::a2::a3::a4::a5::a6::a7::a8::a9::a10::a11::v::l:=(rfl)
noncomputable def vv(g:D->D->M D)(a b:Option (Option D))(s:Stt):Res D:=match a,b with
 |some (some a),some (some b)=>g a b s
 |_,_=> .no
def ov:y0 i s=match s.σ[i]? with|some (some t)=> .ok t s|_=> .no:=rfl
noncomputable def cv(g:D->D->M D)(a:D)(b:Option (Option D))(s:Stt):Res D:=match b with
 |some (some b)=>g a b s
 |_=> .no
def zdJ:cv g x (some (some y)) s=g x y s:=(rfl)
def zk9:y2 m (mC y) g s=(m s).bnd λx s1=>g x y s1:=by
 rw[zdB];cases m s<;>rfl
def zka:y2 m (y0 j) g s=(m s).bnd λx s1=>cv g x s1.σ[j]? s1:=by
 rw[zdB];cases m s with
 |ok x s1=>rw[z20,z20];unfold y0 cv;dsimp only[Stt.psh];cases s1.σ[j]? with
  |none=>rfl
  |some o=>cases o<;>rfl
 |ex d s1=>rfl
 |no=>rfl
noncomputable def qc1(h:List D->M D)(a:Option (Option D))(s:Stt):Res D:=match a with
 |some (some a)=>h [a] s
 |_=> .no
def zb4:qc1 h (some (some x)) s=h [x] s:=(rfl)
def zkb:mCB [y0 i] h ⟨σ,tm,n⟩=qc1 h σ[i]? ⟨σ,tm,n⟩:=by
 rw[zjn];unfold y0 qc1 Z9 bd;dsimp only
 cases σ[i]? with
 |none=>rfl
 |some o=>cases o<;>rfl
def zc4:Z9 [m] s=(m s).bnd λx s1=> .ok [x] s1:=by
 rw[z1T];cases m s<;>rfl
noncomputable def qa1(a:Option (Option D))(s:Stt):Res (List D):=match a with
 |some (some a)=> .ok [a] s
 |_=> .no
def zjo:Z9 [y0 i] ⟨σ,tm,n⟩=qa1 σ[i]? ⟨σ,tm,n⟩:=by
 rw[zc4];unfold y0 qa1;dsimp only
 cases σ[i]? with
 |none=>rfl
 |some o=>cases o<;>rfl
noncomputable def qa2(a b:Option (Option D))(s:Stt):Res (List D):=match a,b with
 |some (some a),some (some b)=> .ok [a,b] s
 |_,_=> .no
def zb5:qa2 (some (some x)) (some (some y)) s= .ok [x,y] s:=(rfl)
def zjp:Z9 [y0 i,y0 j] ⟨σ,tm,n⟩=qa2 σ[i]? σ[j]? ⟨σ,tm,n⟩:=by
 rw[z1T];unfold y0 qa2;dsimp only
 cases σ[i]? with
 |none=>rfl
 |some o=>cases o with
  |none=>rfl
  |some a=>rw[z20];show Res.bnd _ (Z9 [y0 j] ⟨σ,_,_⟩)=_;rw[zjo];unfold qa1;cases σ[j]? with
   |none=>rfl
   |some o=>cases o<;>rfl
noncomputable def qa3(a b c:Option (Option D))(s:Stt):Res (List D):=match a,b,c with
 |some (some a),some (some b),some (some c)=> .ok [a,b,c] s
 |_,_,_=> .no
def zb6:qa3 (some (some x)) (some (some y)) (some (some z)) s= .ok [x,y,z] s:=(rfl)
def zjq:Z9 [y0 i,y0 j,y0 k] ⟨σ,tm,n⟩=qa3 σ[i]? σ[j]? σ[k]? ⟨σ,tm,n⟩:=by
 rw[z1T];unfold y0 qa3;dsimp only
 cases σ[i]? with
 |none=>rfl
 |some o=>cases o with
  |none=>rfl
  |some a=>rw[z20];show Res.bnd _ (Z9 [y0 j,y0 k] ⟨σ,_,_⟩)=_;rw[zjp];unfold qa2;cases σ[j]? with
   |none=>rfl
   |some o=>cases o with
    |none=>rfl
    |some b=>cases σ[k]? with
     |none=>rfl
     |some o=>cases o<;>rfl
noncomputable def qa4(a b c d:Option (Option D))(s:Stt):Res (List D):=match a,b,c,d with
 |some (some a),some (some b),some (some c),some (some d)=> .ok [a,b,c,d] s
 |_,_,_,_=> .no
def zb7:qa4 (some (some x)) (some (some y)) (some (some z)) (some (some u)) s= .ok [x,y,z,u] s:=(rfl)
def zkc:Z9 [y0 i,y0 j,y0 k,y0 p] ⟨σ,tm,n⟩=qa4 σ[i]? σ[j]? σ[k]? σ[p]? ⟨σ,tm,n⟩:=by
 rw[z1T];unfold y0 qa4;dsimp only
 cases σ[i]? with
 |none=>rfl
 |some o=>cases o with
  |none=>rfl
  |some a=>rw[z20];show Res.bnd _ (Z9 [y0 j,y0 k,y0 p] ⟨σ,_,_⟩)=_;rw[zjq];unfold qa3;cases σ[j]? with
   |none=>rfl
   |some o=>cases o with
    |none=>rfl
    |some b=>cases σ[k]? with
     |none=>rfl
     |some o=>cases o with
      |none=>rfl
      |some c=>cases σ[p]? with
       |none=>rfl
       |some o=>cases o<;>rfl
def ziT:Z9 [y0 i,mC y] ⟨σ,tm,n⟩=qa2 σ[i]? (some (some y)) ⟨σ,tm,n⟩:=by
 rw[z1T];unfold y0 qa2;dsimp only
 cases σ[i]? with
 |none=>rfl
 |some o=>cases o<;>rfl
def ziU:Y5 (.nm i) m s=(m s).lf λd s1=> .nx ⟨s1.σ.set i (some d),s1.tm,s1.n⟩:=by
 rw[zgB];cases m s<;>rfl
end
def Y4{t:D}{l n' n:Nat}{b b' r:List D}{σ tm:List (Option D)}{σ1 tm1:D->List (Option D)}(hb:labsL b=[])(hb':labsL b'=[])(hr:labsL r=[])(f1: ∀q,rpO (pl l q) σ=σ1 q)(f2: ∀q,rpO (pl l q) tm=tm1 q)(e1:σ1 (.lst l b)=σ:=by rfl)(e2:tm1 (.lst l b)=tm:=by rfl):
 z1J (.ok t (.lst l b'::r) n') (.lst l b::r) ⟨σ,tm,n⟩= .ok t ⟨σ1 (.lst l b'),tm1 (.lst l b'),n'⟩:=by
 rw[z0l hb hb' hr ((f1 _).trans e1) ((f2 _).trans e2),f1,f2]
end Mi
set_option maxHeartbeats 1000000
namespace Mi
open PySem L2
def zb8{K:ItK}{f i:Nat}{s s':Stt}(h1:K.at' i s.tm=some (some d))(h2:asg g d s.σ=some σ')(h3:b {s with σ:=σ'}= .nx s'):forGo K g b (f+1) i s=forGo K g b f (i+1) s':=by
 conv=>lhs;unfold forGo
 erw[h1,h2,h3]
def zdK{K:ItK}{f i:Nat}{s:Stt}(h1:K.at' i s.tm=some none):forGo K g b f i s= .nx (s.popn K.k):=by
 unfold forGo
 erw[h1]
end Mi
namespace My
open PySem L2 Mi
noncomputable def isInt:D->Bool
 | .int _=>true
 |_=>false
def at0{a:D}{l:List D}:atI (a::l) 0=some a:=z3A (by decide) rfl
def at1{a b:D}{l:List D}:atI (a::b::l) 1=some b:=z3A (by decide) rfl
def at2{a b c:D}{l:List D}:atI (a::b::c::l) 2=some c:=z3A (by decide) rfl
def ziV{i j:Int}{s:Stt}:eqD (.int i) (.int j) s= .ok (.bool (i==j)) s:=by
 rw[zhv (by simp[eqC,Mi.plain,er,PyData.canLay0,PyData.depth])];erw[er,PyData.eqv]
def c0:((0:Nat):Int)=0:=rfl
def c1:((1:Nat):Int)=1:=rfl
def c2:((2:Nat):Int)=2:=rfl
def c3:((3:Nat):Int)=3:=rfl
def c4:((4:Nat):Int)=4:=rfl
noncomputable def Gd(t:D):Prop:=plain t=true/\(er t).canLay0=true
noncomputable def GdL(ds:List D):Prop:=plainL ds=true/\PyData.canLayAll0 (erL ds)=true
def Gd.tup:Gd (.tup ds)↔GdL ds:=by erw[Gd,GdL,Mi.plain,er,PyData.canLay0]
def Gd.lst{l:Nat}:Gd (.lst l ds)↔GdL ds:=by erw[Gd,GdL,Mi.plain,er,PyData.canLay0]
def GdL.cons:GdL (d::ds)↔Gd d/\GdL ds:=by
 erw[Gd,GdL,plainL,erL,PyData.canLayAll0,A7]
 constructor
 .rintro ⟨⟨a,b⟩,c,d⟩;exact⟨⟨a,c⟩,b,d⟩
 .rintro ⟨⟨a,c⟩,b,d⟩;exact⟨⟨a,b⟩,c,d⟩
def zl:sizeLine=16777216:=rfl
section
variable{a b c d:D}{s:Stt}
def t0:Q1 [] s= .ok (.tup []) s:=z9k (by decide)
def t1:Q1 [a] s= .ok (.tup [a]) s:=z9k (by rw[zl];simp)
def t2:Q1 [a,b] s= .ok (.tup [a,b]) s:=z9k (by rw[zl];simp)
def t3:Q1 [a,b,c] s= .ok (.tup [a,b,c]) s:=z9k (by rw[zl];simp)
def t4:Q1 [a,b,c,d] s= .ok (.tup [a,b,c,d]) s:=z9k (by rw[zl];simp)
def k0{σ tm:List (Option D)}{n:Nat}:lstM [] ⟨σ,tm,n⟩= .ok (.lst n []) ⟨σ,tm,n+1⟩:=z64 (by rw[zl];simp)
def k1{σ tm:List (Option D)}{n:Nat}:lstM [a] ⟨σ,tm,n⟩= .ok (.lst n [a]) ⟨σ,tm,n+1⟩:=z64 (by rw[zl];simp)
def k2{σ tm:List (Option D)}{n:Nat}:lstM [a,b] ⟨σ,tm,n⟩= .ok (.lst n [a,b]) ⟨σ,tm,n+1⟩:=z64 (by rw[zl];simp)
def k3{n:Nat}:lstM [a,b,c] ⟨σ,tm,n⟩= .ok (.lst n [a,b,c]) ⟨σ,tm,n+1⟩:=z64 (by rw[zl];simp)
def k4{n:Nat}:lstM [a,b,c,d] ⟨σ,tm,n⟩= .ok (.lst n [a,b,c,d]) ⟨σ,tm,n+1⟩:=z64 (by rw[zl];simp)
end
def BA{a b:Prop}(h:a)(k:b):a/\b:=⟨h,k⟩
noncomputable def B_0:=BA (BA (BA (BA (BA (BA @zir (BA @zhu @z20)) (BA (BA @z4k @zin) (BA @zio @zjR))) (BA (BA @zgl (BA @zis @zit)) (BA (BA @zb1 @ziu) (BA @x_C @zdB)))) (BA (BA (BA @ziv (BA @zgm @zgn)) (BA (BA @zjS @zjT) (BA @zjU @ziw))) (BA (BA (BA @zjV @zix) (BA @zgo @zgp)) (BA (BA @zjW @zjX) (BA @zdC @z1T))))) (BA (BA (BA (BA @zjn (BA @zgq @z9g)) (BA (BA @ziz @z9h) (BA @zdD @zdE))) (BA (BA (BA @zgr @zjY) (BA @zgs @zjZ)) (BA (BA @zk0 @ziB) (BA @ziC @ziD)))) (BA (BA (BA @ziE (BA @ziF @ziG)) (BA (BA @zgt @zgu) (BA @zgv @ziH))) (BA (BA (BA @ziI @ziJ) (BA @zgw @zgx)) (BA (BA @zgy @zdG) (BA @zdH @ziM)))))) (BA (BA (BA (BA (BA @zgz (BA @ziN @zgA)) (BA (BA @zdI @ziO) (BA @zk1 @zk2))) (BA (BA (BA @z9l @zgB) (BA @ziQ @zgD)) (BA (BA @ziR @z7v) (BA @ziq @z9f)))) (BA (BA (BA @i6.{0,0} (BA @A2.{0,0} @A6.{0})) (BA (BA @B7.{0} @l0.{0}) (BA @List.getElem?_cons_zero.{0} @List.getElem?_cons_succ.{0}))) (BA (BA (BA @List.getElem?_nil.{0} @D0.{0}) (BA @D6.{0} @A3.{0})) (BA (BA @B2.{0} @l6.{0,0}) (BA @E1.{0,0} @E5))))) (BA (BA (BA (BA @F4 (BA @beq_self_eq_true.{0} @F6)) (BA (BA @Nat.sub_self @t0) (BA @t1 @t2))) (BA (BA (BA @t3 @k0) (BA @k1 @k2)) (BA (BA @Bool.or_false @L8) (BA @R4 @Bool.or_true)))) (BA (BA (BA @P4 (BA @F3 @u07)) (BA (BA @S7 @at0) (BA @at1 @at2))) (BA (BA (BA @ziV @z0U) (BA @Z7 @zgE)) (BA (BA @Q7 @zc2) (BA @J9 @J3))))))
noncomputable def B_1:=BA @zb2 @zb3
local macro_rules | `(tactic| left) => `(tactic| (simp (config := { dsimp := false }) only [B_0, B_1, isiD, Y2, asg, asgL, m9, P5, P6, String.reduceBEq, P7]))
noncomputable def Bg(c x:Int):Prop:=0<=c/\0<=x/\x<2147483647
def Q6(l:Nat)(c x top:Int)(n:Nat)(h:Bg c x)(ht:0<top)(ht':top<1000000): ∃r c' x',0<=r/\r<top/\Bg c' x'/\y3 [.lst l [.int c, .int x], .int top] n= .ok (.int r) [.lst l [.int c', .int x'], .int top] n:=by
 unfold y3 z4g
 obtain⟨h0,h1,h2⟩:=h
 by_cases hc:0<c
 .refine⟨c %top,c/top,x,F8 _ (by lia),E7 _ ht,⟨Int.ediv_nonneg h0 (by lia),h1,h2⟩, ?_⟩
  left
  erw[hc,decide_true]
  left
  rw[z32 ht]
  left
  rw[z9j ⟨ht,by lia⟩]
  left
  rw[zgC (j:=0) rfl (by simp[labs])]
  left
 .have hx0:=F8 (x*48271+7919) (show(2147483647:Int)≠0 by decide)
  have hx1:=E7 (x*48271+7919) (show(0:Int)<2147483647 by decide)
  generalize hy:(x*48271+7919) %2147483647=y at hx0 hx1
  refine⟨(y^(3:Int).toNat %2147483587/7*69621 %1073741789) %top,c,y,F8 _ (by lia),E7 _ ht,⟨h0,hx0,hx1⟩, ?_⟩
  left
  erw[hc,decide_false]
  left
  rw[z9i (.inl ⟨by lia,by lia⟩)]
  left
  rw[z32 (by decide),hy]
  left
  rw[zgC (j:=1) rfl (by simp[labs])]
  left
  rw[zdF ⟨by decide,by decide,by lia⟩]
  left
  rw[z32 (by decide)]
  left
  rw[z9j ⟨by decide,by decide⟩]
  left
  rw[z9i (.inr ⟨by decide,by decide⟩)]
  left
  rw[z32 (by decide)]
  left
  rw[z32 ht]
  left
noncomputable def B_2:=BA (BA @z7w @zc3) (BA @zgF @R9)
local macro_rules | `(tactic| left) => `(tactic| (simp (config := { dsimp := false }) only [B_0, B_1, B_2, isiD, Y2, asg, asgL, m9, P5, P6, String.reduceBEq, P7]))
def zc5{ns:List Int}{a:Nat}(h:a<ns.length):atI (ns.map D.int) (a:Int)=some (.int ns[a]):=z3A (by lia) (by simp[h])
def zgH(ns:List Int)(a n:Nat)(ha:a<1000)(hl:ns.length<1000): ∃c x,Bg c x/\z2W [.ro (ns.map .int), .int a] n= .ok (.lst n [.int c, .int x]) [.ro (ns.map .int), .int a] (n+1):=by
 unfold z2W z61
 left
 have key: ∃c:Int,0<=c/\zbP (decide ((a:Int)<((ns.map D.int).length:Int))) (Y5 (Tg.nm 2) (mCB [y2 (y0 0) (y0 1) ixD] zej)) sNx ⟨[some (.ro (ns.map .int)),some (.int a),some (.int 0),none,none],[some (.ro (ns.map .int)),some (.int a)],n⟩= .nx ⟨[some (.ro (ns.map .int)),some (.int a),some (.int c),none,none],[some (.ro (ns.map .int)),some (.int a)],n⟩:=by
  by_cases h:a<ns.length
  .refine⟨if ns[a]<0 then -ns[a] else ns[a], ?_, ?_⟩
   rotate_left
   .rw[show decide ((a:Int)<((ns.map D.int).length:Int))=true by simp[h]]
    left
    rw[zc5 h]
    left
   .split<;>lia
  .refine⟨0,by decide, ?_⟩
   rw[show decide ((a:Int)<((ns.map D.int).length:Int))=false by simp;lia]
   left
 obtain⟨c,hc,e1⟩:=key
 rw[e1]
 left
 rw[z32 (by decide)]
 left
 rw[z9i (.inl ⟨by decide,by decide⟩)]
 left
 have q0:=F8 c (show(2147483629:Int)≠0 by decide)
 have q1:=E7 c (show(0:Int)<2147483629 by decide)
 rw[zdF ⟨by decide,by decide,by lia⟩]
 left
 rw[z32 (by decide)]
 left
 have w0:((ns.map D.int).length:Int)=ns.length:=by simp
 rw[w0]
 generalize hk:(if(60:Int)<(ns.length:Int) then(60:Int) else(ns.length:Int))=k
 have hk0:0<=k/\k<=60/\k<=ns.length:=by split at hk<;>lia
 rw[z1y ⟨by lia,by lia⟩]
 left
 have p0:=F8 ((c %2147483629+104729*(a:Int)+17)^(5:Int).toNat) (show(2147483647:Int)≠0 by decide)
 have p1:=E7 ((c %2147483629+104729*(a:Int)+17)^(5:Int).toNat) (show(0:Int)<2147483647 by decide)
 generalize (c %2147483629+104729*(a:Int)+17)^(5:Int).toNat %2147483647=x0 at p0 p1
 obtain⟨s',e2,x,o,hx0,hx1,rfl⟩:=z0y (P:=λi s=> ∃(x:Int) (o:Option D),0<=x/\x<2147483647/\s=⟨[some (.ro (ns.map .int)),some (.int a),some (.int c),some (.int x),o],[some (.ro (ns.map .int)),some (.int a)],n⟩) (lo:=0) (N:=k.toNat) (g:= .nm 4) (b:=Y5 (.nm 3) (y2 (y2 (y2 (y2 (y0 3) (mC (.int 48271)) z7h) (y2 (y2 (y2 (y0 0) (y0 4) ixD) (mC (.int 2147483587)) z24) (y2 (y0 4) (mC (.int 3)) v6) z7h) v6) (y0 4) v6) (mC (.int 2147483629)) z24)) (by
  rintro i hi s ⟨x,o,h0,h1,rfl⟩
  have hi':i<ns.length:=by lia
  refine⟨[some (.ro (ns.map .int)),some (.int a),some (.int c),some (.int x),some (.int i)],by erw[R9];rfl, ?_⟩
  refine⟨⟨[some (.ro (ns.map .int)),some (.int a),some (.int c),some (.int ((x*48271+ns[i] %2147483587*(i+3)+i) %2147483629)),some (.int i)],[some (.ro (ns.map .int)),some (.int a)],n⟩, ?_, ?_⟩
  .left
   rw[z9i (.inl ⟨by lia,by lia⟩)]
   left
   rw[zc5 hi']
   left
   rw[z32 (by decide)]
   left
   rw[z9i (.inr ⟨by lia,by lia⟩)]
   left
   rw[z32 (by decide)]
   left
  .have r0:=F8 (x*48271+ns[i] %2147483587*(i+3)+i) (show(2147483629:Int)≠0 by decide)
   have r1:=E7 (x*48271+ns[i] %2147483587*(i+3)+i) (show(0:Int)<2147483629 by decide)
   exact⟨_,_,r0,by lia,rfl⟩) k.toNat 0 ⟨[some (.ro (ns.map .int)),some (.int a),some (.int c),some (.int x0),none],[some (.ro (ns.map .int)),some (.int a)],n⟩ (by lia) ⟨x0,none,p0,p1,rfl⟩
 rw[e2]
 left
 rw[zdF ⟨by decide,by decide,by decide⟩]
 left
 by_cases h:c<10^(18:Int).toNat
 .refine⟨0,x,⟨by decide,hx0,hx1⟩, ?_⟩
  erw[h,decide_true]
  left
 .refine⟨c,x,⟨hc,hx0,hx1⟩, ?_⟩
  erw[h,decide_false]
  left
def z09{l k:Nat}(h:k≠l):rp (pl l d) (.lst k ds)= .lst k (rpL (pl l d) ds):=by erw[rp,pl,if_neg h]
mutual
noncomputable def Rs(n:Nat):D->Bool
 | .non=>true| .bool _=>true| .int _=>true| .str x=>PyData.strOk x
 | .tup ds=>decide (ds.length<=2000)&&RsL n ds
 | .lst l ds=>decide (n<=l)&&(decide (ds.length<=2000)&&RsL n ds)
 | .ro _=>false| .dct _ _ _=>false| .obj _ _ _ _=>false| .exc _=>false| .fn _=>false| .fdc _ _=>false
noncomputable def RsL(n:Nat):List D->Bool
 |[]=>true
 |d::ds=>Rs n d&&RsL n ds
end
noncomputable def Up(m:Nat)(t:D):Prop:= ∀k∈labs t,k<m
def zgI{α:Type}{ds:List α}{r:Int}(h0:0<=r)(h1:r<ds.length): ∃d∈ds,atI ds r=some d:=by
 have h:r.toNat<ds.length:=by lia
 exact⟨ds[r.toNat],B3 h,z3A h0 (by simp[h])⟩
def ok1:PyData.strOk ("1" :Str)=true:=by decide+kernel
theorem z65{n:Nat}: ∀{ds:List D},RsL n ds=true↔∀d∈ds,Rs n d=true
 |[]=>by simp[RsL]
 |d::ds=>by erw[RsL,A7,z65 (ds:=ds),F2]
theorem z66{k:Nat}: ∀{ds:List D},PyData.depthAll (erL ds)<=k↔∀d∈ds,(er d).depth<=k
 |[]=>by simp[erL,PyData.depthAll]
 |d::ds=>by simp only[erL,PyData.depthAll,F2,<-z66 (ds:=ds)];lia
mutual
theorem z9n{n:Nat}: ∀t:D,Rs n t=true->Gd t
 | .non,_=>⟨rfl,rfl⟩
 | .bool _,_=>⟨rfl,rfl⟩
 | .int _,_=>⟨rfl,rfl⟩
 | .str _,h=>⟨rfl,by simpa[Rs,er,PyData.canLay0] using h⟩
 | .tup ds,h=>by erw[Rs,A7] at h;exact Gd.tup.mpr (RsL_gd ds h.2)
 | .lst _ ds,h=>by erw[Rs,A7] at h;exact Gd.lst.mpr (RsL_gd ds h.2.2)
 | .ro _,h=>by simp[Rs] at h
 | .dct _ _ _,h=>by simp[Rs] at h
 | .obj _ _ _ _,h=>by simp[Rs] at h
 | .exc _,h=>by simp[Rs] at h
 | .fn _,h=>by simp[Rs] at h
 | .fdc _ _,h=>by simp[Rs] at h
theorem RsL_gd{n:Nat}: ∀t:List D,RsL n t=true->GdL t
 |[],_=>⟨rfl,rfl⟩
 |d::ds,h=>by erw[RsL,A7] at h;exact GdL.cons.mpr ⟨z9n d h.1,RsL_gd ds h.2⟩
end
def z6L{n k:Nat}{es:List D}(hl:es.length<=2000)(h: ∀e∈es,Rs n e=true/\(er e).depth<=k):Rs n (.tup es)=true/\(er (.tup es)).depth<=k+1:=by
 refine⟨?_, ?_⟩
 .erw[Rs,A7,decide_eq_true_eq];exact⟨hl,z65.mpr λd m=>(h d m).1⟩
 .erw[er,PyData.depth];exact u02 (z66.mpr λd m=>(h d m).2)
def z5i{n k l:Nat}{es:List D}(hn:n<=l)(hl:es.length<=2000)(h: ∀e∈es,Rs n e=true/\(er e).depth<=k):Rs n (.lst l es)=true/\(er (.lst l es)).depth<=k+1:=by
 refine⟨?_, ?_⟩
 .erw[Rs,A7,decide_eq_true_eq];exact⟨hn,hl,z65.mpr λd m=>(h d m).1⟩
 .erw[er,PyData.depth];exact u02 (z66.mpr λd m=>(h d m).2)
theorem labsL_mem{k:Nat}: ∀{es:List D},k∈labsL es->∃e∈es,k∈labs e
 |e::es,h=>by
  erw[labsL,l4] at h
  rcases h with h|h
  .exact⟨e,l5,h⟩
  .obtain⟨e',h1,h2⟩:=labsL_mem h
   exact⟨e',i5 _ h1,h2⟩
def z9o(gy:Gd y)(gd:Gd d)(e:er y=er d)(hd:(er d).depth<=60):neD y d s= .ok (.bool false) s:=by
 rw[zhw (by erw[eqC,gy.1,gd.1,gy.2,gd.2,e,F3,decide_eq_true_eq];lia),e,PySem.SeqAt.eqv_refl _ gd.2];rfl
def Z0{f:Nat->Option D}{o:Option D}{r:List (Option D)}:rpO f (o::r)=o.map (rp f)::rpO f r:=by cases o<;>rfl
noncomputable def UpO(n:Nat)(o:Option D):Prop:= ∀d,o=some d->Up n d
def UpO.fixk{n k:Nat}(h:UpO n o)(hk:n<=k)(d:D):C6 (rp (pl k d)) o=o:=by
 cases o with
 |none=>rfl
 |some t=>erw[l6];rw[G4 λm=>by have:=h t rfl k m;lia]
def UpO.fix{n:Nat}(h:UpO n o)(d:D):C6 (rp (pl n d)) o=o:=by
 cases o with
 |none=>rfl
 |some t=>erw[l6];rw[G4 λm=>D8 _ (h t rfl n m)]
def k5{n:Nat}:lstM [a,b,c,d,e] ⟨σ,tm,n⟩= .ok (.lst n [a,b,c,d,e]) ⟨σ,tm,n+1⟩:=z64 (by rw[zl];simp)
def k6{n:Nat}:lstM [a,b,c,d,e,f] ⟨σ,tm,n⟩= .ok (.lst n [a,b,c,d,e,f]) ⟨σ,tm,n+1⟩:=z64 (by rw[zl];simp)
def ziW{i j:Int}{s:Stt}:neD (.int i) (.int j) s= .ok (.bool (!(i==j))) s:=by
 rw[zhw (by simp[eqC,Mi.plain,er,PyData.canLay0,PyData.depth])];erw[er,PyData.eqv]
noncomputable def z9p:D->Bool
 | .non=>true
 |_=>false
def ziX{d:D}{s:Stt}:isN d .non s= .ok (.bool (z9p d)) s:=by cases d<;>rfl
def z34{ws:List D}{l:Nat}:z4W ws none (some (l:Int))=ws.take l:=by
 unfold z4W
 rw[HT.sIx_nat,HT.sIx_none,L3,Nat.sub_zero]
 rcases S0 l ws.length with h|h
 .rw[N8 h]
 .rw[N0 h,N1,B0 h]
def z9q{ws:List D}{l:Nat}:z4W ws (some (l:Int)) none=ws.drop l:=by
 unfold z4W
 rw[HT.sIx_nat,HT.sIx_none]
 rcases S0 l ws.length with h|h
 .rw[N8 h,B0 (by simp)]
 .rw[N0 h,List.drop_length,T0,D1 h]
noncomputable abbrev Z5:=List Int×List Int×List Int
noncomputable def Wf(r:Z5):Prop:=1<=r.1.length/\r.1.length<=4/\r.2.1.length<=3/\r.2.2.length<r.1.length/\∀k∈r.1,0<=k/\k<26
noncomputable def G2(keys:List Int)(best:Option Z5)(r:Z5):Option Z5:=if keys.take r.1.length=r.1/\best.elim 0 (λb=>b.1.length)<r.1.length then some r else best
noncomputable def z0V(rows:List Z5)(keys:List Int):Option Z5:=rows.foldl (G2 keys) none
noncomputable def Q3(rows:List Z5)(keys:List Int):Z5:=match z0V rows keys with
 |none=>([],keys.take 1,keys.drop 1)
 |some r=>(r.2.1,[],r.2.2++keys.drop r.1.length)
noncomputable def z4m(rows:List Z5):Nat->List Int->List Int×List Int
 |0,_=>([],[])
 |n+1,ks=>if ks=[] then([],[]) else((Q3 rows ks).1++(z4m rows n (Q3 rows ks).2.2).1,(Q3 rows ks).2.1++(z4m rows n (Q3 rows ks).2.2).2)
def z7A{keys:List Int}{r q:Z5}(h:G2 keys best r=some q):best=some q\/(q=r/\keys.take q.1.length=q.1):=by
 unfold G2 at h
 split at h
 .rename_i hc
  cases h
  exact .inr ⟨rfl,hc.1⟩
 .exact .inl h
theorem z21{keys:List Int}: ∀(rows:List Z5) (best:Option Z5) (q:Z5),rows.foldl (G2 keys) best=some q->best=some q\/(q∈rows/\keys.take q.1.length=q.1)
 |[],best,q,h=> .inl h
 |r::rows,best,q,h=>by
  rw[E8] at h
  rcases z21 rows _ q h with e|⟨m,e⟩
  .rcases z7A e with e|⟨e1,e2⟩
   .exact .inl e
   .exact .inr ⟨e1▸l5,e2⟩
  .exact .inr ⟨i5 _ m,e⟩
def z0z{keys:List Int}{q:Z5}(h:z0V rows keys=some q):q∈rows/\keys.take q.1.length=q.1:=by
 rcases z21 rows none q h with e|e
 .cases e
 .exact e
def z0A{keys:List Int}(hw: ∀r∈rows,Wf r)(hk:keys≠[]):(Q3 rows keys).2.2.length<keys.length/\(Q3 rows keys).1.length<=3/\(Q3 rows keys).2.1.length<=1/\((Q3 rows keys).2.1.length+(Q3 rows keys).2.2.length<=keys.length):=by
 have hl:0<keys.length:=by
  cases keys with
  |nil=>exact absurd rfl hk
  |cons _ _=>simp
 unfold Q3
 cases e:z0V rows keys with
 |none=>
  dsimp only
  rw[C7,B6,B2]
  lia
 |some r=>
  obtain⟨m,t⟩:=z0z e
  obtain⟨w1,w2,w3,w4⟩:=hw r m
  have:=congrArg L9 t
  rw[B6] at this
  dsimp only
  rw[m5,C7,B2]
  lia
theorem z5j(hw: ∀r∈rows,Wf r): ∀(n m:Nat) (ks:List Int),ks.length<=n->ks.length<=m->z4m rows n ks=z4m rows m ks
 |0,0,ks,_,_=>rfl
 |0,m+1,ks,h,_=>by
  have e:ks=[]:=F5 (by lia)
  unfold z4m
  rw[if_pos e]
 |n+1,0,ks,_,h=>by
  have e:ks=[]:=F5 (by lia)
  unfold z4m
  rw[if_pos e]
 |n+1,m+1,ks,h1,h2=>by
  unfold z4m
  by_cases e:ks=[]
  .rw[if_pos e,if_pos e]
  .obtain⟨l,_⟩:=z0A hw e
   rw[if_neg e,if_neg e,z5j hw n m _ (by lia) (by lia)]
noncomputable def z1U(rows:List Z5)(ks:List Int):List Int×List Int:=z4m rows ks.length ks
def z9r(rows:List Z5):z1U rows []=([],[]):=rfl
def z7B(hw: ∀r∈rows,Wf r)(h:ks≠[]):
 z1U rows ks=((Q3 rows ks).1++(z1U rows (Q3 rows ks).2.2).1,(Q3 rows ks).2.1++(z1U rows (Q3 rows ks).2.2).2):=by
 obtain⟨l,_⟩:=z0A hw h
 obtain⟨n,hn⟩: ∃n,ks.length=n+1:=⟨ks.length - 1,by lia⟩
 unfold z1U
 rw[hn]
 conv=>lhs;unfold z4m
 rw[if_neg h,z5j hw n _ _ (by lia) (i7 _)]
noncomputable abbrev tI(ns:List Int):D:= .tup (ns.map .int)
theorem z4n: ∀ns:List Int,erL (ns.map .int)=ns.map PyData.int
 |[]=>rfl
 |n::ns=>by erw[i6,erL,er,z4n ns]
def z7C(ns:List Int):er (tI ns)=L2.dT ns:=by erw[tI,er,z4n];rfl
theorem z67: ∀ns:List Int,plainL (ns.map D.int)=true
 |[]=>rfl
 |n::ns=>by erw[i6,plainL,Mi.plain,z67 ns];rfl
def zc6(a b:List Int):eqC (tI a) (tI b)=true:=by
 have h1:Mi.plain (tI a)=true:=z67 a
 have h2:Mi.plain (tI b)=true:=z67 b
 have:=zbL a
 erw[eqC,h1,h2,z7C,zfw,F3,decide_eq_true_eq];lia
def z3C{a b:List Int}{s:Stt}:eqD (tI a) (tI b) s= .ok (.bool (decide (a=b))) s:=by rw[zhv (zc6 a b),z7C,z7C,z8t]
def z9s{a b:List Int}{s:Stt}:neD (tI a) (tI b) s= .ok (.bool (!decide (a=b))) s:=by rw[zhw (zc6 a b),z7C,z7C,z8t]
noncomputable abbrev rD(r:Z5):D:= .tup [tI r.1,tI r.2.1,tI r.2.2]
noncomputable def oD:Option Z5->D
 |none=> .non
 |some r=>rD r
def U7{P:Nat->Stt->Prop}{l:Nat}{g:Tg}{b:MS}(hP: ∀i s,P i s->s.tm=some (.lst l ds)::tm)
 (body: ∀i d,ds[i]? =some d->∀s,P i s->∃σ',asg g d s.σ=some σ'/\∃s',b {s with σ:=σ'}= .nx s'/\P (i+1) s'):
 ∀(f i:Nat) (s:Stt),i+f=ds.length->P i s->∃s',forGo kLst g b f i s= .nx (s'.popn 1)/\P ds.length s':=by
 intro f
 induction f with
 |zero=>
  intro i s hi h
  have hi:i=ds.length:=by lia
  refine⟨s, ?_,hi▸h⟩
  unfold forGo
  have e:kLst.at' i s.tm=some none:=by rw[hP i s h];show some ds[i]? =_;rw[List.getElem?_eq_none (by lia)]
  erw[e]
  rfl
 |succ f ih=>
  intro i s hi h
  have hl:i<ds.length:=by lia
  obtain⟨σ',e1,s',e2,h'⟩:=body i ds[i] (List.getElem?_eq_getElem hl) s h
  obtain⟨s2,e3,h2⟩:=ih (i+1) s' (by lia) h'
  refine⟨s2, ?_,h2⟩
  unfold forGo
  have e:kLst.at' i s.tm=some (some ds[i]):=by rw[hP i s h];show some ds[i]? =_;rw[List.getElem?_eq_getElem hl]
  erw[e,e1,e2]
  exact e3
def z9t:z18 fu c b s=Q0 c b (fu s) s:=(rfl)
def z68{ns:List Int}{k:Nat}:(ns.map D.int).take k=(ns.take k).map D.int:=by rw[P3]
def z9u{ns:List Int}{k:Nat}:(ns.map D.int).drop k=(ns.drop k).map D.int:=by rw[u09]
def z4B{ns:List Int}:((ns.map D.int).length:Int)=(ns.length:Int):=by rw[i9]
noncomputable def B_3:=BA (BA (BA (BA (BA @qg1 @qg2) (BA @qg3 @qg4)) (BA (BA @qg5 @qg6) (BA @qg7 @qg8))) (BA (BA (BA @qg9 @zk3) (BA @zk4 @zk5)) (BA (BA @zk6 @qh1) (BA @qh2 (BA @qh3 @qh4))))) (BA (BA (BA (BA @qh5 @qh6) (BA @qh7 @qh8)) (BA (BA @qh9 @zk7) (BA @zk8 @zk9))) (BA (BA (BA @zka @zkb) (BA @zjo @zjp)) (BA (BA @zjq @zkc) (BA @ziT (BA @zc4 @ziU)))))
noncomputable def B_4:=BA (BA (BA @zdJ @zb4) (BA @zb5 (BA @zb6 @zb7))) (BA (BA @ziW @Z0) (BA @ziX (BA @z3C @z9s)))
local macro_rules | `(tactic| left) => `(tactic| (simp (config := { dsimp := false }) only [B_0, B_2, ↓B_3, B_4, isiD, Y2, asg, asgL, m9, P5, P6, String.reduceBEq, P7]))
def z7D(rows:List Z5)(ks:List Int)(l n:Nat)(hw: ∀r∈rows,0<r.1.length):U5 [.lst l (rows.map rD),tI ks] n= .ok (oD (z0V rows ks)) [.lst l (rows.map rD),tI ks] n:=by
 unfold U5 K6
 left
 obtain⟨s',e,hs⟩:=U7 (P:=λi s=> ∃o3,s=⟨[some (.lst l (rows.map rD)),some (tI ks),some (oD ((rows.take i).foldl (G2 ks) none)),o3],some (.lst l (rows.map rD))::[some (.lst l (rows.map rD)),some (tI ks)],n⟩) (l:=l) (ds:=rows.map rD) (g:= .nm 3) (tm:=[some (.lst l (rows.map rD)),some (tI ks)])
  (b:=sIf (z8F (G7 (y2 (mSl (y0 1) none (some (mCB [(y2 (y0 3) (mC (.int 0)) ixD)] U3))) (y2 (y0 3) (mC (.int 0)) ixD) eqD)) (mOr (G7 (y2 (y0 2) (mC .non) isN)) (G7 (y2 (mCB [(y2 (y0 3) (mC (.int 0)) ixD)] U3) (mCB [(y2 (y0 2) (mC (.int 0)) ixD)] U3) gtD)))) (Y5 (.nm 2) (y0 3)) sNx)
  (by rintro i s ⟨o3,rfl⟩;rfl) (by
   rintro i d hd s ⟨o3,rfl⟩
   refine⟨_,rfl, ?_⟩
   rw[List.getElem?_map] at hd
   cases hr:rows[i]? with
   |none=>rw[hr] at hd;cases hd
   |some r=>
    rw[hr] at hd
    cases hd
    have hf:(rows.take (i+1)).foldl (G2 ks) none=G2 ks ((rows.take i).foldl (G2 ks) none) r:=by
     rw[C3,hr,B9,L1];rfl
    rw[hf]
    generalize (rows.take i).foldl (G2 ks) none=best
    show ∃s',_/\∃o3,s'=_
    left
    rw[z4B,z34,z68,z3C]
    left
    by_cases h1:ks.take r.1.length=r.1
    .erw[h1,decide_true]
     left
     cases best with
     |none=>
      erw[oD,z9p]
      left
      refine⟨_,rfl,some (rD r), ?_⟩
      unfold G2
      rw[if_pos ⟨h1,hw r (List.mem_of_getElem? hr)⟩]
     |some b=>
      erw[oD,z9p]
      left
      rw[z4B,z4B]
      by_cases h2:b.1.length<r.1.length
      .erw[show decide ((b.1.length:Int)<(r.1.length:Int))=true by simp[h2]]
       left
       refine⟨_,rfl,some (rD r), ?_⟩
       unfold G2
       rw[if_pos ⟨h1,h2⟩]
      .erw[show decide ((b.1.length:Int)<(r.1.length:Int))=false by simp;lia]
       left
       refine⟨_,rfl,some (rD r), ?_⟩
       unfold G2
       rw[if_neg λh=>h2 h.2]
    .erw[h1,decide_false]
     left
     refine⟨_,rfl,some (rD r), ?_⟩
     unfold G2
     rw[if_neg λh=>h1 h.1]) rows.length 0 ⟨[some (.lst l (rows.map rD)),some (tI ks),some .non,none],some (.lst l (rows.map rD))::[some (.lst l (rows.map rD)),some (tI ks)],n⟩ (by simp) ⟨none,by simp[oD]⟩
 obtain⟨o3,rfl⟩:=hs
 rw[z0G (l:=l) (ds:=rows.map rD) (σ:=[some (.lst l (rows.map rD)),some (tI ks),some .non,none]) (tm:=[some (.lst l (rows.map rD)),some (tI ks)]) (n:=n) (by left)]
 left
 rw[show kLst.len (some (.lst l (rows.map rD))::[some (.lst l (rows.map rD)),some (tI ks)])=rows.length by show(rows.map rD).length=_;simp,e]
 left
 rw[i9,N1]
 rfl
noncomputable def ofI:D->Int
 | .int i=>i
 |_=>0
noncomputable def unI:D->List Int
 | .tup ds=>ds.map ofI
 |_=>[]
noncomputable def unR:D->Z5
 | .tup [a,b,c]=>(unI a,unI b,unI c)
 |_=>([],[],[])
def zc7(ns:List Int):unI (tI ns)=ns:=by
 erw[unI,D4]
 induction ns with
 |nil=>rfl
 |cons n ns ih=>erw[i6,Function.comp,ofI,ih]
def zc8(r:Z5):unR (rD r)=r:=by erw[unR,zc7]
noncomputable def wt(ks:List Int)(r:Z5):Bool:=decide (ks.length<r.1.length)&&decide (r.1.take ks.length=ks)
noncomputable def gW(ks:List Int)(d:D):D:= .bool (wt ks (unR d))
noncomputable def bb1(o:Option Z5):List Int:=o.elim [] (·.1)
noncomputable def bb2(o:Option Z5):List Int:=o.elim [] (·.2.1)
noncomputable def bb3(o:Option Z5):List Int:=o.elim [] (·.2.2)
def zkd{n:Int}:atI ((n::ns).map D.int) 0=some (.int n):=at0
def zgJ{ws:List D}:z4W ws none (some (1:Int))=ws.take 1:=z34 (l:=1)
def zc9{ws:List D}:z4W ws (some (1:Int)) none=ws.drop 1:=z9q (l:=1)
theorem z5k(ks:List Int): ∀rows:List Z5,X5 (rows.map λr=>D.bool (wt ks r))=some (rows.map (wt ks))
 |[]=>rfl
 |r::rows=>by erw[i6,X5,z5k ks rows,l6]
def px1{n:Nat}:Stt.popn ⟨σ,a::tm,n⟩ 1=⟨σ,tm,n⟩:=rfl
def zb9(rows:List Z5)(ks:List Int)(l n:Nat)(hw: ∀r∈rows,Wf r)(hk:ks.length<=1000):U6 [.lst l (rows.map rD),tI ks] n= .ok (.tup [tI (Q3 rows ks).1,tI (Q3 rows ks).2.1,tI (Q3 rows ks).2.2]) [.lst l (rows.map rD),tI ks] n:=by
 unfold U6 z0t
 left
 rw[z7D rows ks l n λr h=>(hw r h).1]
 unfold Q3
 cases hb:z0V rows ks with
 |none=>
  erw[oD]
  left
  erw[z9p]
  left
  rw[zgJ,zc9,z68,z9u]
  rfl
 |some r=>
  obtain⟨w1,w2,w3,w4⟩:=hw r (z0z hb).1
  erw[oD]
  left
  erw[z9p]
  left
  rw[z4B,z9q,z9u,z3z (by rw[zl];erw[i9,C7];lia)]
  left
  rw[<-t8]
  rfl
def zdL(rows:List Z5)(ks:List Int)(l n:Nat)(hr:rows.length<1000): ∃n',n<=n'/\X3 [.lst l (rows.map rD),tI ks] n= .ok (.bool (rows.any (wt ks))) [.lst l (rows.map rD),tI ks] n':=by
 unfold X3 z0Q
 left
 obtain⟨n',hn,e⟩:=z7z (mc:=y0 0) (mt:=rt true) (me:=z5K (y2 (mCB [(y0 1)] U3) (mCB [(y2 (y0 0) (mC (.int 0)) ixD)] U3) ltD) (y2 (mSl (y2 (y0 0) (mC (.int 0)) ixD) none (some (mCB [(y0 1)] U3))) (y0 1) eqD)) (p:=λ_=>true) (g:=gW ks) (l:=l) (ds:=rows.map rD) (ix:=[1]) (s:=⟨[some (.lst l (rows.map rD)),some (tI ks)],[some (.lst l (rows.map rD)),some (tI ks)],n⟩) (σ:=[some (.lst l (rows.map rD)),some (tI ks)]) (tm:=[some (.lst l (rows.map rD)),some (tI ks)]) (n:=n)
  (by left) (by rw[i9,zl];lia) (λd hd tm n=>⟨n,i7 _,rfl⟩) (by
   intro d hd _ tm n
   obtain⟨r,_,rfl⟩:=m8.mp hd
   refine⟨n,i7 _, ?_⟩
   erw[i6,A2,List.getElem?_cons_zero,List.getElem?_cons_succ,B5]
   left
   rw[z4B,z4B]
   unfold gW
   rw[zc8]
   unfold wt
   by_cases h1:ks.length<r.1.length
   .erw[show decide ((ks.length:Int)<(r.1.length:Int))=true by simp[h1],h1,decide_true,F3]
    left
    rw[z4B,z34,z68,z3C]
   .erw[show decide ((ks.length:Int)<(r.1.length:Int))=false by simp;lia,h1,decide_false,S7]
    left)
 refine⟨n'+1,by lia, ?_⟩
 rw[e]
 left
 have hf:((rows.map rD).filter λ_=>true).map (gW ks)=rows.map λr=>D.bool (wt ks r):=by
  rw[S9.mpr (λ_ _=>rfl),D4]
  refine D2 λr _=> ?_
  erw[Function.comp,gW,zc8]
 rw[hf,ziL (z5k ks rows)]
 left
 rw[R7]
 rfl
def z6M(rows:List Z5)(ks:List Int)(l n:Nat)(hw: ∀r∈rows,Wf r)(hk:ks≠[])(hz:ks.length<=1000)(hl:l<n):z0w [.lst l (rows.map rD),tI ks] n= .ok (.tup [.lst n ((Q3 rows ks).1.map .int), .lst (n+1) ((Q3 rows ks).2.1.map .int),tI (Q3 rows ks).2.2]) [.lst l (rows.map rD),tI ks] (n+2):=by
 unfold z0w z4h
 left
 obtain⟨s',e,hs⟩:=U7 (P:=λi s=> ∃o5,s=⟨[some (.lst l (rows.map rD)),some (tI ks),some (tI (bb1 ((rows.take i).foldl (G2 ks) none))),some (tI (bb2 ((rows.take i).foldl (G2 ks) none))),some (tI (bb3 ((rows.take i).foldl (G2 ks) none))),o5],some (.lst l (rows.map rD))::[some (.lst l (rows.map rD)),some (tI ks)],n⟩) (l:=l) (ds:=rows.map rD) (g:= .nm 5) (tm:=[some (.lst l (rows.map rD)),some (tI ks)])
  (b:=sIf (z8F (G7 (y2 (mCB [(y2 (y0 5) (mC (.int 0)) ixD)] U3) (mCB [(y0 2)] U3) gtD)) (G7 (y2 (mSl (y0 1) none (some (mCB [(y2 (y0 5) (mC (.int 0)) ixD)] U3))) (y2 (y0 5) (mC (.int 0)) ixD) eqD))) (Y5 (.tp [(.nm 2),(.nm 3),(.nm 4)]) (y0 5)) sNx)
  (by rintro i s ⟨o3,rfl⟩;rfl) (by
   rintro i d hd s ⟨o3,rfl⟩
   refine⟨_,rfl, ?_⟩
   rw[List.getElem?_map] at hd
   cases hr:rows[i]? with
   |none=>rw[hr] at hd;cases hd
   |some r=>
    rw[hr] at hd
    cases hd
    have hf:(rows.take (i+1)).foldl (G2 ks) none=G2 ks ((rows.take i).foldl (G2 ks) none) r:=by
     rw[C3,hr,B9,L1];rfl
    rw[hf]
    generalize (rows.take i).foldl (G2 ks) none=best
    show ∃s',_/\∃o3,s'=_
    have hb:G2 ks best r=if ks.take r.1.length=r.1/\(bb1 best).length<r.1.length then some r else best:=by
     unfold G2 bb1;cases best<;>rfl
    rw[hb]
    left
    rw[z4B,z4B]
    by_cases h2:(bb1 best).length<r.1.length
    .erw[show decide (((bb1 best).length:Int)<(r.1.length:Int))=true by simp[h2]]
     left
     rw[z4B,z34,z68,z3C]
     left
     by_cases h1:ks.take r.1.length=r.1
     .erw[h1,decide_true]
      left
      refine⟨_,rfl,some (rD r), ?_⟩
      rw[if_pos ⟨trivial,h2⟩]
      rfl
     .erw[h1,decide_false]
      left
      refine⟨_,rfl,some (rD r), ?_⟩
      rw[if_neg λh=>h.1.elim]
    .erw[show decide (((bb1 best).length:Int)<(r.1.length:Int))=false by simp;lia]
     left
     refine⟨_,rfl,some (rD r), ?_⟩
     rw[if_neg λh=>h2 h.2]) rows.length 0 ⟨[some (.lst l (rows.map rD)),some (tI ks),some (tI []),some (tI []),some (tI []),none],some (.lst l (rows.map rD))::[some (.lst l (rows.map rD)),some (tI ks)],n⟩ (by simp) ⟨none,by simp[bb1,bb2,bb3]⟩
 obtain⟨o3,rfl⟩:=hs
 rw[z0G (l:=l) (ds:=rows.map rD) (σ:=[some (.lst l (rows.map rD)),some (tI ks),some (.tup []),some (.tup []),some (.tup []),none]) (tm:=[some (.lst l (rows.map rD)),some (tI ks)]) (n:=n) (by left)]
 left
 rw[show kLst.len (some (.lst l (rows.map rD))::[some (.lst l (rows.map rD)),some (tI ks)])=rows.length by show(rows.map rD).length=_;simp]
 rw[show(D.tup [])=tI [] from rfl,e]
 erw[px1]
 left
 rw[i9,N1]
 show((_:RS)).fin=_
 have hlg:rows.foldl (G2 ks) none=z0V rows ks:=rfl
 rw[hlg]
 unfold Q3
 cases hb:z0V rows ks with
 |none=>
  erw[bb1,bb2,bb3,u0d]
  left
  rw[show(D.tup [])=tI [] from rfl,z3C]
  erw[decide_true]
  left
  cases ks with
  |nil=>exact absurd rfl hk
  |cons a ks=>
   rw[zkd]
   left
   rw[zc9]
   rfl
 |some r=>
  obtain⟨w1,w2,w3,w4⟩:=hw r (z0z hb).1
  erw[bb1,bb2,bb3,u0d]
  left
  rw[show(D.tup [])=tI [] from rfl,z3C]
  erw[show decide (r.1=[])=false by simp;intro h;rw[h] at w1;simp at w1]
  left
  rw[z4B,z9q,z9u,z3z (by rw[zl];erw[i9,C7];lia)]
  left
  rw[<-t8]
theorem Z2: ∀ns:List Int,labsL (ns.map D.int)=[]
 |[]=>rfl
 |n::ns=>by erw[i6,labsL,labs,Z2 ns];rfl
def z69(r:Z5):labs (rD r)=[]:=by erw[labs,labsL,Z2];rfl
theorem K8: ∀rows:List Z5,labsL (rows.map rD)=[]
 |[]=>rfl
 |r::rows=>by erw[i6,labsL,K8 rows];rw[z69];rfl
def z3m{k:Nat}{ns:List Int}:rp (pl k d) (.tup (ns.map D.int))= .tup (ns.map D.int):=G4 (by rw[show labs (.tup (ns.map D.int))=[] from Z2 ns];exact t7)
def W7{k:Nat}{ns:List Int}:rpL (pl k d) (ns.map D.int)=ns.map D.int:=rpL_id _ λj hj=>by rw[Z2] at hj;cases hj
def zba{k:Nat}{rows:List Z5}:rpL (pl k d) (rows.map rD)=rows.map rD:=rpL_id _ λj hj=>by rw[K8] at hj;cases hj
def Z8{k l:Nat}{rows:List Z5}(h:l≠k):rp (pl k d) (.lst l (rows.map rD))= .lst l (rows.map rD):=by rw[z09 h,zba]
def W9{k l:Nat}{ns:List Int}(h:l≠k):rp (pl k d) (.lst l (ns.map D.int))= .lst l (ns.map D.int):=by rw[z09 h,W7]
def z0a{l:Nat}:rp (pl l d) (.lst l ds)=d:=by erw[rp,pl,if_true]
def z6N{l:Nat}{ds es:List D}{n:Nat}(h:ds.length+es.length<=sizeLine)(hl:labsL es=[]):z25 (.lst l ds) [.tup es] ⟨σ,tm,n⟩= .ok .non ⟨rpO (pl l (.lst l (ds++es))) σ,rpO (pl l (.lst l (ds++es))) tm,n⟩:=by
 erw[z25,z7M]
 rw[if_pos ⟨h,by rw[hl];exact t7⟩]
 rfl
def z6O{l k:Nat}{ds es:List D}{n:Nat}(h:ds.length+es.length<=sizeLine)(hl:labsL es=[]):z25 (.lst l ds) [.lst k es] ⟨σ,tm,n⟩= .ok .non ⟨rpO (pl l (.lst l (ds++es))) σ,rpO (pl l (.lst l (ds++es))) tm,n⟩:=by
 erw[z25,z7M]
 rw[if_pos ⟨h,by rw[hl];exact t7⟩]
 rfl
def z6a(rows:List Z5)(hw: ∀r∈rows,Wf r)(l n:Nat)(K:D)(hl:l<n)(hK: ∀d,rp (pl n d) K=K)(hK1: ∀d,rp (pl (n+1) d) K=K): ∀(m:Nat) (R S L:List Int) (o5 o6:Option D) (q:Nat),n+2<=q->R.length<m->R.length<=200->S.length+3*R.length<=2000->L.length+R.length<=2000->∃p5 p6 q',q<=q'/\
 Q0 (G7 (y2 (y0 4) (mCB [] Q1) neD)) (Z3 (Y5 (.tp [(.nm 5),(.nm 6),(.nm 4)]) (Z1 z0w [(y0 0),(y0 4)])) (Z3 (J8 (J2 (y0 2) [(y0 5)] z25)) (J8 (J2 (y0 3) [(y0 6)] z25)))) m ⟨[some (.lst l (rows.map rD)),some K,some (.lst n (S.map .int)),some (.lst (n+1) (L.map .int)),some (.tup (R.map .int)),o5,o6],[some (.lst l (rows.map rD)),some K],q⟩
  = .nx ⟨[some (.lst l (rows.map rD)),some K,some (.lst n ((S++(z1U rows R).1).map .int)),some (.lst (n+1) ((L++(z1U rows R).2).map .int)),some (.tup []),p5,p6],[some (.lst l (rows.map rD)),some K],q'⟩:=by
 intro m
 induction m with
 |zero=>intro R S L o5 o6 q hq h;lia
 |succ m ih=>
  intro R S L o5 o6 q hq h h2 h3 h4
  unfold Q0
  by_cases hR:R=[]
  .subst hR
   refine⟨o5,o6,q,i7 _, ?_⟩
   left
   rw[show(D.tup [])= .tup (([]:List Int).map .int) from rfl,z9s]
   erw[z9r,l0,decide_true,E5]
   left
  .obtain⟨l1,l2,l3⟩:=z0A hw hR
   have e0:=z7B hw hR
   have ps:=z6M rows R l q hw hR (by lia) (by lia)
   left
   rw[show(D.tup [])= .tup (([]:List Int).map .int) from rfl,z9s]
   erw[hR,decide_false,F4]
   left
   rw[ps]
   left
   rw[z6O (by rw[zl];erw[i9];lia) (Z2 _)]
   left
   simp only[<-t8,Z8 (show l≠n by lia),W9 (show n+1≠n by lia),W9 (show q≠n by lia),W9 (show q+1≠n by lia),W7,hK]
   left
   try erw[W9 (show n+1≠n by lia)]
   rw[z6O (by rw[zl];erw[i9];lia) (Z2 _)]
   left
   simp only[<-t8,Z8 (show l≠n+1 by lia),W9 (show n≠n+1 by lia),W9 (show q≠n+1 by lia),W9 (show q+1≠n+1 by lia),W7,hK1]
   obtain⟨p5,p6,q',hq',e⟩:=ih (Q3 rows R).2.2 (S++(Q3 rows R).1) (L++(Q3 rows R).2.1) (some (.lst q ((Q3 rows R).1.map .int))) (some (.lst (q+1) ((Q3 rows R).2.1.map .int))) (q+2) (by lia) (by lia) (by lia) (by rw[m5];lia) (by rw[m5];lia)
   refine⟨p5,p6,q',by lia, ?_⟩
   rw[e,e0]
   erw[A5]
def zbb(rows:List Z5)(ks:List Int)(l n:Nat)(K:D)(hw: ∀r∈rows,Wf r)(hk:ks.length<=200)(hl:l<n)(hK:(∃k,k<n/\K= .lst k (ks.map .int))\/K= .tup (ks.map .int)): ∃n',n<=n'/\z2f [.lst l (rows.map rD),K] n= .ok (.tup [.lst n ((z1U rows ks).1.map .int), .lst (n+1) ((z1U rows ks).2.map .int)]) [.lst l (rows.map rD),K] n':=by
 have hK2:z6z [K]=z6z [.tup (ks.map .int)]:=by
  rcases hK with⟨k,_,rfl⟩|rfl<;>rfl
 unfold z2f z4i
 left
 rw[hK2]
 left
 rw[z9t]
 have rK: ∀j,n<=j->∀d,rp (pl j d) K=K:=λj hj d=>by
  rcases hK with⟨k,hk,rfl⟩|rfl
  .exact W9 (by lia)
  .exact z3m
 obtain⟨p5,p6,q',hq',e⟩:=z6a rows hw l n K hl (rK n (i7 _)) (rK (n+1) (by lia)) 1000 ks [] [] none none (n+1+1) (by lia) (by lia) hk (by simp;lia) (by simp;lia)
 erw[A2,A6] at e
 refine⟨q',by lia, ?_⟩
 rw[e]
 left
noncomputable def G1(rows:List Z5)(R:List Int):Bool:=decide (R=[])||rows.any (wt R)
noncomputable def Y8(rows:List Z5):Nat->List Int->Z5
 |0,R=>([],[],R)
 |m+1,R=>if G1 rows R=true then([],[],R) else((Q3 rows R).1++(Y8 rows m (Q3 rows R).2.2).1,(Q3 rows R).2.1++(Y8 rows m (Q3 rows R).2.2).2.1,(Y8 rows m (Q3 rows R).2.2).2.2)
noncomputable def nkI(ns:List Int):NK:=ns.map λi=> .inl (.inl i)
theorem z3D: ∀ns:List Int,z2C (ns.map D.int)=some (nkI ns)
 |[]=>rfl
 |n::ns=>by
  have ih:=z3D ns
  erw[i6,z2C,zbV,z02,ih,nkI]
def z0B(ns:List Int):z1n (.tup (ns.map D.int))=some (nkI ns):=z3D ns
structure SD(rows:List Z5)(ks vs:List D):Prop where
 t:isT ks=true
 z:ks.length<=1000
 lv:labsL vs=[]
 lk:labsL ks=[]
 h: ∀R:List Int,(findK ks vs (nkI R)).isSome=G1 rows R
def zca{k j:Nat}(h:j≠k)(hv:labsL vs=[]):rp (pl k d) (.dct j ks vs)= .dct j ks vs:=by
 erw[rp,pl,if_neg h]
 rw[rpL_id _ λi hi=>by rw[hv] at hi;cases hi]
def z5l(rows:List Z5)(hw: ∀r∈rows,Wf r)(hr:rows.length<1000)(l n:Nat)(W:List Int)(k:Int)(hl:l<n): ∀(m:Nat) (R S L:List Int) (o5 o6:Option D) (q:Nat),n+2<=q->R.length<m->R.length<=200->S.length+3*R.length<=2000->L.length+R.length<=2000->(∀k d,C6 (rp (pl k d)) o5=o5)->(∀k d,C6 (rp (pl k d)) o6=o6)->∃p5 p6 q',q<=q'/\
 Q0 (z8F (z0J (y0 5)) (z7i (z0J (Z1 X3 [(y0 0),(y0 5)])))) (Z3 (Y5 (.tp [(.nm 6),(.nm 7),(.nm 5)]) (Z1 U6 [(y0 0),(y0 5)])) (Z3 (J8 (J2 (y0 3) [(y0 6)] z25)) (J8 (J2 (y0 4) [(y0 7)] z25)))) m ⟨[some (.lst l (rows.map rD)),some (.tup (W.map .int)),some (.int k),some (.lst n (S.map .int)),some (.lst (n+1) (L.map .int)),some (.tup (R.map .int)),o5,o6],[some (.lst l (rows.map rD)),some (.tup (W.map .int)),some (.int k)],q⟩
  = .nx ⟨[some (.lst l (rows.map rD)),some (.tup (W.map .int)),some (.int k),some (.lst n ((S++(Y8 rows m R).1).map .int)),some (.lst (n+1) ((L++(Y8 rows m R).2.1).map .int)),some (.tup ((Y8 rows m R).2.2.map .int)),p5,p6],[some (.lst l (rows.map rD)),some (.tup (W.map .int)),some (.int k)],q'⟩:=by
 intro m
 induction m with
 |zero=>intro R S L o5 o6 q hq h;lia
 |succ m ih=>
  intro R S L o5 o6 q hq h h2 h3 h4 r5 r6
  unfold Q0 Y8
  by_cases hR:R=[]
  .subst hR
   refine⟨o5,o6,q,i7 _, ?_⟩
   left
   erw[G1,decide_true,R4,if_true,l0,A2,u03,E5]
   left
  .obtain⟨l1,l2,l3⟩:=z0A hw hR
   have hne:(R.map D.int).isEmpty=false:=by cases R with|nil=>exact absurd rfl hR|cons _ _=>rfl
   obtain⟨q1,hq1,ew⟩:=zdL rows R l q hr
   left
   erw[hne]
   left
   rw[ew]
   left
   have hs:G1 rows R=rows.any (wt R):=by erw[G1,hR,decide_false,L8]
   rw[hs]
   cases hwt:rows.any (wt R) with
   |true=>
    refine⟨o5,o6,q1,hq1, ?_⟩
    left
    erw[if_true,l0]
   |false=>
    left
    rw[zb9 rows R l q1 hw (by lia)]
    left
    rw[z6N (by rw[zl];erw[i9];lia) (Z2 _)]
    left
    simp only[<-t8,Z8 (show l≠n by lia),W9 (show n+1≠n by lia),W7]
    left
    try erw[W9 (show n+1≠n by lia)]
    rw[z6N (by rw[zl];erw[i9];lia) (Z2 _)]
    left
    simp only[<-t8,Z8 (show l≠n+1 by lia),W9 (show n≠n+1 by lia),W7]
    obtain⟨p5,p6,q',hq',e⟩:=ih (Q3 rows R).2.2 (S++(Q3 rows R).1) (L++(Q3 rows R).2.1) (some (.tup ((Q3 rows R).1.map .int))) (some (.tup ((Q3 rows R).2.1.map .int))) q1 (by lia) (by lia) (by lia) (by rw[m5];lia) (by rw[m5];lia) (λ_ _=>by rw[l6,z3m]) (λ_ _=>by rw[l6,z3m])
    refine⟨p5,p6,q',by lia, ?_⟩
    rw[e]
    erw[A5,A4,if_false]
def z9v(rows:List Z5)(W:List Int)(k:Int)(l n:Nat)(hw: ∀r∈rows,Wf r)(hr:rows.length<1000)(hk:W.length<=100)(hl:l<n): ∃n',n+2<=n'/\z0R [.lst l (rows.map rD), .tup (W.map .int), .int k] n= .ok (.tup [.lst n ((Y8 rows 1000 (W++[k])).1.map .int), .lst (n+1) ((Y8 rows 1000 (W++[k])).2.1.map .int), .tup ((Y8 rows 1000 (W++[k])).2.2.map .int)]) [.lst l (rows.map rD), .tup (W.map .int), .int k] n':=by
 unfold z0R z2V
 left
 rw[z3z (by rw[zl];erw[i9,A3,B2];lia)]
 left
 rw[z9t,show W.map D.int++[D.int k]=(W++[k]).map D.int by rw[t8];rfl]
 have hl2:(W++[k]).length=W.length+1:=by simp
 obtain⟨p5,p6,q',hq',e⟩:=z5l rows hw hr l n W k hl 1000 (W++[k]) [] [] none none (n+1+1) (by lia) (by lia) (by lia) (by erw[B2];lia) (by erw[B2];lia) (λ_ _=>rfl) (λ_ _=>rfl)
 erw[A2,A6] at e
 refine⟨q',by lia, ?_⟩
 rw[e]
 left
def z5m(rows:List Z5)(hw: ∀r∈rows,Wf r)(l n:Nat)(Dd:D)(hd: ∀(R:List Int) (s:Stt),z0o (.tup (R.map D.int)) Dd s= .ok (.bool (!G1 rows R)) s)(hf: ∀d,rp (pl n d) Dd=Dd)(hf1: ∀d,rp (pl (n+1) d) Dd=Dd)(W:List Int)(k:Int)(hl:l<n): ∀(m:Nat) (R S L:List Int) (o5 o6:Option D) (q:Nat),n+2<=q->R.length<m->R.length<=200->S.length+3*R.length<=2000->L.length+R.length<=2000->∃p5 p6 q',q<=q'/\
 Q0 (G7 (y2 (y0 6) (y0 1) z0o)) (Z3 (Y5 (.tp [(.nm 7),(.nm 8),(.nm 6)]) (Z1 z0w [(y0 0),(y0 6)])) (Z3 (J8 (J2 (y0 4) [(y0 7)] z25)) (J8 (J2 (y0 5) [(y0 8)] z25)))) m ⟨[some (.lst l (rows.map rD)),some Dd,some (.tup (W.map .int)),some (.int k),some (.lst n (S.map .int)),some (.lst (n+1) (L.map .int)),some (.tup (R.map .int)),o5,o6],[some (.lst l (rows.map rD)),some Dd,some (.tup (W.map .int)),some (.int k)],q⟩
  = .nx ⟨[some (.lst l (rows.map rD)),some Dd,some (.tup (W.map .int)),some (.int k),some (.lst n ((S++(Y8 rows m R).1).map .int)),some (.lst (n+1) ((L++(Y8 rows m R).2.1).map .int)),some (.tup ((Y8 rows m R).2.2.map .int)),p5,p6],[some (.lst l (rows.map rD)),some Dd,some (.tup (W.map .int)),some (.int k)],q'⟩:=by
 intro m
 induction m with
 |zero=>intro R S L o5 o6 q hq h;lia
 |succ m ih=>
  intro R S L o5 o6 q hq h h2 h3 h4
  unfold Q0 Y8
  left
  rw[hd]
  cases hs:G1 rows R with
  |true=>
   refine⟨o5,o6,q,i7 _, ?_⟩
   left
   erw[if_true,l0]
  |false=>
   have hR:R≠[]:=λe=>by rw[e] at hs;simp[G1] at hs
   obtain⟨l1,l2,l3⟩:=z0A hw hR
   left
   rw[z6M rows R l q hw hR (by lia) (by lia)]
   left
   rw[z6O (by rw[zl];erw[i9];lia) (Z2 _)]
   left
   simp only[<-t8,Z8 (show l≠n by lia),hf,W9 (show n+1≠n by lia),W9 (show q≠n by lia),W9 (show q+1≠n by lia),W7]
   left
   try erw[W9 (show n+1≠n by lia)]
   rw[z6O (by rw[zl];erw[i9];lia) (Z2 _)]
   left
   simp only[<-t8,Z8 (show l≠n+1 by lia),hf1,W9 (show n≠n+1 by lia),W9 (show q≠n+1 by lia),W9 (show q+1≠n+1 by lia),W7]
   obtain⟨p5,p6,q',hq',e⟩:=ih (Q3 rows R).2.2 (S++(Q3 rows R).1) (L++(Q3 rows R).2.1) (some (.lst q ((Q3 rows R).1.map .int))) (some (.lst (q+1) ((Q3 rows R).2.1.map .int))) (q+2) (by lia) (by lia) (by lia) (by rw[m5];lia) (by rw[m5];lia)
   refine⟨p5,p6,q',by lia, ?_⟩
   rw[e]
   erw[A5,A4,if_false]
def z9w(rows:List Z5)(W:List Int)(k:Int)(l n:Nat)(Dd:D)(hd: ∀(R:List Int) (s:Stt),z0o (.tup (R.map D.int)) Dd s= .ok (.bool (!G1 rows R)) s)(hf: ∀d,rp (pl n d) Dd=Dd)(hf1: ∀d,rp (pl (n+1) d) Dd=Dd)(hw: ∀r∈rows,Wf r)(hk:W.length<=100)(hl:l<n): ∃n',n+2<=n'/\z0S [.lst l (rows.map rD),Dd, .tup (W.map .int), .int k] n= .ok (.tup [.lst n ((Y8 rows 1000 (W++[k])).1.map .int), .lst (n+1) ((Y8 rows 1000 (W++[k])).2.1.map .int), .tup ((Y8 rows 1000 (W++[k])).2.2.map .int)]) [.lst l (rows.map rD),Dd, .tup (W.map .int), .int k] n':=by
 unfold z0S z2Y
 left
 rw[z3z (by rw[zl];erw[i9,A3,B2];lia)]
 left
 rw[z9t,show W.map D.int++[D.int k]=(W++[k]).map D.int by rw[t8];rfl]
 have hl2:(W++[k]).length=W.length+1:=by simp
 obtain⟨p5,p6,q',hq',e⟩:=z5m rows hw l n Dd hd hf hf1 W k hl 1000 (W++[k]) [] [] none none (n+1+1) (by lia) (by lia) (by lia) (by erw[B2];lia) (by erw[B2];lia)
 erw[A2,A6] at e
 refine⟨q',by lia, ?_⟩
 rw[e]
 left
noncomputable def kd(p:List Int):D:= .tup (p.map .int)
noncomputable def dD(j:Nat)(PK:List (List Int)):D:= .dct j (PK.map kd) (PK.map λ_=> .bool true)
noncomputable def z3E(PK:List (List Int))(p:List Int):List (List Int):=if p∈PK then PK else PK++[p]
def zdM(h:nkI a=nkI b):a=b:=by
 induction a generalizing b with
 |nil=>cases b with|nil=>rfl|cons _ _=>simp[nkI] at h
 |cons x a ih=>cases b with
  |nil=>simp[nkI] at h
  |cons y b=>
   erw[nkI,i6,List.cons.injEq,Sum.inl.injEq] at h
   rw[h.1,ih h.2]
def V5:(z1n (kd p)=some (nkI R))↔p=R:=by
 unfold kd
 rw[z0B,Option.some.injEq]
 exact⟨zdM,λh=>by rw[h]⟩
def zdN(p:List Int):dkD (nkI p)=kd p:=by
 unfold dkD kd nkI
 rw[D4];rfl
theorem z9x(R:List Int): ∀PK:List (List Int),(findK (PK.map kd) (PK.map λ_=>D.bool true) (nkI R)).isSome=decide (R∈PK)
 |[]=>rfl
 |p::PK=>by
  erw[i6,findK]
  by_cases h:p=R
  .rw[if_pos (V5.mpr h)];simp[h]
  .rw[if_neg λz=>h (V5.mp z),z9x R PK]
   erw[l7,decide_eq_decide]
   exact⟨.inr,λz=>z.resolve_left λe=>h e.symm⟩
def z5n(PK:List (List Int))(R:List Int):((PK.map kd).any λd=>decide (z1n d=some (nkI R)))=decide (R∈PK):=by
 rw[R7]
 induction PK with
 |nil=>rfl
 |cons p PK ih=>
  erw[N3,Function.comp,V5]
  try erw[Function.comp,V5] at ih
  rw[ih]
  by_cases h:p=R
  .simp[h]
  .erw[h,decide_false,L8,l7,decide_eq_decide]
   exact⟨.inr,λz=>z.resolve_left λe=>h e.symm⟩
def zgK{j:Nat}{PK:List (List Int)}{R:List Int}{s:Stt}(hz:PK.length<=1000):z03 (dD j PK) (.tup (R.map .int)) (.bool true) s= .nx (s.put j (dD j (z3E PK R))):=by
 have hT:isT (PK.map kd)=true:=by cases PK<;>rfl
 have hl:labsL (PK.map λ_=>D.bool true)=[]:=W5 λd hd=>by obtain⟨_,_,rfl⟩:=m8.mp hd;rfl
 unfold z03 dD
 erw[z0B]
 rw[if_pos ⟨hT,by rw[i9,zl];lia,rfl,hl⟩]
 have e1:z2E (PK.map kd) (nkI R)=(z3E PK R).map kd:=by
  unfold z2E z3E
  rw[z5n]
  by_cases h:R∈PK
  .erw[h,decide_true,if_true]
  .erw[h,decide_false,A4,if_false,t8,zdN];rfl
 have e2:z14 (PK.map kd) (PK.map λ_=>D.bool true) (nkI R) (.bool true)=(z3E PK R).map λ_=>D.bool true:=by
  unfold z14 z3E
  rw[z5n]
  by_cases h:R∈PK
  .erw[h,decide_true,if_true]
   clear h hz hT hl e1
   induction PK with
   |nil=>rfl
   |cons p PK ih=>erw[i6,E4,ite_self,ih]
  .erw[h,decide_false,A4,if_false,t8];rfl
 rw[e1,e2]
def z4o{PK:List (List Int)}{p R:List Int}:R∈z3E PK p↔R∈PK\/R=p:=by
 unfold z3E
 split
 .rename_i h;exact⟨.inl,λz=>z.elim id λe=>e▸h⟩
 .simp
def z4p{PK:List (List Int)}:(z3E PK p).length<=PK.length+1:=by
 unfold z3E;split<;>simp
def zgL{k j:Nat}{d:D}{PK:List (List Int)}(h:j≠k):rp (pl k d) (dD j PK)=dD j PK:=zca h (W5 λd hd=>by obtain⟨_,_,rfl⟩:=m8.mp hd;rfl)
def zcb{j:Nat}{d:D}{PK:List (List Int)}:rp (pl j d) (dD j PK)=d:=by unfold dD;erw[rp,pl,if_true]
def zdO{k:Nat}:rp (pl k d) (rD r)=rD r:=G4 (by rw[z69];exact t7)
def zbc{n:Nat}(hσ: ∀d,rpO (pl n d) σ=σ)(ht: ∀d,rpO (pl n d) tm=tm):v3 (mCB [] Q1) (mC (.bool true)) ⟨σ,tm,n⟩= .ok (dD n [[]]) ⟨σ,tm,n+1⟩:=by
 have e:v3 (mCB [] Q1) (mC (.bool true)) ⟨σ,tm,n⟩= .ok (dD n [[]]) ⟨rpO (pl n (dD n [[]])) σ,rpO (pl n (dD n [[]])) tm,n+1⟩:=by
  unfold v3
  rfl
 rw[e,hσ,ht]
def z7E(r:Z5)(l j n:Nat)(rows:List Z5)(hl:l≠j)(hr:r.1.length<=4)(PK:List (List Int))(hz:PK.length<=900)(o3:Option D)(h3: ∀k d,C6 (rp (pl k d)) o3=o3): ∃PK' p3,(∀k d,C6 (rp (pl k d)) p3=p3)/\PK'.length<=PK.length+4/\(∀R,R∈PK'↔R∈PK\/(R≠[]/\R.length<r.1.length/\r.1.take R.length=R))/\
 z01 (z5L [(mC (.int 1)),(mCB [(y2 (y0 2) (mC (.int 0)) ixD)] U3)]) (.nm 3) (z1f (mC (.bool true)) (y0 1) (mSl (y2 (y0 2) (mC (.int 0)) ixD) none (some (y0 3))) z03) ⟨[some (.lst l (rows.map rD)),some (dD j PK),some (rD r),o3],[some (.lst l (rows.map rD)),some (.lst l (rows.map rD))],n⟩
  = .nx ⟨[some (.lst l (rows.map rD)),some (dD j PK'),some (rD r),p3],[some (.lst l (rows.map rD)),some (.lst l (rows.map rD))],n⟩:=by
 have er:zfW [.int 1, .int (r.1.length:Int)] ⟨[some (.lst l (rows.map rD)),some (dD j PK),some (rD r),o3],[some (.lst l (rows.map rD)),some (.lst l (rows.map rD))],n⟩= .ok (z6B 1 (r.1.length - 1)) ⟨[some (.lst l (rows.map rD)),some (dD j PK),some (rD r),o3],[some (.lst l (rows.map rD)),some (.lst l (rows.map rD))],n⟩:=by
  erw[zfW]
  rw[if_pos (by lia),show((r.1.length:Int) - 1).toNat=r.1.length - 1 by lia]
  rfl
 have em:z5L [(mC (.int 1)),(mCB [(y2 (y0 2) (mC (.int 0)) ixD)] U3)] ⟨[some (.lst l (rows.map rD)),some (dD j PK),some (rD r),o3],[some (.lst l (rows.map rD)),some (.lst l (rows.map rD))],n⟩= .ok (z6B 1 (r.1.length - 1)) ⟨[some (.lst l (rows.map rD)),some (dD j PK),some (rD r),o3],[some (.lst l (rows.map rD)),some (.lst l (rows.map rD))],n⟩:=by
  show bd (Z9 _) zfW _=_
  left
  rw[z4B,er]
 left
 rw[em]
 left
 obtain⟨s',e,PK',p3,rfl,g3,hlen,hmem⟩:=z0y (P:=λi s=> ∃PK' p3,s=⟨[some (.lst l (rows.map rD)),some (dD j PK'),some (rD r),p3],[some (.lst l (rows.map rD)),some (.lst l (rows.map rD))],n⟩/\(∀k d,C6 (rp (pl k d)) p3=p3)/\PK'.length<=PK.length+i/\∀R,R∈PK'↔R∈PK\/∃t:Nat,1<=t/\t<=i/\R=r.1.take t) (lo:=1) (N:=r.1.length - 1) (g:= .nm 3) (b:=z1f (mC (.bool true)) (y0 1) (mSl (y2 (y0 2) (mC (.int 0)) ixD) none (some (y0 3))) z03) (by
  rintro i hi s ⟨PK',p3,rfl,g3,hlen,hmem⟩
  refine⟨_,rfl, ?_⟩
  refine⟨_, ?_,z3E PK' (r.1.take (i+1)),some (.int (1+(i:Int))),rfl,λ_ _=>rfl,C1 z4p (by lia),λR=> ?_⟩
  .left
   rw[show(1+(i:Int))=((i+1:Nat):Int) by lia,z34,z68,zgK (by lia)]
   erw[z0U,Z0,Z7,l6,Z8 hl,zcb,zdO,Q7]
  .rw[z4o,hmem]
   constructor
   .rintro ((h|⟨t,h1,h2,h3⟩)|h)
    .exact .inl h
    .exact .inr ⟨t,h1,by lia,h3⟩
    .exact .inr ⟨i+1,by lia,by lia,h⟩
   .rintro (h|⟨t,h1,h2,h3⟩)
    .exact .inl (.inl h)
    .by_cases ht:t=i+1
     .exact .inr (ht▸h3)
     .exact .inl (.inr ⟨t,h1,by lia,h3⟩)) (r.1.length - 1) 0 ⟨[some (.lst l (rows.map rD)),some (dD j PK),some (rD r),o3],[some (.lst l (rows.map rD)),some (.lst l (rows.map rD))],n⟩ (by lia) ⟨PK,o3,rfl,h3,by lia,λR=>⟨.inl,λh=>h.elim id λ⟨t,h1,h2,_⟩=>by lia⟩⟩
 refine⟨PK',p3,g3,by lia,λR=> ?_, ?_⟩
 .rw[hmem]
  constructor
  .rintro (h|⟨t,h1,h2,h3⟩)
   .exact .inl h
   .have hlt:(r.1.take t).length=t:=by rw[B6];lia
    refine .inr ⟨λe=> ?_,by rw[h3,hlt];lia,by rw[h3,hlt]⟩
    rw[e] at h3
    have:=congrArg L9 h3
    rw[hlt] at this
    simp at this;lia
  .rintro (h|⟨h1,h2,h3⟩)
   .exact .inl h
   .refine .inr ⟨R.length, ?_,by lia,h3.symm⟩
    cases R with
    |nil=>exact absurd rfl h1
    |cons _ _=>simp
 .exact e
def z9y(rows:List Z5)(l n:Nat)(hw: ∀r∈rows,Wf r)(hr:rows.length<=60)(hl:l<n): ∃PK:List (List Int),(∀R,R∈PK↔G1 rows R=true)/\PK.length<=1+4*rows.length/\z0i [.lst l (rows.map rD)] n= .ok (dD n PK) [.lst l (rows.map rD)] (n+1):=by
 unfold z0i z1R
 left
 rw[zbc (λd=>by erw[Z0,Z7,l6,E1,Z8 (show l≠n by lia)]) (λd=>by erw[Z0,Z7,l6,Z8 (show l≠n by lia)])]
 left
 obtain⟨s',e,PK,o2,o3,rfl,g3,hlen,hmem⟩:=U7 (P:=λi s=> ∃PK o2 o3,s=⟨[some (.lst l (rows.map rD)),some (dD n PK),o2,o3],some (.lst l (rows.map rD))::[some (.lst l (rows.map rD))],n+1⟩/\(∀k d,C6 (rp (pl k d)) o3=o3)/\PK.length<=1+4*i/\∀R,R∈PK↔R=[]\/∃r∈rows.take i,R≠[]/\R.length<r.1.length/\r.1.take R.length=R) (l:=l) (ds:=rows.map rD) (g:= .nm 2) (tm:=[some (.lst l (rows.map rD))])
  (b:=z01 (z5L [(mC (.int 1)),(mCB [(y2 (y0 2) (mC (.int 0)) ixD)] U3)]) (.nm 3) (z1f (mC (.bool true)) (y0 1) (mSl (y2 (y0 2) (mC (.int 0)) ixD) none (some (y0 3))) z03))
  (by rintro i s ⟨PK,o2,o3,rfl,_⟩;rfl) (by
   rintro i d hd s ⟨PK,o2,o3,rfl,g3,hlen,hmem⟩
   refine⟨_,rfl, ?_⟩
   rw[List.getElem?_map] at hd
   cases hr':rows[i]? with
   |none=>rw[hr'] at hd;cases hd
   |some r=>
    rw[hr'] at hd
    cases hd
    have hi:i<rows.length:=(List.getElem?_eq_some_iff.mp hr').1
    obtain⟨PK',p3,g3',hlen',hmem',e⟩:=z7E r l n (n+1) rows (by lia) (hw r (List.mem_of_getElem? hr')).2.1 PK (by lia) o3 g3
    refine⟨_,e,PK',some (rD r),p3,rfl,g3',by lia,λR=> ?_⟩
    rw[hmem',hmem,C3,hr',B9]
    constructor
    .rintro ((h|⟨q,hq,h⟩)|h)
     .exact .inl h
     .exact .inr ⟨q,i8 _ hq,h⟩
     .exact .inr ⟨r,i4 _ (t9.mpr rfl),h⟩
    .rintro (h|⟨q,hq,h⟩)
     .exact .inl (.inl h)
     .rcases l4.mp hq with hq|hq
      .exact .inl (.inr ⟨q,hq,h⟩)
      .rw[t9.mp hq] at h;exact .inr h) rows.length 0 ⟨[some (.lst l (rows.map rD)),some (dD n [[]]),none,none],some (.lst l (rows.map rD))::[some (.lst l (rows.map rD))],n+1⟩ (by simp) ⟨[[]],none,none,rfl,λ_ _=>rfl,by simp,λR=>by simp⟩
 rw[z0G (l:=l) (ds:=rows.map rD) (σ:=[some (.lst l (rows.map rD)),some (dD n [[]]),none,none]) (tm:=[some (.lst l (rows.map rD))]) (n:=n+1) (by left)]
 left
 rw[show kLst.len (some (.lst l (rows.map rD))::[some (.lst l (rows.map rD))])=rows.length by show(rows.map rD).length=_;simp,e]
 erw[px1]
 left
 rw[i9,N1] at hmem
 rw[i9] at hlen
 refine⟨PK,λR=> ?_,hlen,rfl⟩
 unfold G1
 by_cases hR:R=[]
 .erw[hR,decide_true,R4,iff_true]
  exact(hmem []).mpr (.inl rfl)
 .erw[hR,decide_false,L8]
  rw[hmem,R3]
  constructor
  .rintro (h|⟨r,h1,_,h2,h3⟩)
   .exact absurd h hR
   .exact⟨r,h1,by erw[wt,h2,h3,decide_true,u08]⟩
  .rintro ⟨r,h1,h2⟩
   erw[wt,A7,decide_eq_true_eq] at h2
   exact .inr ⟨r,h1,hR,h2⟩
noncomputable def vD(r:Z5):D:= .tup [tI r.2.1,tI r.2.2]
noncomputable def TD(j:Nat)(E:List Z5):D:= .dct j (E.map λr=>kd r.1) (E.map vD)
noncomputable def z6b(E:List Z5)(r:Z5):List Z5:=if r.1∈E.map (·.1) then E.map (λe=>if e.1=r.1 then(e.1,r.2) else e) else E++[r]
def z9z(r:Z5):labs (vD r)=[]:=by unfold vD;erw[labs,labsL,Z2];rfl
def zdP(E:List Z5):labsL (E.map vD)=[]:=W5 λd hd=>by obtain⟨r,_,rfl⟩:=m8.mp hd;exact z9z r
def zcc{j:Nat}{E:List Z5}{r:Z5}{s:Stt}(hz:E.length<=1000):z03 (TD j E) (.tup (r.1.map .int)) (vD r) s= .nx (s.put j (TD j (z6b E r))):=by
 have hT:isT (E.map λr=>kd r.1)=true:=by cases E<;>rfl
 have ha:((E.map λr=>kd r.1).any λd=>decide (z1n d=some (nkI r.1)))=decide (r.1∈E.map (·.1)):=by
  rw[<-z5n,D4];rfl
 unfold z03 TD
 erw[z0B]
 rw[if_pos ⟨hT,by rw[i9,zl];lia,z9z r,zdP E⟩]
 have e1:z2E (E.map λr=>kd r.1) (nkI r.1)=(z6b E r).map λr=>kd r.1:=by
  unfold z2E z6b
  rw[ha]
  by_cases h:r.1∈E.map (·.1)
  .erw[h,decide_true,if_true,D4]
   refine D2 λe _=> ?_
   erw[Function.comp];split<;>rfl
  .erw[h,decide_false,A4,if_false,t8,zdN];rfl
 have e2:z14 (E.map λr=>kd r.1) (E.map vD) (nkI r.1) (vD r)=(z6b E r).map vD:=by
  unfold z14 z6b
  rw[ha]
  by_cases h:r.1∈E.map (·.1)
  .erw[h,decide_true,if_true]
   clear h hz hT ha e1
   induction E with
   |nil=>rfl
   |cons e E ih=>
    erw[i6,E4,ih]
    congr 1
    by_cases h:e.1=r.1
    .rw[if_pos (V5.mpr h),if_pos h];rfl
    .rw[if_neg λz=>h (V5.mp z),if_neg h]
  .erw[h,decide_false,A4,if_false,t8];rfl
 rw[e1,e2]
def z9A(h: ∀e∈E,Wf e)(hr:Wf r): ∀e∈z6b E r,Wf e:=λe he=>by
 unfold z6b at he
 split at he
 .obtain⟨q,hq,rfl⟩:=m8.mp he
  split
  .rename_i hk;exact hk▸hr
  .exact h q hq
 .rcases l4.mp he with he|he
  .exact h e he
  .rw[t9.mp he];exact hr
def z6P{E:List Z5}:(z6b E r).length<=E.length+1:=by unfold z6b;split<;>simp
def z9B{E:List Z5}(h:(E.map (·.1)).Nodup):((z6b E r).map (·.1)).Nodup:=by
 unfold z6b
 split
 .rw[D4]
  have:((λx:Z5=>x.1)∘λe=>if e.1=r.1 then(e.1,r.2) else e)=λx:Z5=>x.1:=by funext e;erw[Function.comp];split<;>rfl
  rw[this];exact h
 .rename_i hn
  rw[t8,O9]
  refine⟨h,by simp,λa ha b hb e=> ?_⟩
  erw[i6,A2,t9] at hb
  exact hn (hb▸e▸ha)
def zdQ{E:List Z5}{r:Z5}(h:(E.map (·.1)).Nodup)(hr:r∈E):findK (E.map λr=>kd r.1) (E.map vD) (nkI r.1)=some (vD r):=by
 induction E with
 |nil=>cases hr
 |cons e E ih=>
  erw[i6,D9] at h
  erw[i6,findK]
  by_cases hk:e.1=r.1
  .rw[if_pos (V5.mpr hk)]
   rcases l7.mp hr with rfl|hm
   .rfl
   .exact absurd (m8.mpr ⟨r,hm,hk.symm⟩) h.1
  .rw[if_neg λz=>hk (V5.mp z)]
   rcases l7.mp hr with rfl|hm
   .exact absurd rfl hk
   .exact ih h.2 hm
def zbd{k j:Nat}(h:j≠k):rp (pl k d) (TD j E)=TD j E:=zca h (zdP E)
def z9C{j:Nat}:rp (pl j d) (TD j E)=d:=by unfold TD;erw[rp,pl,if_true]
noncomputable def FD(E:List Z5):D:= .fdc (E.map λr=>kd r.1) (E.map vD)
def zgM{E:List Z5}{r:Z5}(h:(E.map (·.1)).Nodup)(hr:r∈E):z15 (FD E) (.tup (r.1.map .int)) s= .ok (vD r) s:=by
 unfold z15 FD
 erw[rdD,z0B,zdQ h hr]
 rfl
noncomputable def gE(E:List Z5)(d:D):D:=match E.find? (λr=>decide (r.1=unI d)) with
 |some r=>rD r
 |none=>d
def zgN{E:List Z5}{r:Z5}(h:(E.map (·.1)).Nodup)(hr:r∈E):gE E (kd r.1)=rD r:=by
 unfold gE kd
 rw[zc7]
 have:E.find? (λe=>decide (e.1=r.1))=some r:=by
  induction E with
  |nil=>cases hr
  |cons e E ih=>
   erw[i6,D9] at h
   rw[List.find?_cons]
   by_cases hk:e.1=r.1
   .erw[hk,decide_true]
    rcases l7.mp hr with rfl|hm
    .rfl
    .exact absurd (m8.mpr ⟨r,hm,hk.symm⟩) h.1
   .erw[hk,decide_false]
    rcases l7.mp hr with rfl|hm
    .exact absurd rfl hk
    .exact ih h.2 hm
 rw[this]
def zbe{E:List Z5}{j:Nat}{n:Nat}(hn:(E.map (·.1)).Nodup)(hz:E.length<=1000)(i0:Nat)(hσ:σ[i0]? =some (some (FD E)))(hm:K0 m0 s= .ok z4A ⟨σ,some (FD E)::tm,n⟩):
 ∃n',n<=n'/\J1 (K0 m0) (.nm 0) (rt true) (y2 (mCB [(y0 0)] Q1) (y2 (y0 1) (y0 0) z15) v6) 1 [i0] s= .ok (.lst n' (E.map rD)) ⟨σ,tm,n'+1⟩:=by
 obtain⟨n',h1,h2⟩:=z5h (mi:=K0 m0) (K:=z4A) (mt:=rt true) (me:=y2 (mCB [(y0 0)] Q1) (y2 (y0 1) (y0 0) z15) v6) (p:=λ_=>true) (g:=gE E) (items:=E.map λr=>kd r.1) (its:=[some (FD E)]) (ix:=[i0]) (s:=s) (σ:=σ) (tm:=tm) (n:=n) hm rfl (by rw[i9,zl];lia) (λi rest=>rfl) (by show(E.map λr=>kd r.1).length=_;rfl) (λd hd tm n=>⟨n,i7 _,rfl⟩) (by
  intro d hd _ tm n
  obtain⟨r,hr,rfl⟩:=m8.mp hd
  refine⟨n,i7 _, ?_⟩
  rw[zgN hn hr]
  erw[i6,A2,hσ,B5]
  left
  unfold kd
  rw[zgM hn hr]
  left
  unfold vD
  rw[z3z (by rw[zl];simp)]
  rfl)
 refine⟨n',h1, ?_⟩
 rw[h2,S9.mpr (λ_ _=>rfl),D4]
 have e:List.map (gE E∘λr=>kd r.1) E=E.map rD:=D2 λr hr=>zgN hn hr
 rw[e]
noncomputable abbrev sg(l:Nat)(c x:Int)(o1:Option D)(lt fi tp:Int)(dc:D)(o6 o7 o8 o9 oa:Option D):List (Option D):=[some (.lst l [.int c, .int x]),o1,some (.int lt),some (.int fi),some (.int tp),some dc,o6,o7,o8,o9,oa]
theorem z9D: ∀{ys:List D},(∀y∈ys,∃i:Int,y= .int i)->∃ns:List Int,ys=ns.map .int
 |[],_=>⟨[],rfl⟩
 |y::ys,h=>by
  obtain⟨i,rfl⟩:=h y (l5 ..)
  obtain⟨ns,rfl⟩:=z9D λz hz=>h z (i5 _ hz)
  exact⟨i::ns,rfl⟩
theorem z6Q: ∀{ys:List D},(∀y∈ys,∃i:Int,(0<=i/\i<26)/\y= .int i)->∃ns:List Int,(∀i∈ns,0<=i/\i<26)/\ys=ns.map .int
 |[],_=>⟨[],(λ_ h=>nomatch h),rfl⟩
 |y::ys,h=>by
  obtain⟨i,hi,rfl⟩:=h y (l5 ..)
  obtain⟨ns,hn,rfl⟩:=z6Q λz hz=>h z (i5 _ hz)
  exact⟨i::ns,F2.mpr ⟨hi,hn⟩,rfl⟩
def zjr(l n:Nat)(c x lt fi tp N:Int)(o1 o6 o7 o8 o9 oa:Option D)(dc:D)(ms:List (M D))(s:Stt)(hms:Z9 ms s= .ok [.int N] ⟨sg l c x o1 lt fi tp dc o6 o7 o8 o9 oa,[some (.lst l [.int c, .int x])],n⟩)(h0:0<=N)(h1:N<=100)(hb:Bg c x)(hn:l<n)(hlt:0<lt)(hlt':lt<1000)
 (r1: ∀d,C6 (rp (pl l d)) o1=o1) (rd: ∀d,rp (pl l d) dc=dc) (r6: ∀d,C6 (rp (pl l d)) o6=o6) (r7: ∀d,C6 (rp (pl l d)) o7=o7) (r8: ∀d,C6 (rp (pl l d)) o8=o8) (r9: ∀d,C6 (rp (pl l d)) o9=o9) (ra: ∀d,C6 (rp (pl l d)) oa=oa):
 ∃(ns:List Int) (c' x':Int) (n':Nat),(ns.length:Int)=N/\(∀i∈ns,0<=i/\i<26)/\Bg c' x'/\n<=n'/\J1 (v7 ms) (.nm 0) (rt true) (y2 (y2 (y0 1) (Z1 y3 [(y0 2),(y0 3)]) v6) (mC (.int 26)) z24) 1 [3,0,2] s= .ok (.lst n' (ns.map .int)) ⟨sg l c' x' o1 lt fi tp dc o6 o7 o8 o9 oa,[some (.lst l [.int c', .int x'])],n'+1⟩:=by
 obtain⟨ys,b',n',g1,g2,g3,⟨c3,x3,rfl,h3⟩,g5,g6⟩:=z5g (ms:=ms) (me:=y2 (y2 (y0 1) (Z1 y3 [(y0 2),(y0 3)]) v6) (mC (.int 26)) z24) (N:=N.toNat) (ix:=[3,0,2]) (s:=s) (l:=l) (n:=n) (j:=N) (σ0:=sg l c x o1 lt fi tp dc o6 o7 o8 o9 oa) (tm0:=[some (.lst l [.int c, .int x])]) (b:=[.int c, .int x]) (Bg:=λb=> ∃c x,b=[.int c, .int x]/\Bg c x) (Q:=λ_ d=> ∃i:Int,(0<=i/\i<26)/\d= .int i) (λ_ _ _ _ h=>h)
  hms rfl ⟨by lia,by lia⟩ (by rw[zl];lia) ⟨c,x,rfl,hb⟩ hn (by erw[sg,Z0,Z7,l6,z0a,Q7,r1,rd,r6,r7,r8,r9,ra]) (by erw[Z0,Z7,l6,z0a]) (by erw[sg,i6,A2,List.getElem?_cons_zero,List.getElem?_cons_succ,B5,Z0,Z7,l6,z0a,Q7]) (by
   rintro i hi b tm m ⟨c,x,rfl,hb⟩ hm hf
   obtain⟨r,c',x',hs0,hs1,h',e'⟩:=Q6 l c x lt m hb hlt (by lia)
   refine⟨.int ((fi+r) %26),[.int c', .int x'],m,⟨c',x',rfl,h'⟩,⟨_,⟨by lia,by lia⟩,rfl⟩,i7 _,by simp[labs], ?_⟩
   erw[sg,i6,A2,List.getElem?_cons_zero,List.getElem?_cons_succ,B5]
   left
   rw[e',z0l rfl rfl rfl (by left) (by left;erw[hf])]
   left
   rw[z32 (by decide)]
   try rfl)
 obtain⟨ns,hns,rfl⟩:=z6Q g2
 refine⟨ns,c3,x3,n',by simp at g1;lia,hns,h3,by lia, ?_⟩
 rw[g6]
 erw[sg,Z0,Z7,l6,z0a,Q7,r1,rd,r6,r7,r8,r9,ra]
def zke(l n:Nat)(c x lt fi tp N:Int)(o1 o6 o7 o8 o9 oa:Option D)(dc:D)(ms:List (M D))(s:Stt)(hms:Z9 ms s= .ok [.int N] ⟨sg l c x o1 lt fi tp dc o6 o7 o8 o9 oa,[some (.lst l [.int c, .int x])],n⟩)(h0:0<=N)(h1:N<=100)(hb:Bg c x)(hn:l<n)(hlt:0<tp)(hlt':tp<1000)
 (r1: ∀d,C6 (rp (pl l d)) o1=o1) (rd: ∀d,rp (pl l d) dc=dc) (r6: ∀d,C6 (rp (pl l d)) o6=o6) (r7: ∀d,C6 (rp (pl l d)) o7=o7) (r8: ∀d,C6 (rp (pl l d)) o8=o8) (r9: ∀d,C6 (rp (pl l d)) o9=o9) (ra: ∀d,C6 (rp (pl l d)) oa=oa):
 ∃(ns:List Int) (c' x':Int) (n':Nat),(ns.length:Int)=N/\Bg c' x'/\n<=n'/\J1 (v7 ms) (.nm 0) (rt true) (Z1 y3 [(y0 1),(y0 2)]) 1 [0,4] s= .ok (.lst n' (ns.map .int)) ⟨sg l c' x' o1 lt fi tp dc o6 o7 o8 o9 oa,[some (.lst l [.int c', .int x'])],n'+1⟩:=by
 obtain⟨ys,b',n',g1,g2,g3,⟨c3,x3,rfl,h3⟩,g5,g6⟩:=z5g (ms:=ms) (me:=Z1 y3 [(y0 1),(y0 2)]) (N:=N.toNat) (ix:=[0,4]) (s:=s) (l:=l) (n:=n) (j:=N) (σ0:=sg l c x o1 lt fi tp dc o6 o7 o8 o9 oa) (tm0:=[some (.lst l [.int c, .int x])]) (b:=[.int c, .int x]) (Bg:=λb=> ∃c x,b=[.int c, .int x]/\Bg c x) (Q:=λ_ d=> ∃i:Int,d= .int i) (λ_ _ _ _ h=>h)
  hms rfl ⟨by lia,by lia⟩ (by rw[zl];lia) ⟨c,x,rfl,hb⟩ hn (by erw[sg,Z0,Z7,l6,z0a,Q7,r1,rd,r6,r7,r8,r9,ra]) (by erw[Z0,Z7,l6,z0a]) (by erw[sg,i6,A2,List.getElem?_cons_zero,List.getElem?_cons_succ,B5,Z0,Z7,l6,z0a,Q7]) (by
   rintro i hi b tm m ⟨c,x,rfl,hb⟩ hm hf
   obtain⟨r,c',x',hs0,hs1,h',e'⟩:=Q6 l c x tp m hb hlt (by lia)
   refine⟨.int r,[.int c', .int x'],m,⟨c',x',rfl,h'⟩,⟨_,rfl⟩,i7 _,by simp[labs], ?_⟩
   erw[sg,i6,A2,List.getElem?_cons_zero,List.getElem?_cons_succ,B5]
   left
   rw[e',z0l rfl rfl rfl (by left) hf]
   left)
 obtain⟨ns,rfl⟩:=z9D g2
 refine⟨ns,c3,x3,n',by simp at g1;lia,h3,by lia, ?_⟩
 rw[g6]
 erw[sg,Z0,Z7,l6,z0a,Q7,r1,rd,r6,r7,r8,r9,ra]
noncomputable def tb:MS:=(Z3 (Y5 (.nm 8) (mCB [(J1 (v7 [(y2 (mC (.int 1)) (Z1 y3 [(y0 0),(mC (.int 4))]) v6)]) (.nm 0) (rt true) (y2 (y2 (y0 1) (Z1 y3 [(y0 2),(y0 3)]) v6) (mC (.int 26)) z24) 1 [3,0,2])] z6z))
 (Z3 (Y5 (.nm 9) (mCB [(J1 (v7 [(Z1 y3 [(y0 0),(mC (.int 4))])]) (.nm 0) (rt true) (Z1 y3 [(y0 1),(y0 2)]) 1 [0,4])] z6z))
 (Z3 (Y5 (.nm 10) (mCB [(J1 (v7 [(Z1 y3 [(y0 0),(mCB [(y0 8)] U3)])]) (.nm 0) (rt true) (y2 (y2 (y0 1) (Z1 y3 [(y0 2),(y0 3)]) v6) (mC (.int 26)) z24) 1 [3,0,2])] z6z))
 (z1f (mCB [(y0 9),(y0 10)] Q1) (y0 5) (y0 8) z03))))
noncomputable abbrev Fre(o:Option D):Prop:= ∀k d,C6 (rp (pl k d)) o=o
def z1A(ns:List Int):Fre (some (.tup (ns.map .int))):=λ_ _=>by rw[l6,z3m]
def z0b(i:Int):Fre (some (.int i)):=λ_ _=>rfl
def Q4:Fre none:=λ_ _=>rfl
def ziY(l j n:Nat)(c x lt fi tp:Int)(o1 o6 o7 o8 o9 oa:Option D)(E:List Z5)(hE:E.length<=900)(hb:Bg c x)(hn:l<n)(hj:j<n)(hlj:l≠j)(h0:0<lt)(h1:lt<1000)(h2:0<tp)(h3:tp<1000)(f1:Fre o1)(f6:Fre o6)(f7:Fre o7)(f8:Fre o8)(f9:Fre o9)(fa:Fre oa):
 ∃(r:Z5) (c' x':Int) (n':Nat) (p8 p9 pa:Option D),Wf r/\Bg c' x'/\n<=n'/\Fre p8/\Fre p9/\Fre pa/\tb ⟨sg l c x o1 lt fi tp (TD j E) o6 o7 o8 o9 oa,[some (.lst l [.int c, .int x])],n⟩= .nx ⟨sg l c' x' o1 lt fi tp (TD j (z6b E r)) o6 o7 p8 p9 pa,[some (.lst l [.int c', .int x'])],n'⟩:=by
 have rd: ∀d,rp (pl l d) (TD j E)=TD j E:=λd=>zbd (λh=>hlj h.symm)
 unfold tb
 left
 obtain⟨q,c1,x1,hq0,hq1,b1,e1⟩:=Q6 l c x 4 n hb (by decide) (by decide)
 obtain⟨ks,c2,x2,n2,lk,kb,b2,hn2,e2⟩:=zjr l n c1 x1 lt fi tp (1+q) o1 o6 o7 o8 o9 oa (TD j E) [(y2 (mC (.int 1)) (Z1 y3 [(y0 0),(mC (.int 4))]) v6)] ⟨sg l c x o1 lt fi tp (TD j E) o6 o7 o8 o9 oa,[some (.lst l [.int c, .int x])],n⟩ (by
  unfold sg
  left
  rw[e1,Y4 rfl rfl rfl (λq=>by left;try erw[f1 l,f6 l,f7 l,f8 l,f9 l,fa l,rd];rfl) (λq=>by left;rfl)]
  try (left)) (by lia) (by lia) b1 hn h0 h1 (f1 l) rd (f6 l) (f7 l) (f8 l) (f9 l) (fa l)
 rw[e2]
 unfold sg
 left
 obtain⟨q3,c3,x3,hq30,hq31,b3,e3⟩:=Q6 l c2 x2 4 (n2+1) b2 (by decide) (by decide)
 obtain⟨ss,c4,x4,n4,ls,b4,hn4,e4⟩:=zke l (n2+1) c3 x3 lt fi tp q3 o1 o6 o7 (some (.tup (ks.map .int))) o9 oa (TD j E) [(Z1 y3 [(y0 0),(mC (.int 4))])] ⟨sg l c2 x2 o1 lt fi tp (TD j E) o6 o7 (some (.tup (ks.map .int))) o9 oa,[some (.lst l [.int c2, .int x2])],n2+1⟩ (by
  unfold sg
  left
  rw[e3,Y4 rfl rfl rfl (λq=>by left;try erw[f1 l,f6 l,f7 l,f9 l,fa l,rd,W7];rfl) (λq=>by left;rfl)]
  try (left)) (by lia) (by lia) b3 (by lia) h2 h3 (f1 l) rd (f6 l) (f7 l) (z1A ks l) (f9 l) (fa l)
 unfold sg at e4
 rw[e4]
 left
 obtain⟨q5,c5,x5,hq50,hq51,b5,e5⟩:=Q6 l c4 x4 ks.length (n4+1) b4 (by lia) (by lia)
 obtain⟨fs,c6,x6,n6,lf,_,b6,hn6,e6⟩:=zjr l (n4+1) c5 x5 lt fi tp q5 o1 o6 o7 (some (.tup (ks.map .int))) (some (.tup (ss.map .int))) oa (TD j E) [(Z1 y3 [(y0 0),(mCB [(y0 8)] U3)])] ⟨sg l c4 x4 o1 lt fi tp (TD j E) o6 o7 (some (.tup (ks.map .int))) (some (.tup (ss.map .int))) oa,[some (.lst l [.int c4, .int x4])],n4+1⟩ (by
  unfold sg
  left
  rw[z4B,e5,z0l rfl rfl rfl (by left;erw[f1 l,f6 l,f7 l,fa l,rd,W7]) (by left)]
  left
  erw[f1 l,f6 l,f7 l,fa l,rd,W7]) (by lia) (by lia) b5 (by lia) h0 h1 (f1 l) rd (f6 l) (f7 l) (z1A ks l) (z1A ss l) (fa l)
 unfold sg at e6
 rw[e6]
 left
 have hp:=zcc (j:=j) (E:=E) (r:=(ks,ss,fs)) (s:=⟨[some (.lst l [.int c6, .int x6]),o1,some (.int lt),some (.int fi),some (.int tp),some (TD j E),o6,o7,some (.tup (ks.map .int)),some (.tup (ss.map .int)),some (.tup (fs.map .int))],[some (.lst l [.int c6, .int x6])],n6+1⟩) (by lia)
 unfold vD tI at hp
 rw[hp]
 refine⟨(ks,ss,fs),c6,x6,n6+1,some (.tup (ks.map .int)),some (.tup (ss.map .int)),some (.tup (fs.map .int)),⟨by show 1<=ks.length;lia,by show ks.length<=4;lia,by show ss.length<=3;lia,by show fs.length<ks.length;lia,kb⟩,b6,by lia,z1A ks,z1A ss,z1A fs, ?_⟩
 erw[z0U,Z0,Z7,l6,z3m,Q7,z9C,f1 j,f6 j,f7 j,z09 hlj,J3,J9]
def zep{a b w:Int}(h0:0<=w)(h1:w<2): ∃v,(v=a\/v=b)/\atI [D.int a,D.int b] w=some (.int v):=by
 have:w=0\/w=1:=by lia
 rcases this with rfl|rfl
 .exact⟨a, .inl rfl,at0⟩
 .exact⟨b, .inr rfl,at1⟩
noncomputable def tb1:MS:=z1f (mCB [(mCB [(Z1 y3 [(y0 0),(y0 4)])] Q1),(mCB [] Q1)] Q1) (y0 5) (mCB [(y2 (y2 (y0 3) (y0 6) v6) (mC (.int 26)) z24)] Q1) z03
def zgO{n:Nat}:z2F ⟨σ,tm,n⟩= .ok (TD n []) ⟨σ,tm,n+1⟩:=(rfl)
def zgP(l j n:Nat)(c x lt fi tp k:Int)(o1 o7 o8 o9 oa:Option D)(E:List Z5)(hE:E.length<=900)(hb:Bg c x)(hlj:l≠j)(h2:0<tp)(h3:tp<1000)(f1:Fre o1)(f7:Fre o7)(f8:Fre o8)(f9:Fre o9)(fa:Fre oa):
 ∃(r:Z5) (c' x':Int),Wf r/\Bg c' x'/\tb1 ⟨sg l c x o1 lt fi tp (TD j E) (some (.int k)) o7 o8 o9 oa,[some (.lst l [.int c, .int x])],n⟩= .nx ⟨sg l c' x' o1 lt fi tp (TD j (z6b E r)) (some (.int k)) o7 o8 o9 oa,[some (.lst l [.int c', .int x'])],n⟩:=by
 have rd: ∀d,rp (pl l d) (TD j E)=TD j E:=λd=>zbd (λh=>hlj h.symm)
 unfold tb1 sg
 left
 obtain⟨q,c1,x1,hq0,hq1,b1,e1⟩:=Q6 l c x tp n hb h2 (by lia)
 rw[e1,Y4 rfl rfl rfl (λq=>by left;try erw[f1 l,f7 l,f8 l,f9 l,fa l,rd];rfl) (λq=>by left;rfl)]
 try (left)
 rw[z32 (by decide)]
 left
 have hp:=zcc (j:=j) (E:=E) (r:=([(fi+k) %26],[q],[])) (s:=⟨[some (.lst l [.int c1, .int x1]),o1,some (.int lt),some (.int fi),some (.int tp),some (TD j E),some (.int k),o7,o8,o9,oa],[some (.lst l [.int c1, .int x1])],n⟩) (by lia)
 unfold vD tI at hp
 erw[i6,A2] at hp
 rw[hp]
 refine⟨([(fi+k) %26],[q],[]),c1,x1,⟨by simp,by simp,by simp,by simp,λz hz=>by rw[t9.mp hz];lia⟩,b1, ?_⟩
 erw[z0U,Z0,Z7,l6,Q7,z9C,f1 j,f7 j,f8 j,f9 j,fa j,z09 hlj,J3,J9]
def zbf(l n:Nat)(c x:Int)(hb:Bg c x)(hn:l<n): ∃(rows:List Z5) (c' x':Int) (k n':Nat),(∀r∈rows,Wf r)/\rows.length<=40/\Bg c' x'/\n<=k/\k<n'/\z0h [.lst l [.int c, .int x]] n= .ok (.lst k (rows.map rD)) [.lst l [.int c', .int x']] n':=by
 generalize hr:z0h [.lst l [.int c, .int x]] n=r
 unfold z0h at hr
 have e0:z2X=(Z3 (Y5 (.nm 1) (y2 (Z1 y3 [(y0 0),(mC (.int 8))]) (mC (.int 7)) z3g))
  (Z3 (Y5 (.nm 2) (y2 (mCB [(y2 (mC (.int 1)) (Z1 y3 [(y0 0),(mC (.int 4))]) v6),(mC (.int 26))] lstM) (y0 1) ixD))
  (Z3 (Y5 (.nm 3) (Z1 y3 [(y0 0),(mC (.int 26))]))
  (Z3 (Y5 (.nm 4) (y2 (mCB [(mC (.int 3)),(mC (.int 40))] lstM) (Z1 y3 [(y0 0),(mC (.int 2))]) ixD))
  (Z3 (Y5 (.nm 5) z2F)
  (Z3 (sIf (G7 (y2 (Z1 y3 [(y0 0),(mC (.int 2))]) (mC (.int 0)) eqD)) (z01 (v7 [(y0 2)]) (.nm 6) tb1) sNx)
  (Z3 (z01 (v7 [(y2 (mCB [(Z1 y3 [(y0 0),(mC (.int 8))]),(mC (.int 40))] lstM) (y0 1) ixD)]) (.nm 7) tb)
  (z0e (mSl (J1 (K0 (y0 5)) (.nm 0) (rt true) (y2 (mCB [(y0 0)] Q1) (y2 (y0 1) (y0 0) z15) v6) 1 [5]) none (some (mC (.int 40)))))))))))):=rfl
 rw[e0] at hr
 revert hr
 left
 obtain⟨q1,c1,x1,hq1,hq1',b1,e1⟩:=Q6 l c x 8 n hb (by decide) (by decide)
 rw[e1,Y4 rfl rfl rfl (λq=>by left;rfl) (λq=>by left;rfl)]
 left
 rw[z9j ⟨by decide,by decide⟩]
 left
 obtain⟨q2,c2,x2,hq2,hq2',b2,e2⟩:=Q6 l c1 x1 4 n b1 (by decide) (by decide)
 rw[e2,Y4 rfl rfl rfl (λq=>by left;rfl) (λq=>by left;rfl)]
 left
 generalize hw:q1/7=w
 have hw0:0<=w:=by lia
 have hw1:w<2:=by lia
 obtain⟨lt,hlt,elt⟩:=zep (a:=1+q2) (b:=26) hw0 hw1
 rw[elt]
 left
 obtain⟨fi,c3,x3,hq3,hq3',b3,e3⟩:=Q6 l c2 x2 26 (n+1) b2 (by decide) (by decide)
 rw[e3,Y4 rfl rfl rfl (λq=>by left;rfl) (λq=>by left;rfl)]
 left
 obtain⟨q4,c4,x4,hq4,hq4',b4,e4⟩:=Q6 l c3 x3 2 (n+1+1) b3 (by decide) (by decide)
 rw[e4,z0l rfl rfl rfl (by left;try erw[z09 (show n+1≠l by lia),J3,J9,Q7]) (by left;try erw[z09 (show n+1≠l by lia),J3,J9,Q7])]
 left
 erw[z09 (show n+1≠l by lia),J3,J9,Q7]
 left
 obtain⟨tp,htp,etp⟩:=zep (a:=3) (b:=40) hq4 hq4'
 rw[etp]
 left
 rw[zgO]
 left
 have hj:l≠n+1+1:=by lia
 have rd0: ∀d,rp (pl l d) (TD (n+1+1) [])=TD (n+1+1) []:=λd=>zbd (λh=>hj h.symm)
 obtain⟨q5,c5,x5,hq5,hq5',b5,e5⟩:=Q6 l c4 x4 2 (n+1+1+1) b4 (by decide) (by decide)
 rw[e5,Y4 rfl rfl rfl (λq=>by left;try erw[rd0];rfl) (λq=>by left;rfl)]
 try (left)
 have k1: ∃(E:List Z5) (c6 x6:Int) (o6:Option D),(∀e∈E,Wf e)/\E.length<=26/\(E.map (·.1)).Nodup/\Bg c6 x6/\Fre o6/\zbP (q5==0) (z01 (v7 [(y0 2)]) (.nm 6) tb1) sNx ⟨sg l c5 x5 (some (.int w)) lt fi tp (TD (n+1+1) []) none none none none none,[some (.lst l [.int c5, .int x5])],n+1+1+1⟩= .nx ⟨sg l c6 x6 (some (.int w)) lt fi tp (TD (n+1+1) E) o6 none none none none,[some (.lst l [.int c6, .int x6])],n+1+1+1⟩:=by
  cases(q5==0) with
  |false=>exact⟨[],c5,x5,none,λe h=>absurd h t7,by simp,by simp,b5,Q4,by unfold sg;left⟩
  |true=>
   unfold sg
   left
   rw[z1y ⟨by lia,by lia⟩]
   left
   obtain⟨s',e,E,c6,x6,o6,rfl,g1,g2,g3,g4,g5⟩:=z0y (P:=λi s=> ∃(E:List Z5) (c6 x6:Int) (o6:Option D),s=⟨sg l c6 x6 (some (.int w)) lt fi tp (TD (n+1+1) E) o6 none none none none,[some (.lst l [.int c6, .int x6])],n+1+1+1⟩/\(∀e∈E,Wf e)/\E.length<=i/\(E.map (·.1)).Nodup/\Bg c6 x6/\Fre o6) (lo:=0) (N:=lt.toNat) (g:= .nm 6) (b:=tb1) (by
    rintro i hi s ⟨E,c6,x6,o6,rfl,g1,g2,g3,g4,g5⟩
    refine⟨sg l c6 x6 (some (.int w)) lt fi tp (TD (n+1+1) E) (some (.int (0+(i:Int)))) none none none none,rfl, ?_⟩
    obtain⟨r,c7,x7,hr,b7,e7⟩:=zgP l (n+1+1) (n+1+1+1) c6 x6 lt fi tp (0+(i:Int)) (some (.int w)) none none none none E (by lia) g4 hj (by lia) (by lia) (z0b w) Q4 Q4 Q4 Q4
    exact⟨_,e7,z6b E r,c7,x7,_,rfl,z9A g1 hr,C1 z6P (by lia),z9B g3,b7,z0b _⟩) lt.toNat 0 ⟨sg l c5 x5 (some (.int w)) lt fi tp (TD (n+1+1) []) none none none none none,[some (.lst l [.int c5, .int x5])],n+1+1+1⟩ (by lia) ⟨[],c5,x5,none,rfl,λe h=>absurd h t7,by simp,by simp,b5,Q4⟩
   exact⟨E,c6,x6,o6,g1,by lia,g3,g4,g5,e⟩
 obtain⟨E,c6,x6,o6,g1,g2,g3,b6,f6,e6⟩:=k1
 unfold sg at e6
 rw[e6]
 left
 have rd1: ∀d,rp (pl l d) (TD (n+1+1) E)=TD (n+1+1) E:=λd=>zbd (λh=>hj h.symm)
 obtain⟨q7,c7,x7,hq7,hq7',b7,e7⟩:=Q6 l c6 x6 8 (n+1+1+1) b6 (by decide) (by decide)
 rw[e7,Y4 rfl rfl rfl (λq=>by left;try erw[rd1,f6 l];rfl) (λq=>by left;rfl)]
 try (left)
 obtain⟨N,hN,eN⟩:=zep (a:=q7) (b:=40) hw0 hw1
 rw[eN]
 left
 rw[z1y ⟨by lia,by lia⟩]
 left
 obtain⟨s',e8,E2,c8,x8,o7,o8,o9,oa,n8,rfl,g1',g2',g3',b8,hn8,f7,f8,f9,fa⟩:=z0y (P:=λi s=> ∃(E2:List Z5) (c8 x8:Int) (o7 o8 o9 oa:Option D) (n8:Nat),s=⟨sg l c8 x8 (some (.int w)) lt fi tp (TD (n+1+1) E2) o6 o7 o8 o9 oa,[some (.lst l [.int c8, .int x8])],n8⟩/\(∀e∈E2,Wf e)/\E2.length<=26+i/\(E2.map (·.1)).Nodup/\Bg c8 x8/\n+1+1+1+1<=n8/\Fre o7/\Fre o8/\Fre o9/\Fre oa) (lo:=0) (N:=N.toNat) (g:= .nm 7) (b:=tb) (by
  rintro i hi s ⟨E2,c8,x8,o7,o8,o9,oa,n8,rfl,g1',g2',g3',b8,hn8,f7,f8,f9,fa⟩
  refine⟨sg l c8 x8 (some (.int w)) lt fi tp (TD (n+1+1) E2) o6 (some (.int (0+(i:Int)))) o8 o9 oa,rfl, ?_⟩
  obtain⟨r,c9,x9,n9,p8,p9,pa,hr,b9,hn9,h8,h9,ha,e9⟩:=ziY l (n+1+1) n8 c8 x8 lt fi tp (some (.int w)) o6 (some (.int (0+(i:Int)))) o8 o9 oa E2 (by lia) b8 (by lia) (by lia) hj (by lia) (by lia) (by lia) (by lia) (z0b w) f6 (z0b _) f8 f9 fa
  exact⟨_,e9,z6b E2 r,c9,x9,_,p8,p9,pa,n9,rfl,z9A g1' hr,C1 z6P (by lia),z9B g3',b9,by lia,z0b _,h8,h9,ha⟩) N.toNat 0 ⟨sg l c7 x7 (some (.int w)) lt fi tp (TD (n+1+1) E) o6 none none none none,[some (.lst l [.int c7, .int x7])],n+1+1+1+1⟩ (by lia) ⟨E,c7,x7,none,none,none,none,n+1+1+1+1,rfl,g1,by lia,g3,b7,i7 _,Q4,Q4,Q4,Q4⟩
 unfold sg at e8
 rw[e8]
 left
 have hT:isT (E2.map λr=>kd r.1)=true:=by cases E2<;>rfl
 obtain⟨n9,hn9,e9⟩:=zbe (E:=E2) (j:=n+1+1) (m0:=y0 5) (σ:=[some (.lst l [.int c8, .int x8]),some (.int w),some (.int lt),some (.int fi),some (.int tp),some (FD E2),o6,o7,o8,o9,oa]) (tm:=[some (.lst l [.int c8, .int x8])]) (n:=n8) (s:=⟨[some (.lst l [.int c8, .int x8]),some (.int w),some (.int lt),some (.int fi),some (.int tp),some (TD (n+1+1) E2),o6,o7,o8,o9,oa],[some (.lst l [.int c8, .int x8])],n8⟩) g3' (by lia) 5 rfl (by
  unfold K0
  left
  show(if isT (E2.map λr=>kd r.1)=true/\labsL (E2.map vD)=[] then _ else _)=_
  rw[if_pos ⟨hT,zdP E2⟩]
  erw[z0U,Z0,Z7,l6,Q7,z9C,f6 (n+1+1),f7 (n+1+1),f8 (n+1+1),f9 (n+1+1),fa (n+1+1),z09 hj,J3,J9]
  rfl)
 rw[e9]
 left
 intro hr
 subst hr
 refine⟨E2.take 40,c8,x8,n9+1,n9+1+1,λr hr=>g1' r (N4 hr),by rw[B6];lia,b8,by lia,by lia, ?_⟩
 rw[show(40:Int)=((40:Nat):Int) from rfl,z34,<-P3]
def y_app{l:Nat}{ds:List D}{n:Nat}(h:ds.length<sizeLine)(hl:labs y=[]):z2B (.lst l ds) [y] ⟨σ,tm,n⟩= .ok .non ⟨rpO (pl l (.lst l (ds++[y]))) σ,rpO (pl l (.lst l (ds++[y]))) tm,n⟩:=by
 erw[z2B]
 rw[if_pos ⟨h,by rw[hl];exact t7⟩]
 rfl
def z9E{ns:List Int}{i:Int}(h0:0<=i)(h1:i<ns.length): ∃v:Int,atI (ns.map D.int) i=some (.int v):=by
 obtain⟨d,hd,e⟩:=zgI (ds:=ns.map D.int) h0 (by simpa using h1)
 obtain⟨v,_,rfl⟩:=m8.mp hd
 exact⟨v,e⟩
def ziZ{b:Bool}: ∃v:Int,(0<=v/\v<2)/\(if b then(1:Int) else 0)=v:=by cases b<;>exact⟨_,⟨by decide,by decide⟩,rfl⟩
def zgQ(rows:List Z5)(hw: ∀r∈rows,Wf r)(hr:rows.length<=60)(B:D)(k n:Nat)(m7:Option D)(hk:k<n)(hB: ∀d,rp (pl n d) B=B): ∃(ms:List Int) (o4 o5 o6:Option D),ms≠[]/\ms.length<=300/\Fre o4/\Fre o5/\Fre o6/\
 z01 (Q8 (y0 1)) (.tp [(.nm 4),(.nm 5),(.nm 6)]) (J8 (J2 (y0 3) [(y0 4)] z25)) ⟨[some B,some (.lst k (rows.map rD)),some (.int 60),some (.lst n [.int 0]),none,none,none,none,none,none],[some B,some (.lst k (rows.map rD)),some (.int 60)],n+1⟩
  = .nx ⟨[some B,some (.lst k (rows.map rD)),some (.int 60),some (.lst n (ms.map .int)),o4,o5,o6,none,none,none],[some B,some (.lst k (rows.map rD)),some (.int 60)],n+1⟩:=by
 left
 obtain⟨s',e,ms,o4,o5,o6,rfl,g1,g2,g4,g5,g6⟩:=U7 (P:=λi s=> ∃(ms:List Int) (o4 o5 o6:Option D),s=⟨[some B,some (.lst k (rows.map rD)),some (.int 60),some (.lst n (ms.map .int)),o4,o5,o6,none,none,none],some (.lst k (rows.map rD))::[some B,some (.lst k (rows.map rD)),some (.int 60)],n+1⟩/\ms≠[]/\ms.length<=1+4*i/\Fre o4/\Fre o5/\Fre o6) (l:=k) (ds:=rows.map rD) (g:= .tp [(.nm 4),(.nm 5),(.nm 6)]) (tm:=[some B,some (.lst k (rows.map rD)),some (.int 60)])
  (b:=J8 (J2 (y0 3) [(y0 4)] z25)) (by rintro i s ⟨ms,o4,o5,o6,rfl,_⟩;rfl) (by
   rintro i d hd s ⟨ms,o4,o5,o6,rfl,g1,g2,g4,g5,g6⟩
   rw[List.getElem?_map] at hd
   cases hr':rows[i]? with
   |none=>rw[hr'] at hd;cases hd
   |some r=>
    rw[hr'] at hd
    cases hd
    have hi:i<rows.length:=(List.getElem?_eq_some_iff.mp hr').1
    have hl:=(hw r (List.mem_of_getElem? hr')).2.1
    refine⟨[some B,some (.lst k (rows.map rD)),some (.int 60),some (.lst n (ms.map .int)),some (.tup (r.1.map .int)),some (.tup (r.2.1.map .int)),some (.tup (r.2.2.map .int)),none,none,none],rfl, ?_⟩
    refine⟨_, ?_,ms++r.1,some (.tup (r.1.map .int)),some (.tup (r.2.1.map .int)),some (.tup (r.2.2.map .int)),rfl,by simp[g1],by rw[m5];lia,z1A _,z1A _,z1A _⟩
    left
    rw[z6N (by rw[zl];erw[i9];lia) (Z2 _)]
    left
    simp only[<-t8,Z8 (show k≠n by lia),W7,hB]) rows.length 0 ⟨[some B,some (.lst k (rows.map rD)),some (.int 60),some (.lst n [.int 0]),none,none,none,none,none,none],some (.lst k (rows.map rD))::[some B,some (.lst k (rows.map rD)),some (.int 60)],n+1⟩ (by simp) ⟨[0],none,none,none,rfl,by simp,by simp,Q4,Q4,Q4⟩
 rw[i9] at g2
 refine⟨ms,o4,o5,o6,g1,by lia,g4,g5,g6, ?_⟩
 rw[z0G (l:=k) (ds:=rows.map rD) (σ:=[some B,some (.lst k (rows.map rD)),some (.int 60),some (.lst n [.int 0]),none,none,none,none,none,none]) (tm:=[some B,some (.lst k (rows.map rD)),some (.int 60)]) (n:=n+1) (by left)]
 left
 rw[show kLst.len (some (.lst k (rows.map rD))::[some B,some (.lst k (rows.map rD)),some (.int 60)])=rows.length by show(rows.map rD).length=_;simp,e]
 rfl
noncomputable def pb:MS:=(Z3 (Y5 (.nm 9) (mCB [(y2 (Z1 y3 [(y0 0),(mC (.int 8))]) (mC (.int 7)) eqD)] za4))
 (J8 (J2 (y0 7) [(y2 (mCB [(y2 (y0 3) (Z1 y3 [(y0 0),(mCB [(y0 3)] U3)]) ixD),(Z1 y3 [(y0 0),(mC (.int 26))])] lstM) (y0 9) ixD)] z2B)))
def zj0(rows:List Z5)(l k n q:Nat)(c x i:Int)(ms ks:List Int)(o4 o5 o6 o9:Option D)(hb:Bg c x)(hl:l<n)(hk:k<n)(hlk:k≠l)(hq:n+1<q)(hm:ms≠[])(lm:ms.length<=300)(lk:ks.length<=500)(f4:Fre o4)(f5:Fre o5)(f6:Fre o6)(f9:Fre o9): ∃(v c' x' w:Int) (q':Nat),Bg c' x'/\q<=q'/\
 pb ⟨[some (.lst l [.int c, .int x]),some (.lst k (rows.map rD)),some (.int 60),some (.lst n (ms.map .int)),o4,o5,o6,some (.lst (n+1) (ks.map .int)),some (.int i),o9],[some (.lst l [.int c, .int x]),some (.lst k (rows.map rD)),some (.int 60)],q⟩
  = .nx ⟨[some (.lst l [.int c', .int x']),some (.lst k (rows.map rD)),some (.int 60),some (.lst n (ms.map .int)),o4,o5,o6,some (.lst (n+1) ((ks++[v]).map .int)),some (.int i),some (.int w)],[some (.lst l [.int c', .int x']),some (.lst k (rows.map rD)),some (.int 60)],q'⟩:=by
 have rr: ∀d,rp (pl l d) (.lst k (rows.map rD))= .lst k (rows.map rD):=λd=>Z8 hlk
 have rm: ∀d,rp (pl l d) (.lst n (ms.map .int))= .lst n (ms.map .int):=λd=>W9 (by lia)
 have rk: ∀d,rp (pl l d) (.lst (n+1) (ks.map .int))= .lst (n+1) (ks.map .int):=λd=>W9 (by lia)
 have lpos:0<ms.length:=by cases ms with|nil=>exact absurd rfl hm|cons _ _=>simp
 unfold pb
 left
 obtain⟨q1,c1,x1,hq1,hq1',b1,e1⟩:=Q6 l c x 8 q hb (by decide) (by decide)
 rw[e1,Y4 rfl rfl rfl (λq=>by left;try erw[rr,rm,rk,f4 l,f5 l,f6 l,f9 l];rfl) (λq=>by left;try erw[rr];rfl)]
 try (left)
 obtain⟨w,⟨hw0,hw1⟩,ew⟩:= @ziZ (q1==7)
 rw[ew]
 try (left)
 rw[z4B]
 obtain⟨q2,c2,x2,hq2,hq2',b2,e2⟩:=Q6 l c1 x1 ms.length q b1 (by lia) (by lia)
 rw[e2,Y4 rfl rfl rfl (λq=>by left;try erw[rr,rm,rk,f4 l,f5 l,f6 l];rfl) (λq=>by left;try erw[rr,rm,rk];rfl)]
 try (left)
 obtain⟨v1,ev1⟩:=z9E hq2 hq2'
 rw[ev1]
 left
 obtain⟨v2,c3,x3,hq3,hq3',b3,e3⟩:=Q6 l c2 x2 26 q b2 (by decide) (by decide)
 rw[e3,Y4 rfl rfl rfl (λq=>by left;try erw[rr,rm,rk,f4 l,f5 l,f6 l];rfl) (λq=>by left;try erw[rr,rk];rfl)]
 try (left)
 obtain⟨v,hv,ev⟩:=zep (a:=v1) (b:=v2) hw0 hw1
 rw[ev]
 left
 try erw[rk]
 rw[y_app (by rw[zl,i9];lia) rfl]
 left
 refine⟨v,c3,x3,w,q+1,b3,by lia, ?_⟩
 have hs:ks.map D.int++[D.int v]=(ks++[v]).map D.int:=by rw[t8];rfl
 erw[hs,Z8 (show k≠n+1 by lia),W9 (show n≠n+1 by lia),f4 (n+1),f5 (n+1),f6 (n+1),z09 (show l≠n+1 by lia),J3,J9,Q7]
def z7F(rows:List Z5)(hw: ∀r∈rows,Wf r)(hr:rows.length<=60)(l k n:Nat)(c x:Int)(hb:Bg c x)(hl:l<n)(hk:k<n)(hlk:k≠l): ∃(ks:List Int) (c' x':Int) (q n':Nat),ks.length<=60/\Bg c' x'/\n<=q/\q<n'/\z0v [.lst l [.int c, .int x], .lst k (rows.map rD), .int 60] n= .ok (.lst q (ks.map .int)) [.lst l [.int c', .int x'], .lst k (rows.map rD), .int 60] n':=by
 unfold z0v z1l
 left
 obtain⟨ms,o4,o5,o6,hm,lm,f4,f5,f6,e1⟩:=zgQ rows hw hr (.lst l [.int c, .int x]) k n none hk (λd=>by rw[z09 (by lia)];erw[J3,J9,Q7])
 rw[z7w] at e1
 rw[e1]
 left
 obtain⟨q2,c2,x2,hq2,hq2',b2,e2⟩:=Q6 l c x 61 (n+1+1) hb (by decide) (by decide)
 have rr: ∀d,rp (pl l d) (.lst k (rows.map rD))= .lst k (rows.map rD):=λd=>Z8 hlk
 have rm: ∀d,rp (pl l d) (.lst n (ms.map .int))= .lst n (ms.map .int):=λd=>W9 (by lia)
 rw[show(60:Int)+1=61 from rfl,e2,z0l rfl rfl rfl (by left;erw[rr,rm,f4 l,f5 l,f6 l,z09 (show n+1≠l by lia),J9]) (by left;erw[rr])]
 left
 erw[rr,rm,f4 l,f5 l,f6 l,z09 (show n+1≠l by lia),J9]
 try (left)
 rw[z1y ⟨by lia,by lia⟩]
 left
 obtain⟨s',e3,ks,c3,x3,o8,o9,q,rfl,b3,hq,lk,f8,f9⟩:=z0y (P:=λi s=> ∃(ks:List Int) (c3 x3:Int) (o8 o9:Option D) (q:Nat),s=⟨[some (.lst l [.int c3, .int x3]),some (.lst k (rows.map rD)),some (.int 60),some (.lst n (ms.map .int)),o4,o5,o6,some (.lst (n+1) (ks.map .int)),o8,o9],[some (.lst l [.int c3, .int x3]),some (.lst k (rows.map rD)),some (.int 60)],q⟩/\Bg c3 x3/\n+1<q/\ks.length=i/\Fre o8/\Fre o9) (lo:=0) (N:=q2.toNat) (g:= .nm 8) (b:=pb) (by
  rintro i hi s ⟨ks,c3,x3,o8,o9,q,rfl,b3,hq,lk,f8,f9⟩
  refine⟨[some (.lst l [.int c3, .int x3]),some (.lst k (rows.map rD)),some (.int 60),some (.lst n (ms.map .int)),o4,o5,o6,some (.lst (n+1) (ks.map .int)),some (.int (0+(i:Int))),o9],rfl, ?_⟩
  obtain⟨v,c4,x4,w,q',b4,hq',e4⟩:=zj0 rows l k n q c3 x3 (0+(i:Int)) ms ks o4 o5 o6 o9 b3 hl hk hlk hq hm lm (by lia) f4 f5 f6 f9
  exact⟨_,e4,ks++[v],c4,x4,_,_,q',rfl,b4,by lia,by rw[m5,lk];rfl,z0b _,z0b _⟩) q2.toNat 0 ⟨[some (.lst l [.int c2, .int x2]),some (.lst k (rows.map rD)),some (.int 60),some (.lst n (ms.map .int)),o4,o5,o6,some (.lst (n+1) []),none,none],[some (.lst l [.int c2, .int x2]),some (.lst k (rows.map rD)),some (.int 60)],n+1+1⟩ (by lia) ⟨[],c2,x2,none,none,n+1+1,rfl,b2,by lia,rfl,Q4,Q4⟩
 unfold pb at e3
 rw[e3]
 left
 exact⟨ks,c3,x3,n+1,q,by lia,b3,by lia,by lia,rfl⟩
theorem z3F(hw: ∀r∈rows,Wf r){k:Int}(hk: ∀r∈rows,k∉r.1): ∀(m:Nat) (R:List Int),R.length+1<=m->(Y8 rows m (R++[k])).2.1≠[]
 |0,R,h=>by lia
 |m+1,R,h=>by
  have hs:G1 rows (R++[k])=false:=by
   unfold G1
   have e1:decide (R++[k]=[])=false:=by simp
   rw[e1,L8,P1]
   intro r hr hw'
   erw[wt,A7,decide_eq_true_eq] at hw'
   refine hk r hr (N4 (i:=(R++[k]).length) ?_)
   rw[hw'.2];simp
  unfold Y8
  erw[hs,A4,if_false]
  unfold Q3
  cases e:z0V rows (R++[k]) with
  |none=>
   dsimp only
   intro h0
   have:=(R8.mp h0).1
   cases R<;>simp at this
  |some r=>
   obtain⟨hm,ht⟩:=z0z e
   have wf:=hw r hm
   have hl:r.1.length<=R.length:=by
    rcases R6 R.length r.1.length with q|q
    .exfalso
     refine hk r hm ?_
     rw[<-ht,B0 (by simp;lia)]
     simp
    .exact q
   dsimp only
   rw[N6 hl,<-A5,A6]
   exact z3F hw hk m (r.2.2++R.drop r.1.length) (by
    rw[m5,C7]
    have:=wf.2.2.2.1
    have:=wf.1
    lia)
theorem z3G(hw: ∀r∈rows,Wf r): ∀(m:Nat) (R:List Int),R.length<=m->G1 rows (Y8 rows m R).2.2=true
 |0,R,h=>by
  have e:R=[]:=F5 (by lia)
  subst e;simp[Y8,G1]
 |m+1,R,h=>by
  unfold Y8
  cases hs:G1 rows R with
  |true=>erw[if_true];exact hs
  |false=>
   have hne:R≠[]:=λe=>by rw[e] at hs;simp[G1] at hs
   erw[A4,if_false]
   exact z3G hw m _ (by have:=(z0A hw hne).1;lia)
noncomputable abbrev Ent:=Int×List Int×List Int
noncomputable def okK(rows:List Z5)(W:List Int)(k:Int):Bool:=(Y8 rows 1000 (W++[k])).2.1.isEmpty
noncomputable def ent(rows:List Z5)(W:List Int)(k:Int):Ent:=(k,(Y8 rows 1000 (W++[k])).1,(Y8 rows 1000 (W++[k])).2.2)
noncomputable def K26:List Int:=(C4 26).map λ(i:Nat)=>(i:Int)
noncomputable def z0m(rows:List Z5)(k:Int):Bool:=rows.any λr=>decide (k∈r.1)
noncomputable def K9(rows:List Z5)(W:List Int):List Ent:=(K26.filter (okK rows W)).map (ent rows W)
noncomputable def zgR(rows:List Z5)(W:List Int):List Ent:=((K26.filter (z0m rows)).filter (okK rows W)).map (ent rows W)
def zdR(hw: ∀r∈rows,Wf r){W:List Int}(hz:W.length<=900):zgR rows W=K9 rows W:=by
 unfold zgR K9
 rw[List.filter_filter]
 congr 1
 refine T7 λk _=> ?_
 cases h:z0m rows k with
 |true=>simp
 |false=>
  have hk: ∀r∈rows,k∉r.1:=λr hr hm=>by
   unfold z0m at h
   rw[P1] at h
   exact h r hr (by simpa using hm)
  have:=z3F hw hk 1000 W (by lia)
  have:okK rows W k=false:=by
   unfold okK
   cases e:(Y8 rows 1000 (W++[k])).2.1 with
   |nil=>exact absurd e this
   |cons _ _=>rfl
  simp[this]
noncomputable abbrev Sg:=Nat×List Int
noncomputable def fits(sn:List Int)(p:Nat)(e:Ent):Bool:=decide ((sn.drop p).take e.2.1.length=e.2.1)
noncomputable def z00(rows:List Z5)(sn:List Int)(g:Sg):List (Int×Sg):=((K9 rows g.2).filter (fits sn g.1)).map λe=>(e.1,(g.1+e.2.1.length,e.2.2))
noncomputable abbrev Fd:=List (Sg×Nat)
noncomputable def addF(F:Fd)(c:Nat)(g:Sg):Fd:=if g∈F.map (·.1) then F else F++[(g,c+1)]
noncomputable def putF(F:Fd)(c:Nat)(gs:List Sg):Fd:=gs.foldl (λF g=>addF F c g) F
noncomputable def proc(gl:Sg->List Sg)(F:Fd)(i:Nat):Fd:=match F[i]? with
 |some q=>putF F q.2 (gl q.1)
 |none=>F
noncomputable def runF'(gl:Sg->List Sg):Nat->Nat->Fd->Fd
 |0,_,F=>F
 |n+1,i,F=>runF' gl n (i+1) (proc gl F i)
def zbg{c:Nat}: ∃A,addF F c g=F++A:=by
 unfold addF
 split
 .exact⟨[],by simp⟩
 .exact⟨_,rfl⟩
theorem z4q{c:Nat}: ∀{gs:List Sg} {F:Fd},∃A,putF F c gs=F++A
 |[],F=>⟨[],by simp[putF]⟩
 |g::gs,F=>by
  obtain⟨A,h⟩:=zbg (F:=F) (c:=c) (g:=g)
  obtain⟨B,h'⟩:=z4q (c:=c) (gs:=gs) (F:=addF F c g)
  refine⟨A++B, ?_⟩
  show putF (addF F c g) c gs=_
  rw[h',h,A5]
def zbh{i:Nat}: ∃A,proc gl F i=F++A:=by
 unfold proc
 split
 .exact z4q
 .exact⟨[],by simp⟩
theorem z35: ∀(n m i:Nat) (F:Fd),runF' gl (n+m) i F=runF' gl m (i+n) (runF' gl n i F)
 |0,m,i,F=>by simp[runF']
 |n+1,m,i,F=>by
  rw[show n+1+m=(n+m)+1 by lia]
  show runF' gl (n+m) (i+1) (proc gl F i)=_
  rw[z35 n m (i+1)]
  show _=runF' gl m (i+(n+1)) (runF' gl n (i+1) (proc gl F i))
  rw[show i+1+n=i+(n+1) by lia]
theorem z6c: ∀(n i:Nat) (F:Fd),∃A,runF' gl n i F=F++A
 |0,i,F=>⟨[],by simp[runF']⟩
 |n+1,i,F=>by
  obtain⟨A,h⟩:=zbh (gl:=gl) (F:=F) (i:=i)
  obtain⟨B,h'⟩:=z6c n (i+1) (proc gl F i)
  refine⟨A++B, ?_⟩
  show runF' gl n (i+1) (proc gl F i)=_
  rw[h',h,A5]
def z6R{n m:Nat}(h:n<=m):(runF' gl n 0 F).length<=(runF' gl m 0 F).length:=by
 obtain⟨d,rfl⟩:=Nat.exists_eq_add_of_le h
 rw[z35]
 obtain⟨A,e⟩:=z6c (gl:=gl) d (0+n) (runF' gl n 0 F)
 rw[e,m5];lia
def zdS{B:Nat}(hB: ∀n,(runF' gl n 0 F).length<=B): ∃N,N<=B/\(runF' gl N 0 F).length=N/\∀i,i<N->i<(runF' gl i 0 F).length:=by
 have key: ∀d,(∀i,i<d->i<(runF' gl i 0 F).length)\/∃N,N<d/\(runF' gl N 0 F).length<=N/\∀i,i<N->i<(runF' gl i 0 F).length:=by
  intro d
  induction d with
  |zero=>exact .inl λi h=>absurd h (S4 _)
  |succ d ih=>
   rcases ih with h|⟨N,h1,h2⟩
   .rcases R6 d (runF' gl d 0 F).length with q|q
    .exact .inl λi hi=>by
      rcases T3 (Nat.le_of_lt_succ hi) with z|z
      .exact h i z
      .rw[z];exact q
    .exact .inr ⟨d,B4 _,q,h⟩
   .exact .inr ⟨N,by lia,h2⟩
 rcases key (B+1) with h|⟨N,h1,h2,h3⟩
 .exact absurd (h B (B4 _)) (by have:=hB B;lia)
 .refine⟨N,by lia, ?_,h3⟩
  rcases Nat.eq_zero_or_pos N with z|z
  .subst z;lia
  .have:=h3 (N - 1) (by lia)
   have:=z6R (gl:=gl) (F:=F) (show N - 1<=N by lia)
   lia
def z9F{F:Fd}{c:Nat}(h:(F.map (·.1)).Nodup):((addF F c g).map (·.1)).Nodup:=by
 unfold addF
 split
 .exact h
 .rename_i hn
  rw[t8,O9]
  refine⟨h,by simp,λa ha b hb e=> ?_⟩
  erw[i6,A2,t9] at hb
  exact hn (hb▸e▸ha)
theorem z4r{Q:Sg->Prop}{c:Nat}: ∀{gs:List Sg} {F:Fd},(F.map (·.1)).Nodup->(∀q∈F,Q q.1)->(∀g∈gs,Q g)->((putF F c gs).map (·.1)).Nodup/\∀q∈putF F c gs,Q q.1
 |[],F,h1,h2,_=>⟨h1,h2⟩
 |g::gs,F,h1,h2,h3=>by
  refine z4r (gs:=gs) (F:=addF F c g) (z9F h1) (λq hq=> ?_) (λg' h'=>h3 g' (i5 _ h'))
  unfold addF at hq
  split at hq
  .exact h2 q hq
  .rcases l4.mp hq with hq|hq
   .exact h2 q hq
   .rw[t9.mp hq];exact h3 g (l5 ..)
theorem z4s{Q:Sg->Prop}(hq: ∀g,Q g->∀g'∈gl g,Q g'): ∀(n i:Nat) (F:Fd),(F.map (·.1)).Nodup->(∀q∈F,Q q.1)->((runF' gl n i F).map (·.1)).Nodup/\∀q∈runF' gl n i F,Q q.1
 |0,i,F,h1,h2=>⟨h1,h2⟩
 |n+1,i,F,h1,h2=>by
  have key:((proc gl F i).map (·.1)).Nodup/\∀q∈proc gl F i,Q q.1:=by
   unfold proc
   split
   .rename_i q e
    exact z4r h1 h2 (hq _ (h2 q (List.mem_of_getElem? e)))
   .exact⟨h1,h2⟩
  exact z4s hq n (i+1) _ key.1 key.2
noncomputable def z4t(rows:List Z5):List (List Int):=[]::(rows.map λr=>(C4 r.1.length).map λn=>r.1.take n).flatten
def zbi(h:G1 rows W=true):W∈z4t rows:=by
 unfold G1 at h
 erw[S5,decide_eq_true_eq,R3] at h
 unfold z4t
 rcases h with rfl|⟨r,hr,hw⟩
 .simp
 .erw[wt,A7,decide_eq_true_eq] at hw
  refine i5 _ (u04.mpr ⟨_,m8.mpr ⟨r,hr,rfl⟩,m8.mpr ⟨W.length,by simpa using hw.1,hw.2⟩⟩)
def z9G{rows:List Z5}(hw: ∀r∈rows,Wf r):(z4t rows).length<=1+4*rows.length:=by
 have:((rows.map λr=>(C4 r.1.length).map λn=>r.1.take n).flatten).length<=4*rows.length:=by
  induction rows with
  |nil=>simp
  |cons r rows ih=>
   have:=ih λq hq=>hw q (i5 _ hq)
   have w:=(hw r (l5 ..)).2.1
   erw[i6,D3,m5,i9,List.length_range,A3]
   lia
 unfold z4t
 rw[A3];lia
theorem z2g{α:Type}[DecidableEq α]: ∀{xs ys:List α},xs.Nodup->(∀x∈xs,x∈ys)->xs.length<=ys.length
 |[],ys,_,_=>C0 _
 |x::xs,ys,h,hm=>by
  have h':=D9.mp h
  have hx:=hm x (l5 ..)
  have:=z2g (xs:=xs) (ys:=ys.erase x) h'.2 λz hz=>by
   rw[List.mem_erase_of_ne (λ(e:z=x)=>h'.1 (e▸hz))]
   exact hm z (i5 _ hz)
  rw[List.length_erase_of_mem hx] at this
  have hp:0<ys.length:=List.length_pos_of_mem hx
  rw[A3];lia
noncomputable def zhx(rows:List Z5)(n:Nat):List Sg:=((C4 (n+1)).map λp=>(z4t rows).map λw=>(p,w)).flatten
def zbj{n:Nat}:(zhx rows n).length=(n+1)*(z4t rows).length:=by
 unfold zhx
 rw[List.length_flatten,D4]
 have:((C4 (n+1)).map (L9∘λp=>(z4t rows).map λw=>(p,w)))=m9 (n+1) (z4t rows).length:=by
  rw[List.eq_replicate_iff]
  refine⟨by simp,λx hx=> ?_⟩
  obtain⟨p,_,rfl⟩:=m8.mp hx
  simp
 rw[this,List.sum_replicate_nat]
noncomputable def Ok(rows:List Z5)(n:Nat)(g:Sg):Prop:=g.1<=n/\G1 rows g.2=true
def zgS{n:Nat}(h:Ok rows n g):g∈zhx rows n:=by
 refine u04.mpr ⟨_,m8.mpr ⟨g.1,O4.mpr (Nat.lt_succ_of_le h.1),rfl⟩,m8.mpr ⟨g.2,zbi h.2,rfl⟩⟩
noncomputable def gl(rows:List Z5)(sn:List Int)(g:Sg):List Sg:=(z00 rows sn g).map (·.2)
def z1B(hw: ∀r∈rows,Wf r){W:List Int}(h:G1 rows W=true):W.length<=3:=by
 unfold G1 at h
 erw[S5,decide_eq_true_eq,R3] at h
 rcases h with rfl|⟨r,hr,hw'⟩
 .simp
 .erw[wt,A7,decide_eq_true_eq] at hw'
  have:=(hw r hr).2.1;lia
def zdT(hw: ∀r∈rows,Wf r){sn:List Int}(h:Ok rows sn.length g): ∀g'∈gl rows sn g,Ok rows sn.length g':=λg' hg=>by
 unfold gl z00 at hg
 obtain⟨q,hq,rfl⟩:=m8.mp hg
 obtain⟨e,he,rfl⟩:=m8.mp hq
 obtain⟨he,hf⟩:=N7.mp he
 unfold K9 at he
 obtain⟨k,_,rfl⟩:=m8.mp he
 refine⟨?_,z3G hw 1000 _ (by have:=z1B hw h.2;simp;lia)⟩
 unfold fits at hf
 erw[decide_eq_true_eq] at hf
 have:=congrArg L9 hf
 rw[B6,C7] at this
 have:=h.1
 show g.1+(ent rows g.2 k).2.1.length<=sn.length
 lia
def z36{rows:List Z5}(hw: ∀r∈rows,Wf r)(hr:rows.length<=40){sn:List Int}(hs:sn.length<=24)(n:Nat):(runF' (gl rows sn) n 0 [((0,[]),0)]).length<=5000:=by
 obtain⟨h1,h2⟩:=z4s (gl:=gl rows sn) (Q:=Ok rows sn.length) (λg h=>zdT hw h) n 0 [((0,[]),0)] (by simp) (λq hq=>by
  rw[t9.mp hq]
  exact⟨C0 _,by simp[G1]⟩)
 have:=z2g h1 (ys:=zhx rows sn.length) λg hg=>by
  obtain⟨q,hq,rfl⟩:=m8.mp hg
  exact zgS (h2 q hq)
 rw[i9,zbj] at this
 have hl:=z9G hw
 have:(sn.length+1)*(z4t rows).length<=25*161:=Nat.mul_le_mul (by lia) (by lia)
 lia
def z4u(a b:Int):ltE (.int a) (.int b)=decide (a<b):=by
 unfold ltE
 erw[er,So.ltD,B5]
def z6S(ks:List Int):Lin (ks.map D.int):=by
 refine⟨λx hx y hy h=> ?_,λx hx y hy z hz h1 h2=> ?_,λx hx y hy h1 h2=> ?_⟩
 .obtain⟨v,_,rfl⟩:=m8.mp hx
  obtain⟨w,_,rfl⟩:=m8.mp hy
  rw[z4u] at h⊢
  erw[decide_eq_true_eq,decide_eq_false_iff_not] at h⊢
  lia
 .obtain⟨v,_,rfl⟩:=m8.mp hx
  obtain⟨w,_,rfl⟩:=m8.mp hy
  obtain⟨u,_,rfl⟩:=m8.mp hz
  rw[z4u] at h1 h2⊢
  erw[decide_eq_false_iff_not] at h1 h2⊢
  lia
 .obtain⟨v,_,rfl⟩:=m8.mp hx
  obtain⟨w,_,rfl⟩:=m8.mp hy
  rw[z4u] at h1 h2
  erw[decide_eq_false_iff_not] at h1 h2
  congr 1;lia
def z6d{k:Int}:k∈K26↔0<=k/\k<26:=by
 unfold K26
 erw[m8,O4]
 constructor
 .rintro ⟨n,h,rfl⟩;lia
 .intro h;exact⟨k.toNat,by lia,by lia⟩
def zcd:K26.Pairwise (· < ·):=by
 unfold K26
 rw[T8]
 exact List.pairwise_lt_range.imp λh=>by lia
def zdU{ks:List Int}(hn:ks.Nodup)(hk: ∀k∈ks,0<=k/\k<26):z5V (ks.map D.int)=(K26.filter λk=>decide (k∈ks)).map D.int:=by
 have hp:(K26.filter λk=>decide (k∈ks)).Perm ks:=by
  refine(List.perm_ext_iff_of_nodup ((zcd.filter _).imp λh=> ?_) hn).mpr λk=> ?_
  .lia
  .erw[N7,decide_eq_true_eq,z6d]
   exact⟨λh=>h.2,λh=>⟨hk k h,h⟩⟩
 have hs:((K26.filter λk=>decide (k∈ks)).map D.int).Pairwise λa b=>ltE b a=false:=by
  rw[T8]
  refine(zcd.filter _).imp λh=> ?_
  rw[z4u];erw[decide_eq_false_iff_not];lia
 obtain⟨p1,s1⟩:=zdu (z6S ks)
 refine List.Perm.eq_of_pairwise (le:=λa b=>ltE b a=false) (λa b ha hb h1 h2=> ?_) s1 hs (p1.trans (hp.map D.int).symm)
 exact(z6S ks).e a (p1.mem_iff.mp ha) b ((hp.map D.int).mem_iff.mp hb) h2 h1
noncomputable def kkD(j:Nat)(ks:List Int):D:= .dct j (.non::ks.map .int) (ks.map λ_=> .bool true)
noncomputable def za6(ks:List Int)(k:Int):List Int:=if k∈ks then ks else ks++[k]
def zce(ks:List Int)(k:Int):((ks.map D.int).any λd=>decide (z02 d=some (.inl k)))=decide (k∈ks):=by
 induction ks with
 |nil=>rfl
 |cons p ks ih=>
  have e0:z02 (D.int p)=some (.inl p):=rfl
  rw[i6,N3,ih,e0]
  by_cases h:p=k
  .subst h;simp
  .have h': ¬k=p:=λe=>h e.symm
   simp[h,h']
def zgT{j:Nat}{ks:List Int}{k:Int}{s:Stt}(hz:ks.length<=1000):z44 (kkD j ks) (.int k) (.bool true) s= .nx (s.put j (kkD j (za6 ks k))):=by
 have hl:labsL (ks.map λ_=>D.bool true)=[]:=W5 λd hd=>by obtain⟨_,_,rfl⟩:=m8.mp hd;rfl
 unfold z44 kkD
 erw[z02]
 rw[if_pos ⟨by rw[i9,zl];lia,rfl,hl⟩]
 have e1:z8Y (ks.map D.int) (.inl k)=(za6 ks k).map D.int:=by
  unfold z8Y za6
  rw[zce]
  by_cases h:k∈ks
  .erw[h,decide_true,if_true]
  .erw[h,decide_false,A4,if_false,t8];rfl
 have e2:z5T (ks.map D.int) (ks.map λ_=>D.bool true) (.inl k) (.bool true)=(za6 ks k).map λ_=>D.bool true:=by
  unfold z5T za6
  rw[zce]
  by_cases h:k∈ks
  .erw[h,decide_true,if_true]
   clear h hz hl e1
   induction ks with
   |nil=>rfl
   |cons p ks ih=>erw[i6,E4,ite_self,ih]
  .erw[h,decide_false,A4,if_false,t8];rfl
 rw[e1,e2]
def zdV{j:Nat}:labs (kkD j ks)=[j]:=by
 have hl:labsL (ks.map λ_=>D.bool true)=[]:=W5 λd hd=>by obtain⟨_,_,rfl⟩:=m8.mp hd;rfl
 erw[kkD,labs,labsL,Z2,hl,l0]
def zdW{k j:Nat}(h:j≠k):rp (pl k d) (kkD j ks)=kkD j ks:=G4 (by rw[zdV];erw[t9];lia)
def zgU{j:Nat}:rp (pl j d) (kkD j ks)=d:=by unfold kkD;erw[rp,pl,if_true]
def zgV{j n:Nat}{ks:List Int}(hn:ks.Nodup)(hk: ∀k∈ks,0<=k/\k<26):zc1 [kkD j ks] ⟨σ,tm,n⟩= .ok (.lst n ((K26.filter λk=>decide (k∈ks)).map .int)) ⟨σ,tm,n+1⟩:=by
 have e: ∀ns:List Int,z19 (ns.map D.int)=some ns:=λns=>by
  induction ns with
  |nil=>rfl
  |cons n ns ih=>erw[i6,z19,ih]
 have hz:=z2g hn (ys:=K26) λk h=>z6d.mpr (hk k h)
 have:K26.length=26:=by simp[K26]
 unfold zc1 kkD
 erw[e]
 rw[if_pos (by lia),zdU hn hk]
 rfl
def zdX{ks:List Int}{k:Int}(h:ks.Nodup):(za6 ks k).Nodup:=by
 unfold za6
 split
 .exact h
 .rename_i hn
  rw[O9]
  refine⟨h,by simp,λa ha b hb e=> ?_⟩
  rw[t9] at hb
  exact hn (hb▸e▸ha)
def z6T{k z:Int}:z∈za6 ks k↔z∈ks\/z=k:=by
 unfold za6
 split
 .rename_i h
  exact⟨.inl,λq=>q.elim id λe=>e▸h⟩
 .simp
def zgW{ks:List Int}(hn:ks.Nodup)(hk: ∀k∈ks,0<=k/\k<26):ks.length<=26:=by
 have hz:=z2g hn (ys:=K26) λk h=>z6d.mpr (hk k h)
 have:K26.length=26:=by simp[K26]
 lia
noncomputable def FdP(PK:List (List Int)):D:= .fdc (PK.map kd) (PK.map λ_=> .bool true)
def z4v(PK:List (List Int)):labsL (PK.map λ_=>D.bool true)=[]:=W5 λd hd=>by obtain⟨_,_,rfl⟩:=m8.mp hd;rfl
def z5o{k:Nat}{d:D}{PK:List (List Int)}:rp (pl k d) (FdP PK)=FdP PK:=G4 (by erw[FdP,labs,z4v];exact t7)
def zdY{rows:List Z5}{PK:List (List Int)}(h: ∀R,R∈PK↔G1 rows R=true)(R:List Int)(s:Stt):z0o (.tup (R.map .int)) (FdP PK) s= .ok (.bool (!G1 rows R)) s:=by
 have e:decide (R∈PK)=G1 rows R:=by
  rw[S1,decide_eq_true_iff];exact h R
 unfold z0o FdP
 erw[rdD,z0B,z9x,e]
 rfl
theorem z1V(hw: ∀r∈rows,Wf r): ∀(m:Nat) (R:List Int),(Y8 rows m R).1.length<=3*R.length/\(Y8 rows m R).2.1.length<=R.length
 |0,R=>by simp[Y8]
 |m+1,R=>by
  unfold Y8
  cases hs:G1 rows R with
  |true=>simp
  |false=>
   have hne:R≠[]:=λe=>by rw[e] at hs;simp[G1] at hs
   have h1:=z0A hw hne
   have h2:=z1V hw m (Q3 rows R).2.2
   erw[A4,if_false,m5]
   lia
def zdZ{a m:Nat}{L:List Int}(h:L.length<=2000):eqD (.lst a (L.map D.int)) (.lst m []) s= .ok (.bool L.isEmpty) s:=by
 have r:=z5i (n:=0) (k:=0) (l:=a) (es:=L.map D.int) (C0 _) (by simpa using h) λe he=>by
  obtain⟨i,_,rfl⟩:=m8.mp he;exact⟨rfl,by simp[er,PyData.depth]⟩
 have g:=z9n _ r.1
 have g0:(er (.lst m [])).canLay0=true/\Mi.plain (.lst m [])=true:=⟨rfl,rfl⟩
 rw[zhv (by
  erw[eqC,g.1,g.2,g0.1,g0.2,P4,F3,decide_eq_true_eq]
  have:=S3 (er (.lst a (L.map D.int))).depth (er (.lst m [])).depth
  have:=r.2
  lia)]
 congr 2
 cases L with
 |nil=>rfl
 |cons c cs=>rfl
noncomputable def EnD(lo hi:Nat):List Ent->List D->Prop
 |[],ds=>ds=[]
 |e::es,ds=> ∃a r,ds= .tup [.int e.1, .lst a (e.2.1.map .int), .tup (e.2.2.map .int)]::r/\lo<=a/\a<hi/\EnD lo hi es r
theorem EnD.mono{lo hi lo' hi':Nat}(h1:lo'<=lo)(h2:hi<=hi'): ∀{es:List Ent} {ds:List D},EnD lo hi es ds->EnD lo' hi' es ds
 |[],ds,h=>h
 |e::es,ds,⟨a,r,h,ha,hb,hr⟩=>⟨a,r,h,by lia,by lia,EnD.mono h1 h2 hr⟩
theorem EnD.snoc{lo hi a:Nat}{e:Ent}(ha:lo<=a)(hb:a<hi): ∀{es:List Ent} {ds:List D},EnD lo hi es ds->EnD lo hi (es++[e]) (ds++[.tup [.int e.1, .lst a (e.2.1.map .int), .tup (e.2.2.map .int)]])
 |[],ds,h=>by
  have h:ds=[]:=h
  subst h
  exact⟨a,[],rfl,ha,hb,rfl⟩
 |e'::es,ds,⟨a',r,h,h1,h2,hr⟩=>⟨a',r++[_],by rw[h];rfl,h1,h2,EnD.snoc ha hb hr⟩
theorem EnD.labs{lo hi:Nat}: ∀{es:List Ent} {ds:List D},EnD lo hi es ds->∀j∈labsL ds,lo<=j/\j<hi
 |[],ds,h,j,hj=>by
  have h:ds=[]:=h
  subst h;erw[labsL] at hj;cases hj
 |e::es,ds,⟨a,r,h,h1,h2,hr⟩,j,hj=>by
  subst h
  erw[labsL,Mi.labs,Z2,l0,A6,l4,t9,l7,t7,or_false] at hj
  rcases hj with rfl|hj
  .exact⟨h1,h2⟩
  .exact EnD.labs hr j hj
theorem EnD.len{lo hi:Nat}: ∀{es:List Ent} {ds:List D},EnD lo hi es ds->ds.length=es.length
 |[],ds,h=>by
  have h:ds=[]:=h
  subst h;rfl
 |e::es,ds,⟨a,r,h,h1,h2,hr⟩=>by rw[h,A3,A3,EnD.len hr]
noncomputable def Lo(n:Nat)(o:Option D):Prop:= ∀k,k<=n->∀d,o.map (rp (pl k d))=o
def Lo.li{n q:Nat}{ns:List Int}(h:n<q):Lo n (some (.lst q (ns.map .int))):=λk hk d=>by rw[l6,W9 (show q≠k by lia)]
def Lo.tI{n:Nat}{ns:List Int}:Lo n (some (.tup (ns.map .int))):=λk hk d=>by rw[l6,z3m]
def Lo.int{n:Nat}{i:Int}:Lo n (some (.int i)):=λ_ _ _=>rfl
def Lo.no{n:Nat}:Lo n none:=λ_ _ _=>rfl
def Lo.mono{n m:Nat}(h:Lo n o)(hm:m<=n):Lo m o:=λk hk d=>h k (by lia) d
noncomputable def stB:MS:=(Z3 (Y5 (.tp [(.nm 8),(.nm 9),(.nm 10)]) (Z1 z0S [(y0 0),(y0 1),(y0 6),(y0 4)]))
 (sIf (G7 (y2 (y0 9) (mCB [] lstM) eqD)) (J8 (J2 (y0 7) [(mCB [(y0 4),(y0 8),(y0 10)] Q1)] z2B)) sNx))
def zgX(rows:List Z5)(hw: ∀r∈rows,Wf r)(PK:List (List Int))(hP: ∀R,R∈PK↔G1 rows R=true)(l n7 m:Nat)(hl:l<n7)(h7:n7<m)(W:List Int)(hW:W.length<=100)(k:Int)(C F:D)(o3 o8 o9 o10:Option D)(tm:List (Option D))(hC: ∀d,rp (pl n7 d) C=C)(hF: ∀d,rp (pl n7 d) F=F)(h3: ∀d,o3.map (rp (pl n7 d))=o3)(ht: ∀d,rpO (pl n7 d) tm=tm)(es:List Ent)(ds:List D)(he:EnD (n7+1) m es ds)(hz:ds.length<=1000):
 ∃ds' p8 p9 p10 m',m<=m'/\Lo n7 p8/\Lo n7 p9/\Lo n7 p10/\EnD (n7+1) m' (es++(([k].filter (okK rows W)).map (ent rows W))) ds'/\stB ⟨[some (.lst l (rows.map rD)),some (FdP PK),some C,o3,some (.int k),some F,some (.tup (W.map .int)),some (.lst n7 ds),o8,o9,o10],tm,m⟩= .nx ⟨[some (.lst l (rows.map rD)),some (FdP PK),some C,o3,some (.int k),some F,some (.tup (W.map .int)),some (.lst n7 ds'),p8,p9,p10],tm,m'⟩:=by
 obtain⟨n',hn',e1⟩:=z9w rows W k l m (FdP PK) (zdY hP) (λd=>z5o) (λd=>z5o) hw hW (by lia)
 have hlen:=z1V hw 1000 (W++[k])
 rw[m5,F9] at hlen
 unfold stB
 left
 rw[e1]
 left
 rw[zdZ (by lia)]
 cases hk:(Y8 rows 1000 (W++[k])).2.1.isEmpty with
 |false=>
  have ef:[k].filter (okK rows W)=[]:=by simp[okK,hk]
  refine⟨ds,some (.lst m ((Y8 rows 1000 (W++[k])).1.map .int)),some (.lst (m+1) ((Y8 rows 1000 (W++[k])).2.1.map .int)),some (.tup ((Y8 rows 1000 (W++[k])).2.2.map .int)),n'+1,by lia,Lo.li (by lia),Lo.li (by lia),Lo.tI, ?_, ?_⟩
  .rw[ef,A2,l0]
   exact he.mono (i7 _) (by lia)
  .left
 |true=>
  have ef:[k].filter (okK rows W)=[k]:=by simp[okK,hk]
  left
  rw[Mi.y_app ⟨by rw[zl];lia,by
   erw[labs,labsL,Z2,l0,A6,t9]
   lia⟩]
  left
  erw[Z8 (show l≠n7 by lia),z5o,hC,hF,h3,ht,W7,W9 (show m≠n7 by lia),W9 (show m+1≠n7 by lia)]
  refine⟨_,_,_,_,n'+1,by lia,Lo.li (q:=m) (by lia),Lo.li (q:=m+1) (by lia),Lo.tI, ?_,rfl⟩
  rw[ef]
  exact EnD.snoc (e:=ent rows W k) (by lia) (by lia) (he.mono (i7 _) (by lia))
noncomputable def VL(rows:List Z5)(lo hi:Nat)(W:List Int)(v:D):Prop:= ∃q ds,v= .lst q ds/\lo<=q/\q<hi/\EnD lo hi (K9 rows W) ds
noncomputable def DV(rows:List Z5)(lo hi:Nat):List (List Int)->List D->Prop
 |[],vs=>vs=[]
 |W::FK,vs=> ∃v r,vs=v::r/\VL rows lo hi W v/\DV rows lo hi FK r
def VL.mono{lo hi hi':Nat}(h2:hi<=hi')(h:VL rows lo hi W v):VL rows lo hi' W v:=by
 obtain⟨q,ds,e,a,b,c⟩:=h
 exact⟨q,ds,e,a,by lia,c.mono (i7 _) h2⟩
def VL.labs{lo hi:Nat}(h:VL rows lo hi W v): ∀j∈labs v,lo<=j/\j<hi:=λj hj=>by
 obtain⟨q,ds,rfl,a,b,c⟩:=h
 erw[Mi.labs,l7] at hj
 rcases hj with rfl|hj
 .exact⟨a,b⟩
 .exact c.labs j hj
theorem DV.mono{lo hi hi':Nat}(h2:hi<=hi'): ∀{FK:List (List Int)} {vs:List D},DV rows lo hi FK vs->DV rows lo hi' FK vs
 |[],vs,h=>h
 |W::FK,vs,⟨v,r,e,h,hr⟩=>⟨v,r,e,h.mono h2,DV.mono h2 hr⟩
theorem DV.labs{lo hi:Nat}: ∀{FK:List (List Int)} {vs:List D},DV rows lo hi FK vs->∀j∈labsL vs,lo<=j/\j<hi
 |[],vs,h,j,hj=>by
  have h:vs=[]:=h
  subst h;erw[labsL] at hj;cases hj
 |W::FK,vs,⟨v,r,e,h,hr⟩,j,hj=>by
  subst e
  erw[labsL,l4] at hj
  exact hj.elim (h.labs j) (DV.labs hr j)
theorem DV.snoc{lo hi:Nat}(h:VL rows lo hi W v): ∀{FK:List (List Int)} {vs:List D},DV rows lo hi FK vs->DV rows lo hi (FK++[W]) (vs++[v])
 |[],vs,h'=>by
  have h':vs=[]:=h'
  subst h'
  exact⟨v,[],rfl,h,rfl⟩
 |W'::FK,vs,⟨v',r,e,h1,hr⟩=>⟨v',r++[v],by rw[e];rfl,h1,DV.snoc h hr⟩
theorem DV.zip{lo hi:Nat}(h:VL rows lo hi W v): ∀{FK:List (List Int)} {vs:List D},DV rows lo hi FK vs->DV rows lo hi FK (O3 (λd w=>if z1n d=some (nkI W) then v else w) (FK.map kd) vs)
 |[],vs,h'=>by
  have h':vs=[]:=h'
  subst h';rfl
 |W'::FK,vs,⟨v',r,e,h1,hr⟩=>by
  subst e
  refine⟨_,_,rfl, ?_,DV.zip h hr⟩
  show VL rows lo hi W' (if z1n (kd W')=some (nkI W) then v else v')
  split
  .rename_i q
   rw[V5.mp q];exact h
  .exact h1
theorem DV.find{lo hi:Nat}: ∀{FK:List (List Int)} {vs:List D},DV rows lo hi FK vs->W∈FK->∃v,findK (FK.map kd) vs (nkI W)=some v/\VL rows lo hi W v
 |[],vs,h,hm=>by cases hm
 |W'::FK,vs,⟨v',r,e,h1,hr⟩,hm=>by
  subst e
  erw[i6,findK]
  by_cases q:W'=W
  .subst q
   exact⟨v',by rw[if_pos (V5.mpr rfl)],h1⟩
  .obtain⟨v,f,g⟩:=DV.find hr ((l7.mp hm).resolve_left λz=>q z.symm)
   exact⟨v,by rw[if_neg (λz=>q (V5.mp z))];exact f,g⟩
theorem DV.has{lo hi:Nat}: ∀{FK:List (List Int)} {vs:List D},DV rows lo hi FK vs->(findK (FK.map kd) vs (nkI W)).isSome=decide (W∈FK)
 |[],vs,h=>by
  have h:vs=[]:=h
  subst h;rfl
 |W'::FK,vs,⟨v',r,e,h1,hr⟩=>by
  subst e
  erw[i6,findK]
  by_cases q:W'=W
  .subst q
   rw[if_pos (V5.mpr rfl)];simp
  .rw[if_neg (λz=>q (V5.mp z)),DV.has hr]
   have:W≠W':=λz=>q z.symm
   simp[this]
def zcf{lo hi j:Nat}{FK:List (List Int)}{s:Stt}(hz:FK.length<=10000)(hj:j∉labs v)(h:VL rows lo hi W v)(hv:DV rows lo hi FK vs):
 ∃vs',DV rows lo hi (z3E FK W) vs'/\z3k (.dct j (FK.map kd) vs) (.tup (W.map .int)) v s= .nx (s.put j (.dct j ((z3E FK W).map kd) vs')):=by
 have hT:isT (FK.map kd)=true:=by cases FK<;>rfl
 have e1:z2E (FK.map kd) (nkI W)=(z3E FK W).map kd:=by
  unfold z2E z3E
  rw[z5n]
  by_cases h:W∈FK
  .erw[h,decide_true,if_true]
  .erw[h,decide_false,A4,if_false,t8,zdN];rfl
 refine⟨z14 (FK.map kd) vs (nkI W) v, ?_, ?_⟩
 .unfold z14 z3E
  rw[z5n]
  by_cases q:W∈FK
  .erw[q,decide_true,if_true]
   exact hv.zip h
  .erw[q,decide_false,A4,if_false]
   exact hv.snoc h
 .unfold z3k
  erw[z0B]
  rw[if_pos ⟨hT,by rw[i9,zl];lia,hj⟩,e1]
def ze0(PK:List (List Int)):labsL (PK.map kd)=[]:=W5 λd hd=>by obtain⟨p,_,rfl⟩:=m8.mp hd;exact Z2 p
def z9H{lo hi j k:Nat}{FK:List (List Int)}(h:DV rows lo hi FK vs)(hj:j≠k)(hk:k<lo\/hi<=k):rp (pl k d) (.dct j (FK.map kd) vs)= .dct j (FK.map kd) vs:=G4 (by
 erw[labs,ze0,A6,l7,not_or]
 exact⟨λe=>hj e.symm,λq=>by have:=h.labs k q;lia⟩)
def z5p{j:Nat}:rp (pl j d) (.dct j ks vs)=d:=by erw[rp,pl,if_true]
noncomputable def stO:MS:=(Z3 (Y5 (.nm 7) (mCB [] lstM))
 (Z3 (z01 (Q8 (mCB [(y0 2)] zc1)) (.nm 4) stB)
 (z1f (y0 7) (y0 5) (y0 6) z3k)))
noncomputable def stS(l:Nat)(rows:List Z5)(PK:List (List Int))(j2:Nat)(ks:List Int)(o3 o4:Option D)(j5:Nat)(FK:List (List Int))(vs:List D)(o6 o7 o8 o9 o10:Option D):List (Option D):=[some (.lst l (rows.map rD)),some (FdP PK),some (kkD j2 ks),o3,o4,some (.dct j5 (FK.map kd) vs),o6,o7,o8,o9,o10]
def zj1{rows:List Z5}{ks:List Int}(hk: ∀k,k∈ks↔z0m rows k=true):(K26.filter λk=>decide (k∈ks))=K26.filter (z0m rows):=T7 λk _=>by
 rw[S1,decide_eq_true_iff];exact hk k
def zgY(rows:List Z5)(hw: ∀r∈rows,Wf r)(PK:List (List Int))(hP: ∀R,R∈PK↔G1 rows R=true)(ks:List Int)(hn:ks.Nodup)(hk: ∀k,k∈ks↔z0m rows k=true)(hk26: ∀k∈ks,0<=k/\k<26)(l j2 j5 n:Nat)(hl:l<n)(h2:j2<n)(h5:j5<n)(h52:j5≠j2)(hl5:l≠j5)(FK:List (List Int))(vs:List D)(hFz:FK.length<=1000)(hV:DV rows (j5+1) n FK vs)(W:List Int)(hW:W.length<=100)(o3 o4 o7 o8 o9 o10:Option D)(u3:UpO j5 o3)(w4:Lo j5 o4)(w8:Lo j5 o8)(w9:Lo j5 o9)(w10:Lo j5 o10)(tm:List (Option D))(ht: ∀k,j5<=k->∀d,rpO (pl k d) tm=tm):
 ∃vs' p4 p7 p8 p9 p10 n',n<=n'/\Lo j5 p4/\Lo j5 p8/\Lo j5 p9/\Lo j5 p10/\DV rows (j5+1) n' (z3E FK W) vs'/\stO ⟨stS l rows PK j2 ks o3 o4 j5 FK vs (some (.tup (W.map .int))) o7 o8 o9 o10,tm,n⟩= .nx ⟨stS l rows PK j2 ks o3 p4 j5 (z3E FK W) vs' (some (.tup (W.map .int))) p7 p8 p9 p10,tm,n'⟩:=by
 unfold stO stS
 left
 have hi:Q8 (mCB [(y0 2)] zc1) ⟨[some (.lst l (rows.map rD)),some (FdP PK),some (kkD j2 ks),o3,o4,some (.dct j5 (FK.map kd) vs),some (.tup (W.map .int)),some (.lst n []),o8,o9,o10],tm,n+1⟩= .ok kLst ⟨[some (.lst l (rows.map rD)),some (FdP PK),some (kkD j2 ks),o3,o4,some (.dct j5 (FK.map kd) vs),some (.tup (W.map .int)),some (.lst n []),o8,o9,o10],some (.lst (n+1) ((K26.filter (z0m rows)).map .int))::tm,n+1+1⟩:=z0G (by
  left
  rw[zgV hn hk26,zj1 hk])
 rw[hi,z4k]
 generalize hK:K26.filter (z0m rows)=K at*
 have hKz:K.length<=26:=by rw[<-hK];exact C1 (D5 _ _) (by simp[K26])
 obtain⟨s',e2,o4',p8,p9,p10,ds,m,hm,v4,v8,v9,v10,hE,rfl⟩:=U7 (P:=λi s=> ∃(o4 o8 o9 o10:Option D) (ds:List D) (m:Nat),n+1+1<=m/\Lo j5 o4/\Lo j5 o8/\Lo j5 o9/\Lo j5 o10/\EnD (n+1) m (((K.take i).filter (okK rows W)).map (ent rows W)) ds/\s=⟨[some (.lst l (rows.map rD)),some (FdP PK),some (kkD j2 ks),o3,o4,some (.dct j5 (FK.map kd) vs),some (.tup (W.map .int)),some (.lst n ds),o8,o9,o10],some (.lst (n+1) (K.map .int))::tm,m⟩) (l:=n+1) (ds:=K.map D.int) (g:= .nm 4) (tm:=tm) (b:=stB)
  (by rintro i s ⟨_,_,_,_,_,_,_,_,_,_,_,_,rfl⟩;rfl) (by
   rintro i d hd s ⟨o4,o8,o9,o10,ds,m,hm,_,_,_,_,hE,rfl⟩
   rw[List.getElem?_map] at hd
   cases hk':K[i]? with
   |none=>rw[hk'] at hd;cases hd
   |some k=>
    rw[hk'] at hd
    cases hd
    refine⟨_,rfl, ?_⟩
    have hi:i<K.length:=(List.getElem?_eq_some_iff.mp hk').1
    have hds:=hE.len
    rw[i9] at hds
    have:=D5 (okK rows W) (K.take i)
    rw[B6] at this
    obtain⟨ds',q8,q9,q10,m',hm',l8,l9,l10,hE',e⟩:=zgX rows hw PK hP l n m hl (by lia) W hW k (kkD j2 ks) (.dct j5 (FK.map kd) vs) o3 o8 o9 o10 (some (.lst (n+1) (K.map .int))::tm) (λd=>zdW (by lia)) (λd=>z9H hV (by lia) (.inr (i7 _))) (λd=>u3.fixk (by lia) d) (λd=>by rw[Z0,l6,W9 (show n+1≠n by lia),ht n (by lia)]) _ ds hE (by lia)
    refine⟨_,e,some (.int k),q8,q9,q10,ds',m',by lia,Lo.int,l8.mono (by lia),l9.mono (by lia),l10.mono (by lia), ?_,rfl⟩
    rw[C3,hk',B9,O8,t8]
    exact hE') K.length 0 ⟨[some (.lst l (rows.map rD)),some (FdP PK),some (kkD j2 ks),o3,o4,some (.dct j5 (FK.map kd) vs),some (.tup (W.map .int)),some (.lst n []),o8,o9,o10],some (.lst (n+1) (K.map .int))::tm,n+1+1⟩ (by simp) ⟨o4,o8,o9,o10,[],n+1+1,i7 _,w4,w8,w9,w10,rfl,rfl⟩
 dsimp only
 rw[show kLst.len (some (.lst (n+1) (K.map D.int))::tm)=K.length by show(K.map D.int).length=_;simp,e2]
 erw[px1]
 rw[i9,B0 (i7 _),<-hK] at hE
 have hE':EnD (n+1) m (K9 rows W) ds:=by rw[<-zdR hw (by lia)];exact hE
 have hvl:VL rows (j5+1) m W (.lst n ds):=⟨n,ds,rfl,by lia,by lia,hE'.mono (by lia) (i7 _)⟩
 obtain⟨vs',hv',ep⟩:=zcf (j:=j5) (s:=⟨[some (.lst l (rows.map rD)),some (FdP PK),some (kkD j2 ks),o3,o4',some (.dct j5 (FK.map kd) vs),some (.tup (W.map .int)),some (.lst n ds),p8,p9,p10],tm,m⟩) (by lia) (λq=>by have:=hvl.labs j5 q;lia) hvl (hV.mono (by lia))
 have f7: ∀d,rp (pl j5 d) (.lst n ds)= .lst n ds:=λd=>G4 λq=>by have:=hvl.labs j5 q;lia
 left
 rw[ep]
 refine⟨vs',o4',some (.lst n ds),p8,p9,p10,m,by lia,v4,v8,v9,v10,hv', ?_⟩
 erw[z0U,Z0,Z7,l6,Z8 hl5,z5o,zdW (show j2≠j5 by lia),u3.fix,v4 j5 (i7 _),v8 j5 (i7 _),v9 j5 (i7 _),v10 j5 (i7 _),z5p,z3m,f7,ht j5 (i7 _)]
theorem z6e{K:ItK}{g:Tg}{b:MS}{P:Nat->Stt->Prop}{item:Nat->D}{N:Nat}(hat: ∀i s,P i s->K.at' i s.tm=some (if i<N then some (item i) else none))
 (body: ∀i,i<N->∀s,P i s->∃σ',asg g (item i) s.σ=some σ'/\∃s',b {s with σ:=σ'}= .nx s'/\P (i+1) s'):
 ∀(f i:Nat) (s:Stt),i+f=N->P i s->∃s',forGo K g b f i s= .nx (s'.popn K.k)/\P N s'
 |0,i,s,hi,h=>by
  have e:i=N:=by lia
  subst e
  exact⟨s,zdK (by rw[hat i s h,if_neg (D8 _)]),h⟩
 |f+1,i,s,hi,h=>by
  obtain⟨σ',h1,s1,h2,h3⟩:=body i (by lia) s h
  obtain⟨s2,h4,h5⟩:=z6e hat body f (i+1) s1 (by lia) h3
  exact⟨s2,by rw[zb8 (by rw[hat i s h,if_pos (by lia)]) h1 h2,h4],h5⟩
def zj2{ds:List D}{i:Nat}:zaF.at' i (some (.tup ds)::tm)=some (if i<ds.length then some (ds.getD i .non) else none):=by
 show some (ds[i]?)=_
 by_cases h:i<ds.length
 .rw[if_pos h];simp[h]
 .rw[if_neg h];simp[P8 h]
def zj3{ks vs:List D}{i:Nat}:z4A.at' i (some (.fdc ks vs)::tm)=some (if i<ks.length then some (ks.getD i .non) else none):=by
 show some (ks[i]?)=_
 by_cases h:i<ks.length
 .rw[if_pos h];simp[h]
 .rw[if_neg h];simp[P8 h]
def zcg{n:Nat}(h:m s= .ok (.tup ds) ⟨σ,tm,n⟩):Q8 m s= .ok zaF ⟨σ,some (.tup ds)::tm,n⟩:=by
 unfold Q8 bd
 rw[h];rfl
noncomputable def kkB:MS:=z01 (Q8 (y2 (y0 3) (mC (.int 0)) ixD)) (.nm 4) (z1f (mC (.bool true)) (y0 2) (y0 4) z44)
def zgZ(rows:List Z5)(r:Z5)(hr: ∀k∈r.1,0<=k/\k<26)(l j j2 n:Nat)(hl:l≠j2)(hj:j≠j2)(PK:List (List Int))(ks:List Int)(hn:ks.Nodup)(hk: ∀k∈ks,0<=k/\k<26)(o4:Option D)(r4:List (Option D))(h4: ∀q,Lo q o4)(h5: ∀d,rpO (pl j2 d) r4=r4)(tm:List (Option D))(ht: ∀d,rpO (pl j2 d) tm=tm):
 ∃ks' p4,ks'.Nodup/\(∀k∈ks',0<=k/\k<26)/\(∀k,k∈ks'↔k∈ks\/k∈r.1)/\(∀q,Lo q p4)/\kkB ⟨some (.lst l (rows.map rD))::some (dD j PK)::some (kkD j2 ks)::some (rD r)::o4::r4,tm,n⟩= .nx ⟨some (.lst l (rows.map rD))::some (dD j PK)::some (kkD j2 ks')::some (rD r)::p4::r4,tm,n⟩:=by
 unfold kkB
 have hi:Q8 (y2 (y0 3) (mC (.int 0)) ixD) ⟨some (.lst l (rows.map rD))::some (dD j PK)::some (kkD j2 ks)::some (rD r)::o4::r4,tm,n⟩= .ok zaF ⟨some (.lst l (rows.map rD))::some (dD j PK)::some (kkD j2 ks)::some (rD r)::o4::r4,some (.tup (r.1.map .int))::tm,n⟩:=zcg (by
  left)
 rw[z7w,hi,z4k]
 obtain⟨s',e,ks',p4,g1,g2,g3,g4,rfl⟩:=z6e (K:=zaF) (g:= .nm 4) (b:=z1f (mC (.bool true)) (y0 2) (y0 4) z44) (item:=λi=>(r.1.map D.int).getD i .non) (N:=r.1.length) (P:=λi s=> ∃ks' p4,ks'.Nodup/\(∀k∈ks',0<=k/\k<26)/\(∀k,k∈ks'↔k∈ks\/k∈r.1.take i)/\(∀q,Lo q p4)/\s=⟨some (.lst l (rows.map rD))::some (dD j PK)::some (kkD j2 ks')::some (rD r)::p4::r4,some (.tup (r.1.map .int))::tm,n⟩)
  (by rintro i s ⟨_,_,_,_,_,_,rfl⟩;rw[zj2,i9]) (by
   rintro i hi s ⟨ks',p4,g1,g2,g3,g4,rfl⟩
   have ei:(r.1.map D.int).getD i .non= .int r.1[i]:=by simp[hi]
   rw[ei]
   refine⟨_,rfl, ?_⟩
   refine⟨_, ?_,za6 ks' r.1[i],some (.int r.1[i]),zdX g1,λk hk'=> ?_,λk=> ?_,λ_=>Lo.int,rfl⟩
   .left
    rw[zgT (by have:=zgW g1 g2;lia)]
    erw[z0U,Z0,Z7,l6,Z8 hl,zgL hj,zgU,zdO,Q7,z3m,h5,ht]
   .rcases z6T.mp hk' with h|h
    .exact g2 k h
    .rw[h];exact hr _ (B3 hi)
   .rw[z6T,g3,C3,List.getElem?_eq_getElem hi,B9,l4,t9,or_assoc]) r.1.length 0 ⟨some (.lst l (rows.map rD))::some (dD j PK)::some (kkD j2 ks)::some (rD r)::o4::r4,some (.tup (r.1.map .int))::tm,n⟩ (by lia) ⟨ks,o4,hn,hk,λk=>by simp,h4,rfl⟩
 dsimp only
 rw[show zaF.len (some (.tup (r.1.map D.int))::tm)=r.1.length by show(r.1.map D.int).length=_;simp,e]
 refine⟨ks',p4,g1,g2,λk=> ?_,g4,rfl⟩
 rw[g3,B0 (i7 _)]
def ze1{rows:List Z5}{i:Nat}{r:Z5}(h:rows[i]? =some r)(k:Int):z0m (rows.take (i+1)) k=true↔z0m (rows.take i) k=true\/k∈r.1:=by
 unfold z0m
 rw[C3,h,B9,List.any_append,S5]
 simp
def zbk{PK:List (List Int)}{i:Nat}(h:i<PK.length)(hm: ∀W,W∈FK↔W∈PK.take i)(W:List Int):W∈z3E FK PK[i]↔W∈PK.take (i+1):=by
 rw[z4o,hm,C3,List.getElem?_eq_getElem h,B9,l4,t9]
def zj4{j k:Nat}(h:j≠k):rp (pl k d) (.dct j [] [])= .dct j [] []:=G4 (by erw[labs,labsL,l0,t9];lia)
def zbl(rows:List Z5)(hw: ∀r∈rows,Wf r)(PK:List (List Int))(hP: ∀R,R∈PK↔G1 rows R=true)(hPz:PK.length<=900)(l j n:Nat)(hl:l<n)(hj:j<n)(hlj:l≠j):
 ∃(FK:List (List Int)) (vs:List D) (j5 n':Nat),n<=j5/\j5<n'/\DV rows (j5+1) n' FK vs/\(∀W,W∈FK↔G1 rows W=true)/\FK.length<=900/\z0T [.lst l (rows.map rD),dD j PK] n= .ok (.dct j5 (FK.map kd) vs) [.lst l (rows.map rD),FdP PK] n':=by
 unfold z0T
 have e0:z30=(Z3 (Y5 (.nm 2) z8Z)
  (Z3 (z01 (Q8 (y0 0)) (.nm 3) kkB)
  (Z3 (Y5 (.nm 5) z2F)
  (Z3 (z01 (K0 (y0 1)) (.nm 6) stO)
  (z0e (y0 5)))))):=rfl
 rw[e0]
 left
 have eK: ∀σ tm,z8Z ⟨σ,tm,n⟩= .ok (kkD n []) ⟨σ,tm,n+1⟩:=λ_ _=>rfl
 rw[eK]
 left
 rw[z0G (l:=l) (ds:=rows.map rD) (σ:=[some (.lst l (rows.map rD)),some (dD j PK),some (kkD n []),none,none,none,none,none,none,none,none]) (tm:=[some (.lst l (rows.map rD)),some (dD j PK)]) (n:=n+1) (by left),z4k]
 obtain⟨s',e,ks,o3,o4,g1,g2,g3,g4,g5,rfl⟩:=U7 (P:=λi s=> ∃(ks:List Int) (o3 o4:Option D),ks.Nodup/\(∀k∈ks,0<=k/\k<26)/\(∀k,k∈ks↔z0m (rows.take i) k=true)/\(o3=none\/∃r,o3=some (rD r))/\(∀q,Lo q o4)/\s=⟨[some (.lst l (rows.map rD)),some (dD j PK),some (kkD n ks),o3,o4,none,none,none,none,none,none],some (.lst l (rows.map rD))::[some (.lst l (rows.map rD)),some (dD j PK)],n+1⟩) (l:=l) (ds:=rows.map rD) (g:= .nm 3) (tm:=[some (.lst l (rows.map rD)),some (dD j PK)]) (b:=kkB)
  (by rintro i s ⟨_,_,_,_,_,_,_,_,rfl⟩;rfl) (by
   rintro i d hd s ⟨ks,o3,o4,g1,g2,g3,_,g5,rfl⟩
   rw[List.getElem?_map] at hd
   cases hr':rows[i]? with
   |none=>rw[hr'] at hd;cases hd
   |some r=>
    rw[hr'] at hd
    cases hd
    refine⟨_,rfl, ?_⟩
    obtain⟨ks',p4,q1,q2,q3,q4,e⟩:=zgZ rows r (hw r (List.mem_of_getElem? hr')).2.2.2.2 l j n (n+1) (by lia) (by lia) PK ks g1 g2 o4 [none,none,none,none,none,none] g5 (λ_=>rfl) (some (.lst l (rows.map rD))::[some (.lst l (rows.map rD)),some (dD j PK)]) (λd=>by erw[Z0,Z7,l6,Z8 (show l≠n by lia),zgL (show j≠n by lia)])
    exact⟨_,e,ks',some (rD r),p4,q1,q2,λk=>by rw[q3,g3,ze1 hr'], .inr ⟨r,rfl⟩,q4,rfl⟩) rows.length 0 ⟨[some (.lst l (rows.map rD)),some (dD j PK),some (kkD n []),none,none,none,none,none,none,none,none],some (.lst l (rows.map rD))::[some (.lst l (rows.map rD)),some (dD j PK)],n+1⟩ (by simp) ⟨[],none,none, .nil,(λ_ h=>nomatch h),λk=>by simp[z0m], .inl rfl,λ_=>Lo.no,rfl⟩
 dsimp only
 rw[show kLst.len (some (.lst l (rows.map rD))::[some (.lst l (rows.map rD)),some (dD j PK)])=rows.length by show(rows.map rD).length=_;simp,e]
 erw[px1]
 rw[i9,B0 (i7 _)] at g3
 left
 have eD: ∀σ tm,z2F ⟨σ,tm,n+1⟩= .ok (.dct (n+1) [] []) ⟨σ,tm,n+1+1⟩:=λ_ _=>rfl
 rw[eD]
 left
 have f3: ∀k d,o3.map (rp (pl k d))=o3:=λk d=>by
  rcases g4 with rfl|⟨r,rfl⟩
  .rfl
  .rw[l6,zdO]
 have hT:isT (PK.map kd)=true:=by cases PK<;>rfl
 have hi:K0 (y0 1) ⟨[some (.lst l (rows.map rD)),some (dD j PK),some (kkD n ks),o3,o4,some (.dct (n+1) [] []),none,none,none,none,none],[some (.lst l (rows.map rD)),some (dD j PK)],n+1+1⟩= .ok z4A ⟨stS l rows PK n ks o3 o4 (n+1) [] [] none none none none none,some (FdP PK)::[some (.lst l (rows.map rD)),some (FdP PK)],n+1+1⟩:=by
  unfold K0 stS
  left
  show(if isT (PK.map kd)=true/\labsL (PK.map λ_=>D.bool true)=[] then _ else _)=_
  rw[if_pos ⟨hT,z4v PK⟩]
  erw[z0U,Z0,Z7,l6,E1,Z8 hlj,zcb,zdW (show n≠j by lia),f3,g5 j j (i7 _),zj4 (show n+1≠j by lia)]
  rfl
 rw[hi,z4k]
 obtain⟨s',e2,FK,vs,p4,o6,p7,p8,p9,p10,m,hm,w4,w8,w9,w10,hV,hFz,hF,rfl⟩:=z6e (K:=z4A) (g:= .nm 6) (b:=stO) (item:=λi=>(PK.map kd).getD i .non) (N:=PK.length) (P:=λi s=> ∃(FK:List (List Int)) (vs:List D) (p4 o6 p7 p8 p9 p10:Option D) (m:Nat),n+1+1<=m/\Lo (n+1) p4/\Lo (n+1) p8/\Lo (n+1) p9/\Lo (n+1) p10/\DV rows (n+1+1) m FK vs/\FK.length<=i/\(∀W,W∈FK↔W∈PK.take i)/\s=⟨stS l rows PK n ks o3 p4 (n+1) FK vs o6 p7 p8 p9 p10,some (FdP PK)::[some (.lst l (rows.map rD)),some (FdP PK)],m⟩)
  (by rintro i s ⟨_,_,_,_,_,_,_,_,_,_,_,_,_,_,_,_,_,rfl⟩;unfold FdP;rw[zj3,i9]) (by
   rintro i hi s ⟨FK,vs,p4,o6,p7,p8,p9,p10,m,hm,w4,w8,w9,w10,hV,hFz,hF,rfl⟩
   have ei:(PK.map kd).getD i .non= .tup (PK[i].map .int):=by simp[hi,kd]
   rw[ei]
   refine⟨_,rfl, ?_⟩
   have hst:=(hP PK[i]).mp (B3 hi)
   obtain⟨vs',q4,q7,q8,q9,q10,m',hm',x4,x8,x9,x10,hV',e⟩:=zgY rows hw PK hP ks g1 g3 g2 l n (n+1) m (by lia) (by lia) (by lia) (by lia) (by lia) FK vs (by lia) hV PK[i] (by have:=z1B hw hst;lia) o3 p4 p7 p8 p9 p10 (λd hd k hk=>by
    rcases g4 with rfl|⟨r,rfl⟩
    .cases hd
    .cases hd;rw[z69] at hk;cases hk) w4 w8 w9 w10 (some (FdP PK)::[some (.lst l (rows.map rD)),some (FdP PK)]) (λk hk d=>by erw[Z0,Z7,l6,z5o,Z8 (show l≠k by lia)])
   exact⟨_,e,z3E FK PK[i],vs',q4,some (.tup (PK[i].map .int)),q7,q8,q9,q10,m',by lia,x4,x8,x9,x10,hV',C1 z4p (by lia),zbk hi hF,rfl⟩) PK.length 0 ⟨stS l rows PK n ks o3 o4 (n+1) [] [] none none none none none,some (FdP PK)::[some (.lst l (rows.map rD)),some (FdP PK)],n+1+1⟩ (by lia) ⟨[],[],o4,none,none,none,none,none,n+1+1,i7 _,g5 _,Lo.no,Lo.no,Lo.no,rfl,i7 _,λW=>by simp,rfl⟩
 dsimp only
 rw[show z4A.len (some (FdP PK)::[some (.lst l (rows.map rD)),some (FdP PK)])=PK.length by show(PK.map kd).length=_;simp,e2]
 show ∃FK' vs' j5 n',_
 rw[show z4A.k=1 from rfl,px1]
 unfold stS
 left
 refine⟨FK,vs,n+1,m,by lia,by lia,hV,λW=> ?_,by lia,rfl⟩
 rw[hF,B0 (i7 _)]
 exact hP W
noncomputable def prB:MS:=(Z3 (Y5 (.tp [(.nm 4),(.nm 5),(.nm 6)]) (Z1 z0R [(y0 0),(y0 1),(y0 3)]))
 (sIf (z7i (z0J (y0 5))) (J8 (J2 (y0 2) [(mCB [(y0 3),(y0 4),(y0 6)] Q1)] z2B)) sNx))
def zh0{i:Nat}(h:i<26):K26[i]? =some (i:Int):=by simp[K26,h]
def zh1(rows:List Z5)(hw: ∀r∈rows,Wf r)(hr:rows.length<1000)(l n2 m:Nat)(hl:l<n2)(h2:n2<m)(W:List Int)(hW:W.length<=100)(k:Int)(o4 o5 o6:Option D)(es:List Ent)(ds:List D)(he:EnD (n2+1) m es ds)(hz:ds.length<=1000):
 ∃ds' p4 p5 p6 m',m<=m'/\EnD (n2+1) m' (es++(([k].filter (okK rows W)).map (ent rows W))) ds'/\prB ⟨[some (.lst l (rows.map rD)),some (.tup (W.map .int)),some (.lst n2 ds),some (.int k),o4,o5,o6],[some (.lst l (rows.map rD)),some (.tup (W.map .int))],m⟩= .nx ⟨[some (.lst l (rows.map rD)),some (.tup (W.map .int)),some (.lst n2 ds'),some (.int k),p4,p5,p6],[some (.lst l (rows.map rD)),some (.tup (W.map .int))],m'⟩:=by
 obtain⟨n',hn',e1⟩:=z9v rows W k l m hw hr hW (by lia)
 unfold prB
 left
 rw[e1]
 left
 cases hk:(Y8 rows 1000 (W++[k])).2.1 with
 |cons x L=>
  have ef:[k].filter (okK rows W)=[]:=by simp[okK,hk]
  refine⟨ds,some (.lst m ((Y8 rows 1000 (W++[k])).1.map .int)),some (.lst (m+1) ((x::L).map .int)),some (.tup ((Y8 rows 1000 (W++[k])).2.2.map .int)),n',by lia, ?_, ?_⟩
  .rw[ef,A2,l0]
   exact he.mono (i7 _) (by lia)
  .erw[i6,List.isEmpty_cons]
   left
 |nil=>
  have ef:[k].filter (okK rows W)=[k]:=by simp[okK,hk]
  erw[A2,u03]
  left
  rw[Mi.y_app ⟨by rw[zl];lia,by
   erw[labs,labsL,Z2,l0,A6,t9]
   lia⟩]
  left
  erw[Z8 (show l≠n2 by lia),W7,z3m,W9 (show m≠n2 by lia),z09 (show m+1≠n2 by lia),J9]
  refine⟨_,_,_,_,n',by lia, ?_,rfl⟩
  rw[ef]
  exact EnD.snoc (e:=ent rows W k) (by lia) (by lia) (he.mono (i7 _) (by lia))
def zh2(rows:List Z5)(hw: ∀r∈rows,Wf r)(hr:rows.length<1000)(l n:Nat)(hl:l<n)(W:List Int)(hW:W.length<=100):
 ∃ds n',n<n'/\EnD (n+1) n' (K9 rows W) ds/\Y3 [.lst l (rows.map rD), .tup (W.map .int)] n= .ok (.lst n ds) [.lst l (rows.map rD), .tup (W.map .int)] n':=by
 unfold Y3
 have e0:j6=(Z3 (Y5 (.nm 2) (mCB [] lstM))
  (Z3 (z01 (v7 [(y2 (mC (.int 25)) (mC (.int 1)) v6)]) (.nm 3) prB)
  (z0e (y0 2)))):=rfl
 rw[e0]
 left
 rw[z1y ⟨by decide,by decide⟩]
 left
 obtain⟨s',e,ds,o3,o4,o5,o6,m,hm,hE,rfl⟩:=z0y (P:=λi s=> ∃(ds:List D) (o3 o4 o5 o6:Option D) (m:Nat),n+1<=m/\EnD (n+1) m (((K26.take i).filter (okK rows W)).map (ent rows W)) ds/\s=⟨[some (.lst l (rows.map rD)),some (.tup (W.map .int)),some (.lst n ds),o3,o4,o5,o6],[some (.lst l (rows.map rD)),some (.tup (W.map .int))],m⟩) (lo:=0) (N:=((25:Int)+1).toNat) (g:= .nm 3) (b:=prB) (by
  rintro i hi s ⟨ds,o3,o4,o5,o6,m,hm,hE,rfl⟩
  have hi:i<26:=hi
  refine⟨_,rfl, ?_⟩
  have hds:=hE.len
  rw[i9] at hds
  have:=D5 (okK rows W) (K26.take i)
  rw[B6] at this
  obtain⟨ds',p4,p5,p6,m',hm',hE',e⟩:=zh1 rows hw hr l n m hl (by lia) W hW i o4 o5 o6 _ ds hE (by lia)
  rw[R9]
  refine⟨_,e,ds',some (.int i),p4,p5,p6,m',by lia, ?_,rfl⟩
  rw[C3,zh0 hi,B9,O8,t8]
  exact hE') ((25:Int)+1).toNat 0 ⟨[some (.lst l (rows.map rD)),some (.tup (W.map .int)),some (.lst n []),none,none,none,none],[some (.lst l (rows.map rD)),some (.tup (W.map .int))],n+1⟩ (by lia) ⟨[],none,none,none,none,n+1,i7 _,rfl,rfl⟩
 rw[e]
 left
 refine⟨ds,m,by lia, ?_,rfl⟩
 rw[B0 (by simp[K26])] at hE
 exact hE
noncomputable def gD(g:Sg):D:= .tup [.int g.1, .tup (g.2.map .int)]
noncomputable def nkG(g:Sg):NK:=[.inl (.inl (g.1:Int)), .inr (g.2.map Sum.inl)]
theorem z37: ∀ns:List Int,z0L (ns.map D.int)=some (ns.map Sum.inl)
 |[]=>rfl
 |n::ns=>by
  have ih:=z37 ns
  erw[i6,z0L,z02,ih]
def z0C(g:Sg):z1n (gD g)=some (nkG g):=by
 unfold gD nkG
 erw[z1n,z2C,zbV,z02,z37]
def z6f(h:nkG a=nkG b):a=b:=by
 obtain⟨p,W⟩:=a
 obtain⟨q,V⟩:=b
 unfold nkG at h
 erw[List.cons.injEq,Sum.inl.injEq,Sum.inr.injEq,and_true] at h
 obtain⟨h1,h2⟩:=h
 have e1:p=q:=by lia
 have e2:W=V:=by
  have: ∀(A B:List Int),(A.map Sum.inl:List Key)=B.map Sum.inl->A=B:=by
   intro A
   induction A with
   |nil=>intro B h;cases B with|nil=>rfl|cons _ _=>simp at h
   |cons x A ih=>
    intro B h
    cases B with
    |nil=>simp at h
    |cons y B=>
     erw[i6,List.cons.injEq,Sum.inl.injEq] at h
     rw[h.1,ih B h.2]
  exact this W V h2
 rw[e1,e2]
def zj5(g:Sg):dkD (nkG g)=gD g:=by
 unfold dkD nkG gD
 erw[i6,A2,nkD,z17,D4]
 rfl
def z1m(g:Sg):labs (gD g)=[]:=by
 unfold gD
 erw[labs,labsL,Z2,l0]
noncomputable def ksF(F:Fd):List D:=F.map λq=>gD q.1
noncomputable def GV(R:Sg×Nat->D->Prop):Fd->List D->Prop
 |[],vs=>vs=[]
 |q::F,vs=> ∃v r,vs=v::r/\R q v/\labs v=[]/\GV R F r
theorem GV.labs{R:Sg×Nat->D->Prop}: ∀{F:Fd} {vs:List D},GV R F vs->labsL vs=[]
 |[],vs,h=>by
  have h:vs=[]:=h
  subst h;rfl
 |q::F,vs,⟨v,r,e,_,hl,hr⟩=>by subst e;erw[labsL,hl,GV.labs hr];rfl
def z6U(F:Fd):labsL (ksF F)=[]:=W5 λd hd=>by obtain⟨q,_,rfl⟩:=m8.mp hd;exact z1m _
theorem GV.snoc{R:Sg×Nat->D->Prop}(h:R q v)(hl:Mi.labs v=[]): ∀{F:Fd} {vs:List D},GV R F vs->GV R (F++[q]) (vs++[v])
 |[],vs,h'=>by
  have h':vs=[]:=h'
  subst h'
  exact⟨v,[],rfl,h,hl,rfl⟩
 |q'::F,vs,⟨v',r,e,h1,h2,hr⟩=>⟨v',r++[v],by rw[e];rfl,h1,h2,GV.snoc h hl hr⟩
theorem GV.has{R:Sg×Nat->D->Prop}: ∀{F:Fd} {vs:List D},GV R F vs->(findK (ksF F) vs (nkG g)).isSome=decide (g∈F.map (·.1))
 |[],vs,h=>by
  have h:vs=[]:=h
  subst h;rfl
 |q::F,vs,⟨v,r,e,h1,h2,hr⟩=>by
  subst e
  have ih:=GV.has (g:=g) hr
  erw[ksF,i6,findK,z0C,Option.some.injEq] at ih⊢
  by_cases e:q.1=g
  .subst e;simp
  .rw[if_neg (λz=>e (z6f z)),ih]
   have:g≠q.1:=λz=>e z.symm
   simp[this]
theorem GV.find{R:Sg×Nat->D->Prop}{q:Sg×Nat}: ∀{F:Fd} {vs:List D},GV R F vs->(F.map (·.1)).Nodup->q∈F->∃v,findK (ksF F) vs (nkG q.1)=some v/\R q v/\Mi.labs v=[]
 |[],vs,h,_,hm=>by cases hm
 |q'::F,vs,⟨v,r,e,h1,h2,hr⟩,hn,hm=>by
  subst e
  rw[i6,D9] at hn
  rcases l7.mp hm with rfl|hm
  .exact⟨v,by erw[ksF,i6,findK,z0C,if_true],h1,h2⟩
  .obtain⟨w,f,g⟩:=GV.find hr hn.2 hm
   have ne:q'.1≠q.1:=λz=>hn.1 (z▸m8.mpr ⟨q,hm,rfl⟩)
   refine⟨w, ?_,g⟩
   erw[ksF,i6,findK,z0C,Option.some.injEq] at f⊢
   rw[if_neg (λz=>ne (z6f z))];exact f
def z7G(F:Fd):isT (ksF F)=true:=by cases F<;>rfl
def z9I{R:Sg×Nat->D->Prop}{F:Fd}{j:Nat}(h:GV R F vs):z0o (gD g) (.dct j (ksF F) vs) s= .ok (.bool (!decide (g∈F.map (·.1)))) s:=by
 unfold z0o
 erw[rdD,if_pos (z7G F),z0C,h.has]
 rfl
def zch{R:Sg×Nat->D->Prop}{F:Fd}{j:Nat}{q:Sg×Nat}(h:GV R F vs)(hn:(F.map (·.1)).Nodup)(hq:q∈F): ∃v,R q v/\Mi.labs v=[]/\∀s:Stt,z15 (.dct j (ksF F) vs) (gD q.1) s= .ok v s:=by
 obtain⟨v,f,r,l⟩:=h.find hn hq
 refine⟨v,r,l,λs=> ?_⟩
 unfold z15
 erw[rdD,if_pos (z7G F),z0C,f]
 rfl
def zci{R:Sg×Nat->D->Prop}{F:Fd}{j c:Nat}{s:Stt}(h:GV R F vs)(hz:F.length<=100000)(hg:g∉F.map (·.1))(hv:R (g,c) v)(hl:Mi.labs v=[]):
 GV R (F++[(g,c)]) (vs++[v])/\z03 (.dct j (ksF F) vs) (gD g) v s= .nx (s.put j (.dct j (ksF (F++[(g,c)])) (vs++[v]))):=by
 refine⟨h.snoc hv hl, ?_⟩
 have ha:((ksF F).any λd=>decide (z1n d=some (nkG g)))=false:=by
  rw[P1]
  intro d hd
  obtain⟨q,hq,rfl⟩:=m8.mp hd
  rw[z0C]
  erw[Option.some.injEq,decide_eq_true_eq]
  exact λz=>hg (z6f z▸m8.mpr ⟨q,hq,rfl⟩)
 unfold z03
 erw[z0C]
 rw[if_pos ⟨z7G F,by unfold ksF;rw[i9,zl];lia,hl,h.labs⟩]
 unfold z2E z14
 rw[ha]
 erw[A4,if_false,zj5,ksF,t8,i6,A2]
def ze2{R:Sg×Nat->D->Prop}{j k:Nat}(h:GV R F vs)(hj:j≠k):rp (pl k d) (.dct j (ksF F) vs)= .dct j (ksF F) vs:=G4 (by
 erw[Mi.labs,z6U,h.labs,l0,t9];lia)
def z9J{ws:List D}{a k:Nat}:z4W ws (some (a:Int)) (some ((a:Int)+(k:Int)))=(ws.drop a).take k:=by
 unfold z4W
 rw[show(a:Int)+(k:Int)=((a+k:Nat):Int) by lia,HT.sIx_nat,HT.sIx_nat]
 rcases S0 a ws.length with h|h
 .rw[N8 h]
  rcases S0 (a+k) ws.length with h2|h2
  .rw[N8 h2,show a+k -a=k by lia]
  .rw[N0 h2,B0 (by rw[C7];lia),B0 (by rw[C7];lia)]
 .rw[N0 h,D1 (i7 _),D1 h,T0,T0]
def zcj{a b:Nat}{A B:List Int}(hA:A.length<=2000)(hB:B.length<=2000):eqD (.lst a (A.map D.int)) (.lst b (B.map D.int)) s= .ok (.bool (decide (A=B))) s:=by
 have g: ∀(q:Nat) (L:List Int),L.length<=2000->Gd (.lst q (L.map D.int))/\(er (.lst q (L.map D.int))).depth<=1:=λq L h=>by
  have r:=z5i (n:=0) (k:=0) (l:=q) (es:=L.map D.int) (C0 _) (by simpa using h) λe he=>by
   obtain⟨i,_,rfl⟩:=m8.mp he;exact⟨rfl,by simp[er,PyData.depth]⟩
  exact⟨z9n _ r.1,r.2⟩
 have gA:=g a A hA
 have gB:=g b B hB
 rw[zhv (by
  erw[eqC,gA.1.1,gA.1.2,gB.1.1,gB.1.2,P4,F3,decide_eq_true_eq]
  have:=S3 (er (.lst a (A.map D.int))).depth (er (.lst b (B.map D.int))).depth
  have:=gA.2
  lia)]
 congr 2
 have:=L2.z8t A B
 erw[er,z4n]
 erw[L2.dT,PyData.eqv] at this⊢
 exact this
noncomputable def RP(q:Sg×Nat)(v:D):Prop:= ∃x y,v= .tup [.int q.2,x,y]
noncomputable def X4(sn:List Int)(p c:Nat)(F:Fd)(e:Ent):Fd:=if fits sn p e=true then addF F c (p+e.2.1.length,e.2.2) else F
theorem z5q(sn:List Int)(p c:Nat): ∀(es:List Ent) (F:Fd),putF F c (((es.filter (fits sn p)).map λe=>(e.1,((p+e.2.1.length,e.2.2):Sg))).map (·.2))=es.foldl (X4 sn p c) F
 |[],F=>rfl
 |e::es,F=>by
  rw[E8,<-z5q sn p c es]
  unfold X4
  cases h:fits sn p e with
  |true=>erw[R1,h,if_true,i6];rfl
  |false=>erw[R1,h,A4,if_false]
noncomputable def goB:MS:=(Z3 (Y5 (.nm 13) (mCB [(y2 (y0 8) (mCB [(y0 11)] U3) v6),(y0 12)] Q1))
 (sIf (z8F (G7 (y2 (y0 13) (y0 3) z0o)) (G7 (y2 (mSl (y0 1) (some (y0 8)) (some (y2 (y0 8) (mCB [(y0 11)] U3) v6))) (y0 11) eqD))) (Z3 (z1f (mCB [(y2 (y2 (y2 (y0 3) (y0 7) z15) (mC (.int 0)) ixD) (mC (.int 1)) v6),(y0 7),(y0 10)] Q1) (y0 3) (y0 13) z03)
 (J8 (J2 (y0 4) [(y0 13)] z2B))) sNx))
noncomputable def foD(F:Fd):List D:=F.map λq=>gD q.1
def zbm(F:Fd):labsL (foD F)=[]:=z6U F
def zbn{k:Nat}:rp (pl k d) (gD g)=gD g:=G4 (by rw[z1m];exact t7)
def z6g{j k:Nat}(h:j≠k):rp (pl k d) (.lst j (foD F))= .lst j (foD F):=by rw[z09 h,rpL_id _ λi hi=>by rw[zbm] at hi;cases hi]
noncomputable def wsS(l:Nat)(rows:List Z5)(ls:Nat)(sn:List Int)(jw:Nat)(F:Fd)(vs:List D)(jf:Nat)(C5:D)(i:Int)(g:Sg)(o10 o11 o12 o13:Option D):List (Option D):=[some (.lst l (rows.map rD)),some (.lst ls (sn.map .int)),some (gD (0,[])),some (.dct jw (ksF F) vs),some (.lst jf (foD F)),some C5,some (.int i),some (gD g),some (.int g.1),some (.tup (g.2.map .int)),o10,o11,o12,o13]
def zbo{c:Nat}(h:q∈F):q∈addF F c g:=by
 unfold addF
 split
 .exact h
 .exact i8 _ h
def z9K{p c:Nat}(h:q∈F):q∈X4 sn p c F e:=by
 unfold X4
 split
 .exact zbo h
 .exact h
def zbp{p c:Nat}{F:Fd}(h:(F.map (·.1)).Nodup):((X4 sn p c F e).map (·.1)).Nodup:=by
 unfold X4
 split
 .exact z9F h
 .exact h
def z9L{p c:Nat}{F:Fd}:(X4 sn p c F e).length<=F.length+1:=by
 unfold X4 addF
 split
 .split<;>simp
 .lia
def z9M{sn:List Int}{p:Nat}{e:Ent}:decide ((sn.drop p).take e.2.1.length=e.2.1)=fits sn p e:=rfl
def zh3(rows:List Z5)(sn:List Int)(hsn:sn.length<=2000)(l ls jw jf n a:Nat)(C5:D)(i:Int)(g:Sg)(c:Nat)(F:Fd)(vs:List D)(hV:GV RP F vs)(hn:(F.map (·.1)).Nodup)(hg:(g,c)∈F)(hz:F.length<=90000)(e:Ent)(he:e.2.1.length<=2000)(o13:Option D)(hwf:jw≠jf)(hlw:l≠jw)(hlf:l≠jf)(hsw:ls≠jw)(hsf:ls≠jf)(haw:a≠jw)(haf:a≠jf)(h5w: ∀d,rp (pl jw d) C5=C5)(h5f: ∀d,rp (pl jf d) C5=C5)(h13w: ∀d,o13.map (rp (pl jw d))=o13)(tm:List (Option D))(htw: ∀d,rpO (pl jw d) tm=tm)(htf: ∀d,rpO (pl jf d) tm=tm):
 ∃vs' p13 n',n<=n'/\(∀k d,p13.map (rp (pl k d))=p13)/\GV RP (X4 sn g.1 c F e) vs'/\goB ⟨wsS l rows ls sn jw F vs jf C5 i g (some (.int e.1)) (some (.lst a (e.2.1.map .int))) (some (.tup (e.2.2.map .int))) o13,tm,n⟩= .nx ⟨wsS l rows ls sn jw (X4 sn g.1 c F e) vs' jf C5 i g (some (.int e.1)) (some (.lst a (e.2.1.map .int))) (some (.tup (e.2.2.map .int))) p13,tm,n'⟩:=by
 have eg:D.tup [.int ((g.1:Int)+((e.2.1.map D.int).length:Int)), .tup (e.2.2.map .int)]=gD (g.1+e.2.1.length,e.2.2):=by
  unfold gD
  rw[i9]
  erw[u06]
 have fgD: ∀(k:Nat) (d:D) (h:Sg),rp (pl k d) (gD h)=gD h:=λk d h=>zbn
 unfold goB wsS
 left
 rw[eg,z9I hV]
 by_cases hin:((g.1+e.2.1.length,e.2.2):Sg)∈F.map (·.1)
 .have es:X4 sn g.1 c F e=F:=by
   unfold X4 addF
   rw[if_pos hin];split<;>rfl
  rw[es]
  erw[hin,decide_true,E5]
  left
  exact⟨vs,some (gD (g.1+e.2.1.length,e.2.2)),n,i7 _,λk d=>by rw[l6,fgD],hV,rfl⟩
 .erw[hin,decide_false,F4]
  left
  rw[z4B,z9J,z9u,z68,zcj (by rw[B6,C7];lia) he,z9M]
  cases hf:fits sn g.1 e with
  |false=>
   have es:X4 sn g.1 c F e=F:=by unfold X4;rw[if_neg (by rw[hf];decide)]
   rw[es]
   left
   exact⟨vs,some (gD (g.1+e.2.1.length,e.2.2)),n+1,by lia,λk d=>by rw[l6,fgD],hV,rfl⟩
  |true=>
   have es:X4 sn g.1 c F e=F++[((g.1+e.2.1.length,e.2.2),c+1)]:=by
    unfold X4 addF
    rw[if_pos hf,if_neg hin]
   rw[es]
   obtain⟨v,⟨x,y,rfl⟩,hvl,ev⟩:=zch (j:=jw) hV hn hg
   left
   rw[ev]
   left
   have ep:=λs:Stt=>zci (j:=jw) (s:=s) (c:=c+1) (v:= .tup [.int ((c:Int)+1),gD g, .int e.1]) hV (by lia) hin ⟨gD g, .int e.1,by simp⟩ (by erw[Mi.labs,labsL,z1m,l0])
   rw[(ep _).2]
   left
   erw[Z8 hlw,W9 hsw,fgD,z5p,z6g (show jf≠jw by lia),h5w,htw,W9 haw,W7]
   left
   erw[z6g (show jf≠jw by lia)]
   rw[Mi.y_app ⟨by unfold foD;rw[i9,zl];lia,by rw[z1m];exact t7⟩]
   have efo:foD F++[gD (g.1+e.2.1.length,e.2.2)]=foD (F++[((g.1+e.2.1.length,e.2.2),c+1)]):=by simp[foD]
   rw[efo]
   left
   erw[Z8 hlf,W9 hsf,fgD,ze2 (ep ⟨[],[],0⟩).1 hwf,h5f,htf,W9 haf,W7]
   exact⟨_,some (gD (g.1+e.2.1.length,e.2.2)),n+1,by lia,λk d=>by rw[l6,fgD],(ep ⟨[],[],0⟩).1,rfl⟩
theorem EnD.at{lo hi:Nat}: ∀{es:List Ent} {ds:List D} {i:Nat} {d:D},EnD lo hi es ds->ds[i]? =some d->∃e a,es[i]? =some e/\d= .tup [.int e.1, .lst a (e.2.1.map .int), .tup (e.2.2.map .int)]/\lo<=a/\a<hi
 |[],ds,i,d,h,hd=>by
  have h:ds=[]:=h
  subst h;cases hd
 |e::es,ds,i,d,⟨a,r,h,h1,h2,hr⟩,hd=>by
  subst h
  cases i with
  |zero=>cases hd;exact⟨e,a,rfl,rfl,h1,h2⟩
  |succ i=>
   obtain⟨e',a',q1,q2,q3⟩:=EnD.at (es:=es) (ds:=r) (i:=i) hr (by simpa using hd)
   exact⟨e',a',by simpa using q1,q2,q3⟩
def z38: ∀W,(K9 rows W).length<=26:=λW=>by
 unfold K9
 rw[i9]
 exact C1 (D5 _ _) (by simp[K26])
def z9N(hw: ∀r∈rows,Wf r){W:List Int}(hW:W.length<=100): ∀e∈K9 rows W,e.2.1.length<=303:=λe he=>by
 unfold K9 at he
 obtain⟨k,_,rfl⟩:=m8.mp he
 have:=(z1V hw 1000 (W++[k])).1
 rw[m5,F9] at this
 show(Y8 rows 1000 (W++[k])).1.length<=303
 lia
theorem z6V{p c:Nat}: ∀(es:List Ent) (F:Fd),(F.map (·.1)).Nodup->((es.foldl (X4 sn p c) F).map (·.1)).Nodup/\(∀q∈F,q∈es.foldl (X4 sn p c) F)/\(es.foldl (X4 sn p c) F).length<=F.length+es.length
 |[],F,h=>⟨h,λ_ h=>h,i7 _⟩
 |e::es,F,h=>by
  obtain⟨h1,h2,h3⟩:=z6V es (X4 sn p c F e) (zbp h)
  have:=z9L (sn:=sn) (p:=p) (c:=c) (F:=F) (e:=e)
  exact⟨h1,λq hq=>h2 q (z9K hq),by rw[E8,A3];lia⟩
noncomputable def enB:MS:=z01 (Q8 (y2 (y0 5) (y0 9) z15)) (.tp [(.nm 10),(.nm 11),(.nm 12)]) goB
def zh4(rows:List Z5)(hw: ∀r∈rows,Wf r)(sn:List Int)(hsn:sn.length<=2000)(l ls jw jf jp n:Nat)(FK:List (List Int))(vp:List D)(hD:DV rows (jp+1) n FK vp)(i:Int)(g:Sg)(hgF:g.2∈FK)(hg2:g.2.length<=100)(c:Nat)(F:Fd)(vs:List D)(hV:GV RP F vs)(hn:(F.map (·.1)).Nodup)(hg:(g,c)∈F)(hz:F.length<=80000)(o10 o11 o12 o13:Option D)(hwf:jw≠jf)(hlw:l≠jw)(hlf:l≠jf)(hsw:ls≠jw)(hsf:ls≠jf)(hpw:jw<jp)(hpf:jf<jp)(hpn:jp<n)(w10:Lo jp o10)(w11:Lo jp o11)(w12:Lo jp o12)(w13:Lo jp o13):
 ∃vs' p10 p11 p12 p13 n',n<=n'/\Lo jp p10/\Lo jp p11/\Lo jp p12/\Lo jp p13/\GV RP ((K9 rows g.2).foldl (X4 sn g.1 c) F) vs'/\enB ⟨wsS l rows ls sn jw F vs jf (.dct jp (FK.map kd) vp) i g o10 o11 o12 o13,[some (.lst l (rows.map rD)),some (.lst ls (sn.map .int))],n⟩= .nx ⟨wsS l rows ls sn jw ((K9 rows g.2).foldl (X4 sn g.1 c) F) vs' jf (.dct jp (FK.map kd) vp) i g p10 p11 p12 p13,[some (.lst l (rows.map rD)),some (.lst ls (sn.map .int))],n'⟩:=by
 obtain⟨v,fv,q,ds,rfl,q1,q2,hE⟩:=hD.find hgF
 have ed: ∀s:Stt,z15 (.dct jp (FK.map kd) vp) (.tup (g.2.map .int)) s= .ok (.lst q ds) s:=λs=>by
  have hT:isT (FK.map kd)=true:=by cases FK<;>rfl
  unfold z15
  erw[rdD,if_pos hT,z0B,fv]
  rfl
 have h5: ∀k,k<jp->∀d,rp (pl k d) (.dct jp (FK.map kd) vp)= .dct jp (FK.map kd) vp:=λk hk d=>z9H hD (by lia) (.inl (by lia))
 have hq: ∀k,k<jp->∀d,rp (pl k d) (.lst q ds)= .lst q ds:=λk hk d=>G4 λh=>by
  erw[Mi.labs,l7] at h
  rcases h with h|h
  .lia
  .have:=hE.labs k h;lia
 have hds:=hE.len
 have h26:=z38 (rows:=rows) g.2
 unfold enB
 have hi:Q8 (y2 (y0 5) (y0 9) z15) ⟨wsS l rows ls sn jw F vs jf (.dct jp (FK.map kd) vp) i g o10 o11 o12 o13,[some (.lst l (rows.map rD)),some (.lst ls (sn.map .int))],n⟩= .ok kLst ⟨wsS l rows ls sn jw F vs jf (.dct jp (FK.map kd) vp) i g o10 o11 o12 o13,some (.lst q ds)::[some (.lst l (rows.map rD)),some (.lst ls (sn.map .int))],n⟩:=z0G (by
  unfold wsS
  left
  rw[ed])
 rw[z7w,hi,z4k]
 obtain⟨s',e,vs',p10,p11,p12,p13,m,hm,k10,k11,k12,k13,hV',rfl⟩:=U7 (P:=λt s=> ∃(vs':List D) (p10 p11 p12 p13:Option D) (m:Nat),n<=m/\Lo jp p10/\Lo jp p11/\Lo jp p12/\Lo jp p13/\GV RP (((K9 rows g.2).take t).foldl (X4 sn g.1 c) F) vs'/\s=⟨wsS l rows ls sn jw (((K9 rows g.2).take t).foldl (X4 sn g.1 c) F) vs' jf (.dct jp (FK.map kd) vp) i g p10 p11 p12 p13,some (.lst q ds)::[some (.lst l (rows.map rD)),some (.lst ls (sn.map .int))],m⟩) (l:=q) (ds:=ds) (g:= .tp [(.nm 10),(.nm 11),(.nm 12)]) (tm:=[some (.lst l (rows.map rD)),some (.lst ls (sn.map .int))]) (b:=goB)
  (by rintro t s ⟨_,_,_,_,_,_,_,_,_,_,_,_,rfl⟩;rfl) (by
   rintro t d hd s ⟨vs',p10,p11,p12,p13,m,hm,_,_,_,k13,hV',rfl⟩
   obtain⟨en,a,he,rfl,a1,a2⟩:=hE.at hd
   refine⟨_,rfl, ?_⟩
   obtain⟨i1,i2,i3⟩:=z6V (sn:=sn) (p:=g.1) (c:=c) ((K9 rows g.2).take t) F hn
   rw[B6] at i3
   obtain⟨vs2,q13,m',hm',z13,hV2,e⟩:=zh3 rows sn hsn l ls jw jf m a (.dct jp (FK.map kd) vp) i g c _ vs' hV' i1 (i2 _ hg) (by lia) en (by have:=z9N hw hg2 en (List.mem_of_getElem? he);lia) p13 hwf hlw hlf hsw hsf (by lia) (by lia) (h5 jw hpw) (h5 jf hpf) (λd=>k13 jw (by lia) d) (some (.lst q ds)::[some (.lst l (rows.map rD)),some (.lst ls (sn.map .int))]) (λd=>by erw[Z0,Z7,l6,hq jw hpw,Z8 hlw,W9 hsw]) (λd=>by erw[Z0,Z7,l6,hq jf hpf,Z8 hlf,W9 hsf])
   refine⟨_,e,vs2,some (.int en.1),some (.lst a (en.2.1.map .int)),some (.tup (en.2.2.map .int)),q13,m',by lia,Lo.int,Lo.li (by lia),Lo.tI,λk _ d=>z13 k d, ?_, ?_⟩
   .rw[C3,he,B9,L1];exact hV2
   .rw[C3,he,B9,L1];rfl) ds.length 0 ⟨wsS l rows ls sn jw F vs jf (.dct jp (FK.map kd) vp) i g o10 o11 o12 o13,some (.lst q ds)::[some (.lst l (rows.map rD)),some (.lst ls (sn.map .int))],n⟩ (by lia) ⟨vs,o10,o11,o12,o13,n,i7 _,w10,w11,w12,w13,hV,rfl⟩
 dsimp only
 rw[show kLst.len (some (.lst q ds)::[some (.lst l (rows.map rD)),some (.lst ls (sn.map D.int))])=ds.length from rfl,e,px1]
 rw[B0 (by lia)] at hV'⊢
 exact⟨vs',p10,p11,p12,p13,m,hm,k10,k11,k12,k13,hV',rfl⟩
noncomputable def inB:MS:=sIf (G7 (y2 (y0 9) (y0 5) z0o)) (z1f (Z1 Y3 [(y0 0),(y0 9)]) (y0 5) (y0 9) z3k) sNx
noncomputable def wbM:MS:=(Z3 (Y5 (.nm 7) (y2 (y0 4) (y0 6) ixD))
 (Z3 (Y5 (.tp [(.nm 8),(.nm 9)]) (y0 7))
 (Z3 inB
 (Z3 enB
 (z5S 6 (mC (.int 1)))))))
noncomputable def wtS(l:Nat)(rows:List Z5)(ls:Nat)(sn:List Int)(jw:Nat)(F:Fd)(vs:List D)(jf:Nat)(jp:Nat)(FK:List (List Int))(vp:List D)(i:Int)(o7 o8 o9 o10 o11 o12 o13:Option D):List (Option D):=[some (.lst l (rows.map rD)),some (.lst ls (sn.map .int)),some (gD (0,[])),some (.dct jw (ksF F) vs),some (.lst jf (foD F)),some (.dct jp (FK.map kd) vp),some (.int i),o7,o8,o9,o10,o11,o12,o13]
def zj6{F:Fd}{i:Nat}{q:Sg×Nat}(h:F[i]? =some q):atI (foD F) (i:Int)=some (gD q.1):=z3A (by lia) (by simp[foD,h])
def z9O{lo hi j:Nat}{FK:List (List Int)}{W:List Int}(h:DV rows lo hi FK vs):z0o (.tup (W.map .int)) (.dct j (FK.map kd) vs) s= .ok (.bool (!decide (W∈FK))) s:=by
 have hT:isT (FK.map kd)=true:=by cases FK<;>rfl
 unfold z0o
 erw[rdD,if_pos hT,z0B,h.has]
 rfl
def zh5{i n:Nat}{a:Int}(h:σ[i]? =some (some (.int a))):z5S i m ⟨σ,tm,n⟩=z0K m (zgc i a) ⟨σ,tm,n⟩:=by
 unfold z5S;erw[h]
def zh6{i:Nat}{a b:Int}:zgc i a (.int b) s= .nx {s with σ:=s.σ.set i (some (.int (a+b)))}:=rfl
def zj7(rows:List Z5)(hw: ∀r∈rows,Wf r)(hr:rows.length<1000)(sn:List Int)(hsn:sn.length<=2000)(l ls jw jf jp n:Nat)(hlw:l<jw)(hsw:ls<jw)(hwf:jw<jf)(hfp:jf<jp)(hpn:jp<n)(FK:List (List Int))(vp:List D)(hFK:FK.length<=9000)(hD:DV rows (jp+1) n FK vp)(i:Nat)(q:Sg×Nat)(F:Fd)(vs:List D)(hV:GV RP F vs)(hn:(F.map (·.1)).Nodup)(hq:F[i]? =some q)(hg2:q.1.2.length<=100)(hz:F.length<=80000)(o7 o8 o9 o10 o11 o12 o13:Option D)(w10:Lo jp o10)(w11:Lo jp o11)(w12:Lo jp o12)(w13:Lo jp o13):
 ∃FK' vp' vs' p7 p8 p9 p10 p11 p12 p13 n',n<=n'/\FK'.length<=FK.length+1/\DV rows (jp+1) n' FK' vp'/\Lo jp p10/\Lo jp p11/\Lo jp p12/\Lo jp p13/\GV RP (proc (gl rows sn) F i) vs'/\wbM ⟨wtS l rows ls sn jw F vs jf jp FK vp i o7 o8 o9 o10 o11 o12 o13,[some (.lst l (rows.map rD)),some (.lst ls (sn.map .int))],n⟩= .nx ⟨wtS l rows ls sn jw (proc (gl rows sn) F i) vs' jf jp FK' vp' (i+1:Nat) p7 p8 p9 p10 p11 p12 p13,[some (.lst l (rows.map rD)),some (.lst ls (sn.map .int))],n'⟩:=by
 have ep:proc (gl rows sn) F i=(K9 rows q.1.2).foldl (X4 sn q.1.1 q.2) F:=by
  unfold proc
  rw[hq]
  exact z5q sn q.1.1 q.2 (K9 rows q.1.2) F
 rw[ep]
 have fgD: ∀(k:Nat) (d:D) (h:Sg),rp (pl k d) (gD h)=gD h:=λk d h=>zbn
 have key: ∃FK' vp' n1,n<=n1/\FK'.length<=FK.length+1/\q.1.2∈FK'/\DV rows (jp+1) n1 FK' vp'/\inB ⟨wsS l rows ls sn jw F vs jf (.dct jp (FK.map kd) vp) i q.1 o10 o11 o12 o13,[some (.lst l (rows.map rD)),some (.lst ls (sn.map .int))],n⟩= .nx ⟨wsS l rows ls sn jw F vs jf (.dct jp (FK'.map kd) vp') i q.1 o10 o11 o12 o13,[some (.lst l (rows.map rD)),some (.lst ls (sn.map .int))],n1⟩:=by
  by_cases hin:q.1.2∈FK
  .refine⟨FK,vp,n,i7 _,by lia,hin,hD, ?_⟩
   unfold wsS inB
   left
   rw[z9O hD]
   erw[hin,decide_true,E5]
   left
  .obtain⟨ds,n1,hn1,hE,e1⟩:=zh2 rows hw hr l n (by lia) q.1.2 hg2
   have hvl:VL rows (jp+1) n1 q.1.2 (.lst n ds):=⟨n,ds,rfl,by lia,by lia,hE.mono (by lia) (i7 _)⟩
   obtain⟨vp',hv',e2⟩:=zcf (j:=jp) (s:=⟨wsS l rows ls sn jw F vs jf (.dct jp (FK.map kd) vp) i q.1 o10 o11 o12 o13,[some (.lst l (rows.map rD)),some (.lst ls (sn.map .int))],n1⟩) (by lia) (λh=>by have:=hvl.labs jp h;lia) hvl (hD.mono (by lia))
   refine⟨z3E FK q.1.2,vp',n1,by lia,z4p,z4o.mpr (.inr rfl),hv', ?_⟩
   unfold wsS at e2⊢
   unfold inB
   left
   rw[z9O hD]
   erw[hin,decide_false,F4]
   left
   rw[e1]
   left
   rw[e2]
   erw[z0U,Z0,Z7,l6,Z8 (show l≠jp by lia),W9 (show ls≠jp by lia),fgD,ze2 hV (show jw≠jp by lia),z6g (show jf≠jp by lia),z5p,Q7,z3m,w10 jp (i7 _),w11 jp (i7 _),w12 jp (i7 _),w13 jp (i7 _)]
 obtain⟨FK',vp',n1,hn1,lFK,hm,hD',e1⟩:=key
 obtain⟨vs',p10,p11,p12,p13,n2,hn2,x10,x11,x12,x13,hV',e2⟩:=zh4 rows hw sn hsn l ls jw jf jp n1 FK' vp' hD' i q.1 hm hg2 q.2 F vs hV hn (List.mem_of_getElem? hq) hz o10 o11 o12 o13 (by lia) (by lia) (by lia) (by lia) (by lia) (by lia) (by lia) (by lia) w10 w11 w12 w13
 refine⟨FK',vp',vs',some (gD q.1),some (.int q.1.1),some (.tup (q.1.2.map .int)),p10,p11,p12,p13,n2,by lia,lFK,hD'.mono hn2,x10,x11,x12,x13,hV', ?_⟩
 have hgD:gD q.1= .tup [.int q.1.1, .tup (q.1.2.map .int)]:=rfl
 unfold wsS at e1 e2
 rw[hgD] at e1 e2
 unfold wbM wtS
 left
 rw[zj6 hq,hgD]
 left
 rw[e1]
 left
 rw[e2]
 left
 rw[zh5 rfl]
 left
 rw[zh6]
 rfl
noncomputable def F0:Fd:=[((0,[]),0)]
def zbq{gl:Sg->List Sg}{i:Nat}{F:Fd}:runF' gl (i+1) 0 F=proc gl (runF' gl i 0 F) i:=by
 rw[z35]
 show runF' gl 0 (0+i+1) (proc gl (runF' gl i 0 F) (0+i))=_
 rw[F6];rfl
def zck(hw: ∀r∈rows,Wf r){sn:List Int}(n:Nat):((runF' (gl rows sn) n 0 F0).map (·.1)).Nodup/\∀q∈runF' (gl rows sn) n 0 F0,Ok rows sn.length q.1:=
 z4s (gl:=gl rows sn) (Q:=Ok rows sn.length) (λg h=>zdT hw h) n 0 F0 (by simp[F0]) (λq hq=>by
  rw[t9.mp hq]
  exact⟨C0 _,by simp[G1]⟩)
def z9P(F:Fd):(foD F).length=F.length:=by simp[foD]
def z7H(rows:List Z5)(hw: ∀r∈rows,Wf r)(hr:rows.length<=40)(sn:List Int)(hsn:sn.length<=24)(l ls jw jf jp:Nat)(hlw:l<jw)(hsw:ls<jw)(hwf:jw<jf)(hfp:jf<jp)(N:Nat)(hN:N<=5000)(hend:(runF' (gl rows sn) N 0 F0).length=N)(hgo: ∀i,i<N->i<(runF' (gl rows sn) i 0 F0).length):
 ∀(d i fuel:Nat),i+d=N->d<fuel->∀(FK:List (List Int)) (vp vs:List D) (o7 o8 o9 o10 o11 o12 o13:Option D) (n:Nat),jp<n->FK.length<=i->DV rows (jp+1) n FK vp->GV RP (runF' (gl rows sn) i 0 F0) vs->Lo jp o10->Lo jp o11->Lo jp o12->Lo jp o13->
 ∃(FK':List (List Int)) (vp' vs':List D) (p7 p8 p9 p10 p11 p12 p13:Option D) (n':Nat),n<=n'/\GV RP (runF' (gl rows sn) N 0 F0) vs'/\Q0 (G7 (y2 (y0 6) (mCB [(y0 4)] U3) ltD)) wbM fuel ⟨wtS l rows ls sn jw (runF' (gl rows sn) i 0 F0) vs jf jp FK vp i o7 o8 o9 o10 o11 o12 o13,[some (.lst l (rows.map rD)),some (.lst ls (sn.map .int))],n⟩= .nx ⟨wtS l rows ls sn jw (runF' (gl rows sn) N 0 F0) vs' jf jp FK' vp' N p7 p8 p9 p10 p11 p12 p13,[some (.lst l (rows.map rD)),some (.lst ls (sn.map .int))],n'⟩:=by
 intro d
 induction d with
 |zero=>
  intro i fuel hi hf FK vp vs o7 o8 o9 o10 o11 o12 o13 n hn hK hD hV _ _ _ _
  have hi:i=N:=by lia
  subst hi
  obtain⟨m,rfl⟩: ∃m,fuel=m+1:=⟨fuel - 1,by lia⟩
  refine⟨FK,vp,vs,o7,o8,o9,o10,o11,o12,o13,n,i7 _,hV, ?_⟩
  unfold Q0 wtS
  left
  have e:decide ((i:Int)<((foD (runF' (gl rows sn) i 0 F0)).length:Int))=false:=by
   rw[z9P,hend];simp
  rw[e]
  rfl
 |succ d ih=>
  intro i fuel hi hf FK vp vs o7 o8 o9 o10 o11 o12 o13 n hn hK hD hV w10 w11 w12 w13
  obtain⟨m,rfl⟩: ∃m,fuel=m+1:=⟨fuel - 1,by lia⟩
  have hlt:=hgo i (by lia)
  obtain⟨h1,h2⟩:=zck hw (sn:=sn) i
  have hb:=z36 hw hr hsn i
  have hq:=List.getElem?_eq_getElem hlt
  have ho:=h2 _ (B3 hlt)
  have hs:=z1B hw ho.2
  obtain⟨FK',vp',vs',p7,p8,p9,p10,p11,p12,p13,n',hn',hK',hD',x10,x11,x12,x13,hV',e1⟩:=zj7 rows hw (by lia) sn (by lia) l ls jw jf jp n hlw hsw hwf hfp hn FK vp (by lia) hD i _ _ vs hV h1 hq (by lia) (by show(runF' (gl rows sn) i 0 [((0,[]),0)]).length<=80000;lia) o7 o8 o9 o10 o11 o12 o13 w10 w11 w12 w13
  rw[<-zbq] at hV' e1
  obtain⟨FK2,vp2,vs2,q7,q8,q9,q10,q11,q12,q13,n2,hn2,hV2,e2⟩:=ih (i+1) m (by lia) (by lia) FK' vp' vs' p7 p8 p9 p10 p11 p12 p13 n' (by lia) (by lia) hD' hV' x10 x11 x12 x13
  refine⟨FK2,vp2,vs2,q7,q8,q9,q10,q11,q12,q13,n2,by lia,hV2, ?_⟩
  have e:decide ((i:Int)<((foD (runF' (gl rows sn) i 0 F0)).length:Int))=true:=by
   rw[z9P,decide_eq_true_iff];lia
  unfold Q0
  have ec:G7 (y2 (y0 6) (mCB [(y0 4)] U3) ltD) ⟨wtS l rows ls sn jw (runF' (gl rows sn) i 0 F0) vs jf jp FK vp i o7 o8 o9 o10 o11 o12 o13,[some (.lst l (rows.map rD)),some (.lst ls (sn.map .int))],n⟩= .ok true ⟨wtS l rows ls sn jw (runF' (gl rows sn) i 0 F0) vs jf jp FK vp i o7 o8 o9 o10 o11 o12 o13,[some (.lst l (rows.map rD)),some (.lst ls (sn.map .int))],n⟩:=by
   unfold wtS
   left
   rw[e]
  erw[z0K,ec]
  show(match wbM ⟨wtS l rows ls sn jw (runF' (gl rows sn) i 0 F0) vs jf jp FK vp i o7 o8 o9 o10 o11 o12 o13,[some (.lst l (rows.map rD)),some (.lst ls (sn.map .int))],n⟩ with
   | .nx s'=>Q0 (G7 (y2 (y0 6) (mCB [(y0 4)] U3) ltD)) wbM m s'
   | .ct s'=>Q0 (G7 (y2 (y0 6) (mCB [(y0 4)] U3) ltD)) wbM m s'
   | .bk s'=> .nx s'
   | .rt d s'=> .rt d s'
   | .ex d s'=> .ex d s'
   | .no=> .no)=_
  rw[e1]
  exact e2
def g0:D.tup [.int 0, .tup []]=gD (0,[]):=rfl
def ze3(rows:List Z5)(hw: ∀r∈rows,Wf r)(hr:rows.length<=40)(sn:List Int)(hsn:sn.length<=24)(l ls n:Nat)(hl:l<n)(hs:ls<n)(N:Nat)(hN:N<=5000)(hend:(runF' (gl rows sn) N 0 F0).length=N)(hgo: ∀i,i<N->i<(runF' (gl rows sn) i 0 F0).length):
 ∃vs n',n<n'/\GV RP (runF' (gl rows sn) N 0 F0) vs/\z0u [.lst l (rows.map rD), .lst ls (sn.map .int)] n= .ok (.dct n (ksF (runF' (gl rows sn) N 0 F0)) vs) [.lst l (rows.map rD), .lst ls (sn.map .int)] n':=by
 unfold z0u
 have e0:z1k=(Z3 (Y5 (.nm 2) (mCB [(mC (.int 0)),(mCB [] Q1)] Q1))
  (Z3 (Y5 (.nm 3) (v3 (y0 2) (mCB [(mC (.int 0)),(mC .non),(mC .non)] Q1)))
  (Z3 (Y5 (.nm 4) (mCB [(y0 2)] lstM))
  (Z3 (Y5 (.nm 5) z2F)
  (Z3 (Y5 (.nm 6) (mC (.int 0)))
  (Z3 (z18 (λ_=>100000) (G7 (y2 (y0 6) (mCB [(y0 4)] U3) ltD)) wbM)
  (z0e (y0 3)))))))):=rfl
 rw[e0]
 left
 have ed:v3 (y0 2) (mCB [(mC (.int 0)),(mC .non),(mC .non)] Q1) ⟨[some (.lst l (rows.map rD)),some (.lst ls (sn.map .int)),some (.tup [.int 0, .tup []]),none,none,none,none,none,none,none,none,none,none,none],[some (.lst l (rows.map rD)),some (.lst ls (sn.map .int))],n⟩= .ok (.dct n (ksF F0) [.tup [.int 0, .non, .non]]) ⟨[some (.lst l (rows.map rD)),some (.lst ls (sn.map .int)),some (.tup [.int 0, .tup []]),none,none,none,none,none,none,none,none,none,none,none],[some (.lst l (rows.map rD)),some (.lst ls (sn.map .int))],n+1⟩:=by
  have e:v3 (y0 2) (mCB [(mC (.int 0)),(mC .non),(mC .non)] Q1) ⟨[some (.lst l (rows.map rD)),some (.lst ls (sn.map .int)),some (.tup [.int 0, .tup []]),none,none,none,none,none,none,none,none,none,none,none],[some (.lst l (rows.map rD)),some (.lst ls (sn.map .int))],n⟩= .ok (.dct n (ksF F0) [.tup [.int 0, .non, .non]]) ⟨rpO (pl n (.dct n (ksF F0) [.tup [.int 0, .non, .non]])) [some (.lst l (rows.map rD)),some (.lst ls (sn.map .int)),some (.tup [.int 0, .tup []]),none,none,none,none,none,none,none,none,none,none,none],rpO (pl n (.dct n (ksF F0) [.tup [.int 0, .non, .non]])) [some (.lst l (rows.map rD)),some (.lst ls (sn.map .int))],n+1⟩:=by
   unfold v3
   rfl
  rw[e]
  erw[Z0,Z7,l6,E1,Z8 (show l≠n by lia),W9 (show ls≠n by lia),zc2,J3,J9,Q7]
 rw[ed]
 left
 have eD: ∀σ tm,z2F ⟨σ,tm,n+1+1⟩= .ok (.dct (n+1+1) [] []) ⟨σ,tm,n+1+1+1⟩:=λ_ _=>rfl
 rw[eD]
 left
 rw[z9t]
 obtain⟨FK',vp',vs',p7,p8,p9,p10,p11,p12,p13,n',hn',hV,e⟩:=z7H rows hw hr sn hsn l ls n (n+1) (n+1+1) hl hs (by lia) (by lia) N hN hend hgo N 0 100000 (by lia) (by lia) [] [] [.tup [.int 0, .non, .non]] none none none none none none none (n+1+1+1) (by lia) (i7 _) rfl ⟨_,[],rfl,⟨.non, .non,rfl⟩,rfl,rfl⟩ Lo.no Lo.no Lo.no Lo.no
 unfold wtS at e
 have ee:=e
 refine⟨vs',n',by lia,hV, ?_⟩
 have es:(⟨[some (.lst l (rows.map rD)),some (.lst ls (sn.map .int)),some (.tup [.int 0, .tup []]),some (.dct n (ksF F0) [.tup [.int 0, .non, .non]]),some (.lst (n+1) [.tup [.int 0, .tup []]]),some (.dct (n+1+1) [] []),some (.int 0),none,none,none,none,none,none,none],[some (.lst l (rows.map rD)),some (.lst ls (sn.map .int))],n+1+1+1⟩:Stt)=⟨[some (.lst l (rows.map rD)),some (.lst ls (sn.map .int)),some (gD (0,[])),some (.dct n (ksF (runF' (gl rows sn) 0 0 F0)) [.tup [.int 0, .non, .non]]),some (.lst (n+1) (foD (runF' (gl rows sn) 0 0 F0))),some (.dct (n+1+1) (([]:List (List Int)).map kd) []),some (.int ((0:Nat):Int)),none,none,none,none,none,none,none],[some (.lst l (rows.map rD)),some (.lst ls (sn.map .int))],n+1+1+1⟩:=rfl
 rw[es,e]
 left
noncomputable def gsD(gs:List (Int×Sg)):List D:=gs.map λx=> .tup [.int x.1,gD x.2]
def zbr(gs:List (Int×Sg)):labsL (gsD gs)=[]:=W5 λd hd=>by
 obtain⟨x,_,rfl⟩:=m8.mp hd
 erw[Mi.labs,labsL,z1m,l0]
noncomputable def gOf(p:Nat)(e:Ent):Int×Sg:=(e.1,(p+e.2.1.length,e.2.2))
noncomputable def lgB:MS:=(sIf (G7 (y2 (mSl (y0 1) (some (y0 2)) (some (y2 (y0 2) (mCB [(y0 6)] U3) v6))) (y0 6) eqD)) (J8 (J2 (y0 4) [(mCB [(y0 5),(mCB [(y2 (y0 2) (mCB [(y0 6)] U3) v6),(y0 7)] Q1)] Q1)] z2B)) sNx)
def zbs(rows:List Z5)(hw: ∀r∈rows,Wf r)(sn:List Int)(hsn:sn.length<=2000)(ls js n:Nat)(hls:ls<n)(hjs:js<n)(FK:List (List Int))(vp:List D)(hD:DV rows (js+1) n FK vp)(g:Sg)(hgF:g.2∈FK)(hg2:g.2.length<=100):
 ∃n',n<n'/\z0k [.dct js (FK.map kd) vp, .lst ls (sn.map .int), .int g.1, .tup (g.2.map .int)] n= .ok (.lst n (gsD (z00 rows sn g))) [.dct js (FK.map kd) vp, .lst ls (sn.map .int), .int g.1, .tup (g.2.map .int)] n':=by
 obtain⟨v,fv,q,ds,rfl,q1,q2,hE⟩:=hD.find hgF
 have ed: ∀s:Stt,z15 (.dct js (FK.map kd) vp) (.tup (g.2.map .int)) s= .ok (.lst q ds) s:=λs=>by
  have hT:isT (FK.map kd)=true:=by cases FK<;>rfl
  unfold z15
  erw[rdD,if_pos hT,z0B,fv]
  rfl
 have hds:=hE.len
 have h26:=z38 (rows:=rows) g.2
 have fD: ∀d,rp (pl n d) (.dct js (FK.map kd) vp)= .dct js (FK.map kd) vp:=λd=>z9H hD (by lia) (.inr (i7 _))
 have fq: ∀d,rp (pl n d) (.lst q ds)= .lst q ds:=λd=>G4 λh=>by
  erw[Mi.labs,l7] at h
  rcases h with h|h
  .lia
  .have:=hE.labs n h;lia
 unfold z0k
 have e0:z31=(Z3 (Y5 (.nm 4) (mCB [] lstM))
  (Z3 (z01 (Q8 (y2 (y0 0) (y0 3) z15)) (.tp [(.nm 5),(.nm 6),(.nm 7)]) lgB)
  (z0e (y0 4)))):=rfl
 rw[e0]
 left
 have hi:Q8 (y2 (y0 0) (y0 3) z15) ⟨[some (.dct js (FK.map kd) vp),some (.lst ls (sn.map .int)),some (.int g.1),some (.tup (g.2.map .int)),some (.lst n []),none,none,none],[some (.dct js (FK.map kd) vp),some (.lst ls (sn.map .int)),some (.int g.1),some (.tup (g.2.map .int))],n+1⟩= .ok kLst ⟨[some (.dct js (FK.map kd) vp),some (.lst ls (sn.map .int)),some (.int g.1),some (.tup (g.2.map .int)),some (.lst n []),none,none,none],some (.lst q ds)::[some (.dct js (FK.map kd) vp),some (.lst ls (sn.map .int)),some (.int g.1),some (.tup (g.2.map .int))],n+1⟩:=z0G (by
  left
  rw[ed])
 rw[hi,z4k]
 obtain⟨s',e,o5,o6,o7,m,hm,rfl⟩:=U7 (P:=λt s=> ∃(o5 o6 o7:Option D) (m:Nat),n+1<=m/\s=⟨[some (.dct js (FK.map kd) vp),some (.lst ls (sn.map .int)),some (.int g.1),some (.tup (g.2.map .int)),some (.lst n (gsD ((((K9 rows g.2).take t).filter (fits sn g.1)).map (gOf g.1)))),o5,o6,o7],some (.lst q ds)::[some (.dct js (FK.map kd) vp),some (.lst ls (sn.map .int)),some (.int g.1),some (.tup (g.2.map .int))],m⟩) (l:=q) (ds:=ds) (g:= .tp [(.nm 5),(.nm 6),(.nm 7)]) (tm:=[some (.dct js (FK.map kd) vp),some (.lst ls (sn.map .int)),some (.int g.1),some (.tup (g.2.map .int))]) (b:=lgB)
  (by rintro t s ⟨_,_,_,_,_,rfl⟩;rfl) (by
   rintro t d hd s ⟨o5,o6,o7,m,hm,rfl⟩
   obtain⟨en,a,he,rfl,a1,a2⟩:=hE.at hd
   refine⟨_,rfl, ?_⟩
   have hl:=z9N hw hg2 en (List.mem_of_getElem? he)
   have eg:D.tup [.int ((g.1:Int)+(en.2.1.length:Int)), .tup (en.2.2.map .int)]=gD (g.1+en.2.1.length,en.2.2):=by
    unfold gD
    erw[u06]
   have et:((K9 rows g.2).take (t+1)).filter (fits sn g.1)=((K9 rows g.2).take t).filter (fits sn g.1)++[en].filter (fits sn g.1):=by
    rw[C3,he,B9,O8]
   unfold lgB
   rw[et]
   left
   rw[z4B,z9J,z9u,z68,zcj (by rw[B6,C7];lia) (by lia),z9M]
   cases hf:fits sn g.1 en with
   |false=>
    have ef:[en].filter (fits sn g.1)=[]:=by simp[hf]
    rw[ef,l0]
    left
    exact⟨_,rfl,some (.int en.1),some (.lst a (en.2.1.map .int)),some (.tup (en.2.2.map .int)),m+1,by lia,rfl⟩
   |true=>
    have ef:[en].filter (fits sn g.1)=[en]:=by simp[hf]
    rw[ef]
    left
    rw[z4B,eg]
    have lz:(gsD ((((K9 rows g.2).take t).filter (fits sn g.1)).map (gOf g.1))).length<=26:=by
     unfold gsD
     rw[i9,i9]
     have:=D5 (fits sn g.1) ((K9 rows g.2).take t)
     rw[B6] at this
     lia
    rw[Mi.y_app ⟨by rw[zl];lia,by erw[Mi.labs,labsL,z1m,l0];exact t7⟩]
    left
    erw[fD,fq,W9 (show ls≠n by lia),W9 (show a≠n by lia),W7,zbn]
    refine⟨_,rfl,some (.int en.1),some (.lst a (en.2.1.map .int)),some (.tup (en.2.2.map .int)),m+1,by lia, ?_⟩
    erw[gsD,gOf,t8,i6,A2]) ds.length 0 ⟨[some (.dct js (FK.map kd) vp),some (.lst ls (sn.map .int)),some (.int g.1),some (.tup (g.2.map .int)),some (.lst n []),none,none,none],some (.lst q ds)::[some (.dct js (FK.map kd) vp),some (.lst ls (sn.map .int)),some (.int g.1),some (.tup (g.2.map .int))],n+1⟩ (by lia) ⟨none,none,none,n+1,i7 _,rfl⟩
 dsimp only
 rw[show kLst.len (some (.lst q ds)::[some (.dct js (FK.map kd) vp),some (.lst ls (sn.map D.int)),some (.int g.1),some (.tup (g.2.map .int))])=ds.length from rfl,e,px1]
 left
 rw[B0 (by lia)]
 exact⟨m,by lia,rfl⟩
noncomputable def RL(q:Sg×Nat)(v:D):Prop:=v= .int q.2
noncomputable def zhy:MS:=(sIf (G7 (y2 (y0 8) (y0 2) z0o)) (Z3 (z1f (y2 (y2 (y0 2) (mCB [(y0 5),(y0 6)] Q1) z15) (mC (.int 1)) v6) (y0 2) (y0 8) z03)
 (J8 (J2 (y0 4) [(y0 8)] z2B))) sNx)
noncomputable def lwS(X0 X1:D)(jw:Nat)(F:Fd)(vs:List D)(o3:Option D)(jm b:Nat)(g:Sg)(o7 o8:Option D):List (Option D):=[some X0,some X1,some (.dct jw (ksF F) vs),o3,some (.lst jm (foD (F.drop b))),some (.int g.1),some (.tup (g.2.map .int)),o7,o8]
def ze4(X0 X1:D)(jw jm b n:Nat)(F:Fd)(vs:List D)(hV:GV RL F vs)(hn:(F.map (·.1)).Nodup)(hz:F.length<=90000)(hb:b<=F.length)(g g':Sg)(c:Nat)(hg:(g,c)∈F)(k:Int)(o3:Option D)(hwm:jw≠jm)(h0: ∀q d,q=jw\/q=jm->rp (pl q d) X0=X0)(h1: ∀q d,q=jw\/q=jm->rp (pl q d) X1=X1)(h3: ∀q d,q=jw\/q=jm->o3.map (rp (pl q d))=o3)(tm:List (Option D))(ht: ∀q d,q=jw\/q=jm->rpO (pl q d) tm=tm):
 ∃vs',GV RL (addF F c g') vs'/\zhy ⟨lwS X0 X1 jw F vs o3 jm b g (some (.int k)) (some (gD g')),tm,n⟩= .nx ⟨lwS X0 X1 jw (addF F c g') vs' o3 jm b g (some (.int k)) (some (gD g')),tm,n⟩:=by
 have fgD: ∀(k:Nat) (d:D) (h:Sg),rp (pl k d) (gD h)=gD h:=λk d h=>zbn
 unfold zhy lwS
 left
 rw[z9I hV]
 by_cases hin:g'∈F.map (·.1)
 .have es:addF F c g'=F:=by unfold addF;rw[if_pos hin]
  rw[es]
  erw[hin,decide_true,E5]
  refine⟨vs,hV, ?_⟩
  left
 .have es:addF F c g'=F++[(g',c+1)]:=by unfold addF;rw[if_neg hin]
  rw[es]
  erw[hin,decide_false,F4]
  left
  obtain⟨v,rfl,hvl,ev⟩:=zch (j:=jw) hV hn hg
  rw[show D.tup [.int g.1, .tup (g.2.map .int)]=gD g from rfl,ev]
  left
  have ep:=λs:Stt=>zci (j:=jw) (s:=s) (c:=c+1) (v:= .int ((c:Int)+1)) hV (by lia) hin (show RL (g',c+1) (.int ((c:Int)+1)) by unfold RL;simp) rfl
  rw[(ep _).2]
  left
  erw[h0 jw _ (.inl rfl),h1 jw _ (.inl rfl),h3 jw _ (.inl rfl),ht jw _ (.inl rfl),fgD,z5p,z6g (show jm≠jw by lia),W7]
  try (left)
  try erw[z6g (show jm≠jw by lia)]
  rw[Mi.y_app ⟨by unfold foD;rw[i9,C7,zl];lia,by rw[z1m];exact t7⟩]
  have efo:foD (F.drop b)++[gD g']=foD ((F++[(g',c+1)]).drop b):=by
   rw[N6 hb];simp[foD]
  rw[efo]
  left
  erw[h0 jm _ (.inr rfl),h1 jm _ (.inr rfl),h3 jm _ (.inr rfl),ht jm _ (.inr rfl),fgD,ze2 (ep ⟨[],[],0⟩).1 hwm,W7]
  exact⟨_,(ep ⟨[],[],0⟩).1,rfl⟩
def z6W{c:Nat}:putF F c (a++b)=putF (putF F c a) c b:=by
 unfold putF;rw[L1]
def ze5{c:Nat}{F:Fd}(h:(F.map (·.1)).Nodup):((putF F c gs).map (·.1)).Nodup:=(z4r (Q:=λ_=>True) h (λ_ _=>trivial) λ_ _=>trivial).1
theorem z6X{c:Nat}: ∀{gs:List Sg} {F:Fd},(putF F c gs).length<=F.length+gs.length
 |[],F=>i7 _
 |g::gs,F=>by
  have h:=z6X (c:=c) (gs:=gs) (F:=addF F c g)
  have:(addF F c g).length<=F.length+1:=by unfold addF;split<;>simp
  show(putF (addF F c g) c gs).length<=_
  rw[A3];lia
noncomputable def inL:MS:=z01 (Q8 (Z1 z0k [(y0 0),(y0 1),(y0 5),(y0 6)])) (.tp [(.nm 7),(.nm 8)]) zhy
def zh7(rows:List Z5)(hw: ∀r∈rows,Wf r)(sn:List Int)(hsn:sn.length<=2000)(ls js n:Nat)(hls:ls<n)(hjs:js<n)(FK:List (List Int))(vp:List D)(hi0:Nat)(hhi:hi0<=n)(hD:DV rows (js+1) hi0 FK vp)(jw jm b:Nat)(hjw:hi0<=jw)(hjm:hi0<=jm)(hwn:jw<n)(hmn:jm<n)(hwm:jw≠jm)(hsw:ls<jw)(hsm:ls<jm)(hkw:js<jw)(hkm:js<jm)(F:Fd)(vs:List D)(hV:GV RL F vs)(hn:(F.map (·.1)).Nodup)(hz:F.length<=80000)(hb:b<=F.length)(g:Sg)(c:Nat)(hg:(g,c)∈F)(hgF:g.2∈FK)(hg2:g.2.length<=100)(o3 o7 o8:Option D)(h3: ∀q d,q=jw\/q=jm->o3.map (rp (pl q d))=o3)(tm:List (Option D))(ht: ∀q d,q=jw\/q=jm->rpO (pl q d) tm=tm):
 ∃vs' p7 p8 n',n<=n'/\GV RL (putF F c (gl rows sn g)) vs'/\inL ⟨lwS (.dct js (FK.map kd) vp) (.lst ls (sn.map .int)) jw F vs o3 jm b g o7 o8,tm,n⟩= .nx ⟨lwS (.dct js (FK.map kd) vp) (.lst ls (sn.map .int)) jw (putF F c (gl rows sn g)) vs' o3 jm b g p7 p8,tm,n'⟩:=by
 obtain⟨n',hn',e1⟩:=zbs rows hw sn hsn ls js n hls hjs FK vp (hD.mono hhi) g hgF hg2
 have lg:(z00 rows sn g).length<=26:=by
  unfold z00
  rw[i9]
  exact C1 (D5 _ _) (z38 g.2)
 unfold inL
 have hi:Q8 (Z1 z0k [(y0 0),(y0 1),(y0 5),(y0 6)]) ⟨lwS (.dct js (FK.map kd) vp) (.lst ls (sn.map .int)) jw F vs o3 jm b g o7 o8,tm,n⟩= .ok kLst ⟨lwS (.dct js (FK.map kd) vp) (.lst ls (sn.map .int)) jw F vs o3 jm b g o7 o8,some (.lst n (gsD (z00 rows sn g)))::tm,n'⟩:=z0G (by
  unfold lwS
  left
  rw[e1]
  left)
 rw[z7w,hi,z4k]
 obtain⟨s',e,vs',p7,p8,hV',rfl⟩:=U7 (P:=λt s=> ∃(vs':List D) (p7 p8:Option D),GV RL (putF F c (((z00 rows sn g).take t).map (·.2))) vs'/\s=⟨lwS (.dct js (FK.map kd) vp) (.lst ls (sn.map .int)) jw (putF F c (((z00 rows sn g).take t).map (·.2))) vs' o3 jm b g p7 p8,some (.lst n (gsD (z00 rows sn g)))::tm,n'⟩) (l:=n) (ds:=gsD (z00 rows sn g)) (g:= .tp [(.nm 7),(.nm 8)]) (tm:=tm) (b:=zhy)
  (by rintro t s ⟨_,_,_,_,rfl⟩;rfl) (by
   rintro t d hd s ⟨vs',p7,p8,hV',rfl⟩
   unfold gsD at hd
   rw[List.getElem?_map] at hd
   cases hx:(z00 rows sn g)[t]? with
   |none=>rw[hx] at hd;cases hd
   |some x=>
    rw[hx] at hd
    cases hd
    obtain⟨A,hA⟩:=z4q (c:=c) (gs:=((z00 rows sn g).take t).map (·.2)) (F:=F)
    have hl:=z6X (c:=c) (gs:=((z00 rows sn g).take t).map (·.2)) (F:=F)
    rw[i9,B6] at hl
    have hmem:(g,c)∈putF F c (((z00 rows sn g).take t).map (·.2)):=by rw[hA];exact i8 _ hg
    have hb':b<=(putF F c (((z00 rows sn g).take t).map (·.2))).length:=by rw[hA,m5];lia
    obtain⟨vs2,hV2,e⟩:=ze4 (.dct js (FK.map kd) vp) (.lst ls (sn.map .int)) jw jm b n' _ vs' hV' (ze5 hn) (by lia) hb' g x.2 c hmem x.1 o3 hwm (λq d hq=>z9H hD (by lia) (.inr (by lia))) (λq d hq=>W9 (by lia)) h3 (some (.lst n (gsD (z00 rows sn g)))::tm) (λq d hq=>by
     rw[Z0,ht q d hq,l6,z09 (show n≠q by lia),rpL_id _ λj hj=>by rw[zbr] at hj;cases hj])
    refine⟨_,rfl,_,e,vs2,some (.int x.1),some (gD x.2), ?_, ?_⟩
    .rw[C3,hx,B9,t8,z6W];exact hV2
    .rw[C3,hx,B9,t8,z6W];rfl) (z00 rows sn g).length 0 ⟨lwS (.dct js (FK.map kd) vp) (.lst ls (sn.map .int)) jw F vs o3 jm b g o7 o8,some (.lst n (gsD (z00 rows sn g)))::tm,n'⟩ (by simp[gsD]) ⟨vs,o7,o8,hV,rfl⟩
 dsimp only
 rw[show kLst.len (some (.lst n (gsD (z00 rows sn g)))::tm)=(z00 rows sn g).length by show(gsD (z00 rows sn g)).length=_;simp[gsD],e,px1]
 have el:(gsD (z00 rows sn g)).length=(z00 rows sn g).length:=by simp[gsD]
 rw[el,B0 (i7 _)] at hV'⊢
 exact⟨vs',p7,p8,n',by lia,hV',rfl⟩
def z5r{gl:Sg->List Sg}{t i:Nat}{F:Fd}:runF' gl (t+1) i F=proc gl (runF' gl t i F) (i+t):=by
 rw[z35];rfl
noncomputable def lvB:MS:=(Z3 (Y5 (.nm 4) (mCB [] lstM))
 (Z3 (z01 (Q8 (y0 3)) (.tp [(.nm 5),(.nm 6)]) inL)
 (Y5 (.nm 3) (y0 4))))
def zbt(rows:List Z5)(hw: ∀r∈rows,Wf r)(hr:rows.length<=40)(sn:List Int)(hsn:sn.length<=24)(ls js n:Nat)(FK:List (List Int))(vp:List D)(hFK: ∀W,W∈FK↔G1 rows W=true)(jw je hi0:Nat)(hD:DV rows (js+1) hi0 FK vp)(hjw:hi0<=jw)(hsw:ls<hi0)(hkw:js<hi0)(hje:jw<je)(hen:je<n)(i:Nat)(vs:List D)(hV:GV RL (runF' (gl rows sn) i 0 F0) vs)(hi:i<=(runF' (gl rows sn) i 0 F0).length)(o4 o5 o6 o7 o8:Option D)(tm:List (Option D))(ht: ∀q d,jw<=q->rpO (pl q d) tm=tm):
 ∃vs' p5 p6 p7 p8 n',n<n'/\GV RL (runF' (gl rows sn) (runF' (gl rows sn) i 0 F0).length 0 F0) vs'/\lvB ⟨[some (.dct js (FK.map kd) vp),some (.lst ls (sn.map .int)),some (.dct jw (ksF (runF' (gl rows sn) i 0 F0)) vs),some (.lst je (foD ((runF' (gl rows sn) i 0 F0).drop i))),o4,o5,o6,o7,o8],tm,n⟩= .nx ⟨[some (.dct js (FK.map kd) vp),some (.lst ls (sn.map .int)),some (.dct jw (ksF (runF' (gl rows sn) (runF' (gl rows sn) i 0 F0).length 0 F0)) vs'),some (.lst n (foD ((runF' (gl rows sn) (runF' (gl rows sn) i 0 F0).length 0 F0).drop (runF' (gl rows sn) i 0 F0).length))),some (.lst n (foD ((runF' (gl rows sn) (runF' (gl rows sn) i 0 F0).length 0 F0).drop (runF' (gl rows sn) i 0 F0).length))),p5,p6,p7,p8],tm,n'⟩:=by
 generalize hF:runF' (gl rows sn) i 0 F0=F at*
 have runE: ∀t,runF' (gl rows sn) t i F=runF' (gl rows sn) (i+t) 0 F0:=λt=>by rw[z35,hF,F6]
 have eN:runF' (gl rows sn) (F.length -i) i F=runF' (gl rows sn) F.length 0 F0:=by rw[runE,show i+(F.length -i)=F.length by lia]
 unfold lvB
 left
 rw[z0G (l:=je) (ds:=foD (F.drop i)) (σ:=[some (.dct js (FK.map kd) vp),some (.lst ls (sn.map .int)),some (.dct jw (ksF F) vs),some (.lst je (foD (F.drop i))),some (.lst n []),o5,o6,o7,o8]) (tm:=tm) (n:=n+1) (by left),z4k]
 obtain⟨s',e,vs',p5,p6,p7,p8,m,hm,hV',rfl⟩:=U7 (P:=λt s=> ∃(vs':List D) (p5 p6 p7 p8:Option D) (m:Nat),n+1<=m/\GV RL (runF' (gl rows sn) t i F) vs'/\s=⟨[some (.dct js (FK.map kd) vp),some (.lst ls (sn.map .int)),some (.dct jw (ksF (runF' (gl rows sn) t i F)) vs'),some (.lst je (foD (F.drop i))),some (.lst n (foD ((runF' (gl rows sn) t i F).drop F.length))),p5,p6,p7,p8],some (.lst je (foD (F.drop i)))::tm,m⟩) (l:=je) (ds:=foD (F.drop i)) (g:= .tp [(.nm 5),(.nm 6)]) (tm:=tm) (b:=inL)
  (by rintro t s ⟨_,_,_,_,_,_,_,_,rfl⟩;rfl) (by
   rintro t d hd s ⟨vs',p5,p6,p7,p8,m,hm,hV',rfl⟩
   unfold foD at hd
   rw[List.getElem?_map,List.getElem?_drop] at hd
   cases hx:F[i+t]? with
   |none=>rw[hx] at hd;cases hd
   |some q=>
    rw[hx] at hd
    cases hd
    obtain⟨A,hA⟩:=z6c (gl:=gl rows sn) t i F
    have hlt:i+t<F.length:=(List.getElem?_eq_some_iff.mp hx).1
    have hq:(runF' (gl rows sn) t i F)[i+t]? =some q:=by rw[hA,List.getElem?_append_left hlt];exact hx
    obtain⟨h1,h2⟩:=zck hw (sn:=sn) (i+t)
    have hb:=z36 hw hr hsn (i+t)
    rw[<-runE] at h1 h2
    have hb:(runF' (gl rows sn) t i F).length<=5000:=by rw[runE];exact hb
    have ho:=h2 _ (List.mem_of_getElem? hq)
    have hs:=z1B hw ho.2
    obtain⟨vs2,q7,q8,m',hm',hV2,e⟩:=zh7 rows hw sn (by lia) ls js m (by lia) (by lia) FK vp hi0 (by lia) hD jw n F.length hjw (by lia) (by lia) (by lia) (by lia) (by lia) (by lia) (by lia) (by lia) _ vs' hV' h1 (by lia) (by rw[hA,m5];lia) q.1 q.2 (List.mem_of_getElem? hq) ((hFK _).mpr ho.2) (by lia) (some (.lst je (foD (F.drop i)))) p7 p8 (λz d hz=>by rw[l6,z6g (by lia)]) (some (.lst je (foD (F.drop i)))::tm) (λz d hz=>by rw[Z0,l6,z6g (by lia),ht z d (by lia)])
    have epr:proc (gl rows sn) (runF' (gl rows sn) t i F) (i+t)=putF (runF' (gl rows sn) t i F) q.2 (gl rows sn q.1):=by
     unfold proc;rw[hq]
    refine⟨_,rfl,_,e,vs2,some (.int q.1.1),some (.tup (q.1.2.map .int)),q7,q8,m',by lia, ?_, ?_⟩
    .rw[z5r,epr];exact hV2
    .rw[z5r,epr];rfl) (F.length -i) 0 ⟨[some (.dct js (FK.map kd) vp),some (.lst ls (sn.map .int)),some (.dct jw (ksF F) vs),some (.lst je (foD (F.drop i))),some (.lst n []),o5,o6,o7,o8],some (.lst je (foD (F.drop i)))::tm,n+1⟩ (by simp[foD]) ⟨vs,o5,o6,o7,o8,n+1,i7 _,hV,by simp[runF',foD]⟩
 dsimp only
 have el:(foD (F.drop i)).length=F.length -i:=by simp[foD]
 rw[show kLst.len (some (.lst je (foD (F.drop i)))::tm)=F.length -i from el,e,px1]
 rw[el,eN] at hV'⊢
 left
 exact⟨vs',p5,p6,p7,p8,m,by lia,hV',rfl⟩
def z6Y{i:Int}:Gd (.int i):=⟨rfl,by simp[er,PyData.canLay0]⟩
def z1W:GdL []:=⟨rfl,rfl⟩
theorem z4w: ∀ns:List Int,GdL (ns.map D.int)
 |[]=>z1W
 |n::ns=>GdL.cons.mpr ⟨z6Y,z4w ns⟩
def zj8(g:Sg):Gd (gD g):=Gd.tup.mpr (GdL.cons.mpr ⟨z6Y,GdL.cons.mpr ⟨Gd.tup.mpr (z4w g.2),z1W⟩⟩)
theorem zcl: ∀F:Fd,GdL (foD F)
 |[]=>z1W
 |q::F=>GdL.cons.mpr ⟨zj8 q.1,zcl F⟩
def ze6{a m:Nat}{F:Fd}:neD (.lst a (foD F)) (.lst m []) s= .ok (.bool (!F.isEmpty)) s:=by
 have g:=Gd.lst (l:=a).mpr (zcl F)
 have g0:(er (.lst m [])).canLay0=true/\Mi.plain (.lst m [])=true:=⟨rfl,rfl⟩
 have d0:(er (.lst m [])).depth<=2:=by simp[er,erL,PyData.depth,PyData.depthAll]
 rw[zhw (by
  erw[eqC,g.1,g.2,g0.1,g0.2,P4,F3,decide_eq_true_eq]
  have:=T9 (er (.lst a (foD F))).depth (er (.lst m [])).depth
  lia)]
 congr 2
 cases F with
 |nil=>rfl
 |cons c cs=>rfl
def z6h(rows:List Z5)(hw: ∀r∈rows,Wf r)(hr:rows.length<=40)(sn:List Int)(hsn:sn.length<=24)(ls js:Nat)(FK:List (List Int))(vp:List D)(hFK: ∀W,W∈FK↔G1 rows W=true)(jw hi0:Nat)(hD:DV rows (js+1) hi0 FK vp)(hjw:hi0<=jw)(hsw:ls<hi0)(hkw:js<hi0)(tm:List (Option D))(ht: ∀q d,jw<=q->rpO (pl q d) tm=tm)(N:Nat)(hN:N<=5000)(hend:(runF' (gl rows sn) N 0 F0).length=N)(hgo: ∀i,i<N->i<(runF' (gl rows sn) i 0 F0).length):
 ∀(d i fuel:Nat),N -i<=d->i<=N->d<fuel->∀(je n:Nat) (vs:List D) (o4 o5 o6 o7 o8:Option D),jw<je->je<n->GV RL (runF' (gl rows sn) i 0 F0) vs->
 ∃vs' p3 p4 p5 p6 p7 p8 n',n<=n'/\GV RL (runF' (gl rows sn) N 0 F0) vs'/\Q0 (G7 (y2 (y0 3) (mCB [] lstM) neD)) lvB fuel ⟨[some (.dct js (FK.map kd) vp),some (.lst ls (sn.map .int)),some (.dct jw (ksF (runF' (gl rows sn) i 0 F0)) vs),some (.lst je (foD ((runF' (gl rows sn) i 0 F0).drop i))),o4,o5,o6,o7,o8],tm,n⟩= .nx ⟨[some (.dct js (FK.map kd) vp),some (.lst ls (sn.map .int)),some (.dct jw (ksF (runF' (gl rows sn) N 0 F0)) vs'),p3,p4,p5,p6,p7,p8],tm,n'⟩:=by
 intro d
 have ec: ∀(i je n:Nat) (vs:List D) (o4 o5 o6 o7 o8:Option D),G7 (y2 (y0 3) (mCB [] lstM) neD) ⟨[some (.dct js (FK.map kd) vp),some (.lst ls (sn.map .int)),some (.dct jw (ksF (runF' (gl rows sn) i 0 F0)) vs),some (.lst je (foD ((runF' (gl rows sn) i 0 F0).drop i))),o4,o5,o6,o7,o8],tm,n⟩= .ok (!((runF' (gl rows sn) i 0 F0).drop i).isEmpty) ⟨[some (.dct js (FK.map kd) vp),some (.lst ls (sn.map .int)),some (.dct jw (ksF (runF' (gl rows sn) i 0 F0)) vs),some (.lst je (foD ((runF' (gl rows sn) i 0 F0).drop i))),o4,o5,o6,o7,o8],tm,n+1⟩:=λi je n vs o4 o5 o6 o7 o8=>by
  left
  rw[ze6]
  left
 induction d with
 |zero=>
  intro i fuel hi hiN hf je n vs o4 o5 o6 o7 o8 h1 h2 hV
  have hi:i=N:=by lia
  subst hi
  obtain⟨m,rfl⟩: ∃m,fuel=m+1:=⟨fuel - 1,by lia⟩
  have e:((runF' (gl rows sn) i 0 F0).drop i).isEmpty=true:=by rw[D1 (by lia)];rfl
  refine⟨vs,some (.lst je (foD ((runF' (gl rows sn) i 0 F0).drop i))),o4,o5,o6,o7,o8,n+1,by lia,hV, ?_⟩
  unfold Q0
  erw[z0K,ec,e,E5]
  rfl
 |succ d ih=>
  intro i fuel hi hiN hf je n vs o4 o5 o6 o7 o8 h1 h2 hV
  obtain⟨m,rfl⟩: ∃m,fuel=m+1:=⟨fuel - 1,by lia⟩
  rcases T3 hiN with hlt|heq
  .have hgt:=hgo i hlt
   have hmono:=z6R (gl:=gl rows sn) (F:=F0) (O1 hlt)
   have e:((runF' (gl rows sn) i 0 F0).drop i).isEmpty=false:=by
    cases q:(runF' (gl rows sn) i 0 F0).drop i with
    |nil=>have:=List.drop_eq_nil_iff.mp q;lia
    |cons _ _=>rfl
   obtain⟨vs',p5,p6,p7,p8,n',hn',hV',e1⟩:=zbt rows hw hr sn hsn ls js (n+1) FK vp hFK jw je hi0 hD hjw hsw hkw h1 (by lia) i vs hV (by lia) o4 o5 o6 o7 o8 tm ht
   obtain⟨vs2,q3,q4,q5,q6,q7,q8,n2,hn2,hV2,e2⟩:=ih (runF' (gl rows sn) i 0 F0).length m (by lia) (by lia) (by lia) (n+1) n' vs' (some (.lst (n+1) (foD ((runF' (gl rows sn) (runF' (gl rows sn) i 0 F0).length 0 F0).drop (runF' (gl rows sn) i 0 F0).length)))) p5 p6 p7 p8 (by lia) hn' hV'
   refine⟨vs2,q3,q4,q5,q6,q7,q8,n2,by lia,hV2, ?_⟩
   unfold Q0
   erw[z0K,ec,e,F4]
   show(match lvB ⟨[some (.dct js (FK.map kd) vp),some (.lst ls (sn.map .int)),some (.dct jw (ksF (runF' (gl rows sn) i 0 F0)) vs),some (.lst je (foD ((runF' (gl rows sn) i 0 F0).drop i))),o4,o5,o6,o7,o8],tm,n+1⟩ with
    | .nx s'=>Q0 (G7 (y2 (y0 3) (mCB [] lstM) neD)) lvB m s'
    | .ct s'=>Q0 (G7 (y2 (y0 3) (mCB [] lstM) neD)) lvB m s'
    | .bk s'=> .nx s'
    | .rt d s'=> .rt d s'
    | .ex d s'=> .ex d s'
    | .no=> .no)=_
   rw[e1]
   exact e2
  .subst heq
   have e:((runF' (gl rows sn) i 0 F0).drop i).isEmpty=true:=by rw[D1 (by lia)];rfl
   refine⟨vs,some (.lst je (foD ((runF' (gl rows sn) i 0 F0).drop i))),o4,o5,o6,o7,o8,n+1,by lia,hV, ?_⟩
   unfold Q0
   erw[z0K,ec,e,E5]
   rfl
def zbu(rows:List Z5)(hw: ∀r∈rows,Wf r)(hr:rows.length<=40)(sn:List Int)(hsn:sn.length<=24)(ls js n:Nat)(hs:ls<n)(hj:js<n)(FK:List (List Int))(vp:List D)(hFK: ∀W,W∈FK↔G1 rows W=true)(hD:DV rows (js+1) n FK vp)(N:Nat)(hN:N<=5000)(hend:(runF' (gl rows sn) N 0 F0).length=N)(hgo: ∀i,i<N->i<(runF' (gl rows sn) i 0 F0).length):
 ∃vs n',n<n'/\GV RL (runF' (gl rows sn) N 0 F0) vs/\z1x [.dct js (FK.map kd) vp, .lst ls (sn.map .int)] n= .ok (.dct n (ksF (runF' (gl rows sn) N 0 F0)) vs) [.dct js (FK.map kd) vp, .lst ls (sn.map .int)] n':=by
 have fX: ∀q d,n<=q->rp (pl q d) (.dct js (FK.map kd) vp)= .dct js (FK.map kd) vp:=λq d h=>z9H hD (by lia) (.inr h)
 have fL: ∀q d,n<=q->rp (pl q d) (.lst ls (sn.map .int))= .lst ls (sn.map .int):=λq d h=>W9 (by lia)
 unfold z1x
 have e0:z4j=(Z3 (Y5 (.nm 2) (v3 (mCB [(mC (.int 0)),(mCB [] Q1)] Q1) (mC (.int 0))))
  (Z3 (Y5 (.nm 3) (mCB [(mCB [(mC (.int 0)),(mCB [] Q1)] Q1)] lstM))
  (Z3 (z18 (λ_=>100000) (G7 (y2 (y0 3) (mCB [] lstM) neD)) lvB)
  (z0e (y0 2))))):=rfl
 rw[e0]
 left
 have ed:v3 (mCB [(mC (.int 0)),(mCB [] Q1)] Q1) (mC (.int 0)) ⟨[some (.dct js (FK.map kd) vp),some (.lst ls (sn.map .int)),none,none,none,none,none,none,none],[some (.dct js (FK.map kd) vp),some (.lst ls (sn.map .int))],n⟩= .ok (.dct n (ksF F0) [.int 0]) ⟨[some (.dct js (FK.map kd) vp),some (.lst ls (sn.map .int)),none,none,none,none,none,none,none],[some (.dct js (FK.map kd) vp),some (.lst ls (sn.map .int))],n+1⟩:=by
  have e:v3 (mCB [(mC (.int 0)),(mCB [] Q1)] Q1) (mC (.int 0)) ⟨[some (.dct js (FK.map kd) vp),some (.lst ls (sn.map .int)),none,none,none,none,none,none,none],[some (.dct js (FK.map kd) vp),some (.lst ls (sn.map .int))],n⟩= .ok (.dct n (ksF F0) [.int 0]) ⟨rpO (pl n (.dct n (ksF F0) [.int 0])) [some (.dct js (FK.map kd) vp),some (.lst ls (sn.map .int)),none,none,none,none,none,none,none],rpO (pl n (.dct n (ksF F0) [.int 0])) [some (.dct js (FK.map kd) vp),some (.lst ls (sn.map .int))],n+1⟩:=by
   unfold v3
   rfl
  rw[e]
  erw[Z0,Z7,l6,E1,fX n _ (i7 _),fL n _ (i7 _)]
 rw[ed]
 left
 rw[z9t]
 obtain⟨vs',p3,p4,p5,p6,p7,p8,n',hn',hV,e⟩:=z6h rows hw hr sn hsn ls js FK vp hFK n n hD (i7 _) hs hj [some (.dct js (FK.map kd) vp),some (.lst ls (sn.map .int))] (λq d hq=>by erw[Z0,Z7,l6,fX q d hq,fL q d hq]) N hN hend hgo N 0 100000 (by lia) (C0 _) (by lia) (n+1) (n+1+1) [.int 0] none none none none none (by lia) (by lia) ⟨.int 0,[],rfl,rfl,rfl,rfl⟩
 have es:(⟨[some (.dct js (FK.map kd) vp),some (.lst ls (sn.map .int)),some (.dct n (ksF F0) [.int 0]),some (.lst (n+1) [.tup [.int 0, .tup []]]),none,none,none,none,none],[some (.dct js (FK.map kd) vp),some (.lst ls (sn.map .int))],n+1+1⟩:Stt)=⟨[some (.dct js (FK.map kd) vp),some (.lst ls (sn.map .int)),some (.dct n (ksF (runF' (gl rows sn) 0 0 F0)) [.int 0]),some (.lst (n+1) (foD ((runF' (gl rows sn) 0 0 F0).drop 0))),none,none,none,none,none],[some (.dct js (FK.map kd) vp),some (.lst ls (sn.map .int))],n+1+1⟩:=rfl
 rw[es,e]
 refine⟨vs',n',by lia,hV, ?_⟩
 left
noncomputable def stD(q:Sg×Nat):D:= .tup [.int q.1.1, .tup (q.1.2.map .int), .int q.2]
noncomputable def stL(F:Fd):List D:=F.map stD
theorem z9Q: ∀a b:List Int,(So.ltL (a.map PyData.int) (b.map PyData.int)).isSome=true
 |[],b=>by simp[So.ltL]
 |x::a,[]=>by simp[So.ltL]
 |x::a,y::b=>by
  show(So.ltL (.int x::a.map PyData.int) (.int y::b.map PyData.int)).isSome=true
  rw[So.ltL]
  split
  .exact z9Q a b
  .simp[So.ltD]
def z5s(q:Sg×Nat):er (stD q)= .tuple [.int q.1.1, .tuple (q.1.2.map .int), .int q.2]:=by
 erw[stD,er,erL,z4n]
def zj9(p q:Sg×Nat):(So.ltD (er (stD p)) (er (stD q))).isSome=true:=by
 rw[z5s,z5s]
 erw[So.ltD,So.ltL]
 split
 .split
  .split<;>rfl
  .exact z9Q _ _
 .rfl
def z9R(q:Sg×Nat):Gd (stD q):=Gd.tup.mpr (GdL.cons.mpr ⟨z6Y,GdL.cons.mpr ⟨Gd.tup.mpr (z4w q.1.2),GdL.cons.mpr ⟨z6Y,z1W⟩⟩⟩)
theorem zcm: ∀F:Fd,GdL (stL F)
 |[]=>z1W
 |q::F=>GdL.cons.mpr ⟨z9R q,zcm F⟩
def zbv(F:Fd):labsL (stL F)=[]:=W5 λd hd=>by
 obtain⟨q,_,rfl⟩:=m8.mp hd
 erw[stD,Mi.labs,labsL,Z2,l0]
def ze7(F:Fd):z8W (erL (stL F))=true:=by
 have mem: ∀{F:Fd} {d:PyData},d∈erL (stL F)->∃p∈F,d=er (stD p):=by
  intro F
  induction F with
  |nil=>intro d h;simp[stL,erL] at h
  |cons p F ih=>
   intro d h
   have h':d∈er (stD p)::erL (stL F):=h
   rcases l7.mp h' with rfl|h'
   .exact⟨p,l5,rfl⟩
   .obtain⟨q,hq,e⟩:=ih h'
    exact⟨q,i5 _ hq,e⟩
 unfold z8W
 erw[A7,M8,decide_eq_true_eq]
 refine⟨λd hd=> ?_,λd hd e he=> ?_⟩
 .obtain⟨p,hp,rfl⟩:=mem hd
  refine⟨⟨by rw[z5s];rfl,(z9R p).2⟩, ?_⟩
  have t:(er (tI p.1.2)).depth<=60:=by rw[z7C];have:=zbL p.1.2;lia
  have: ∀ns:List Int,PyData.depthAll (ns.map PyData.int)<=1:=λns=>by
   induction ns with
   |nil=>simp[PyData.depthAll]
   |cons n ns ih=>erw[i6,PyData.depthAll,PyData.depth];lia
  have h1:=this p.1.2
  rw[z5s]
  erw[PyData.depth,PyData.depthAll]
  lia
 .obtain⟨p,hp,rfl⟩:=mem hd
  obtain⟨q,hq,rfl⟩:=mem he
  exact zj9 p q
def zcn{l n:Nat}:zbZ [.lst l (stL F)] ⟨σ,tm,n⟩= .ok (.lst n (z1E (stL F))) ⟨σ,tm,n+1⟩:=by
 erw[zbZ]
 rw[if_pos (by rw[(zcm F).1,ze7,zbv];rfl)]
 rfl
def z7I{K:ItK}{g:Tg}{me:M D}{gf:D->D}{fr:D->List (Option D)}{cap:List (Option D)}{k:Nat}{items:List D}{its σ0 tm0:List (Option D)}{ol:Nat}(hk:its.length=K.k)(hol:σ0.length=ol)(hz:items.length<sizeLine)(hat: ∀i rest,K.at' i (its++rest)=some items[i]?)
 (has: ∀d∈items,∀pre:List (Option D),pre.length=k->asg g d (pre++cap)=some (fr d++cap)) (hfr: ∀d∈items,(fr d).length=k)
 (hme: ∀d∈items,∀tm n,∃n',n<=n'/\me ⟨fr d++cap,tm,n⟩= .ok (gf d) ⟨fr d++cap,tm,n'⟩):
 ∀(f:Nat) (i:Nat) (acc:List D) (pre:List (Option D)) (n:Nat),i+f=items.length->acc.length=i->pre.length=k->∃n',n<=n'/\v0 K g (rt true) me ol f i acc.length ⟨pre++cap,(acc.reverse.map some)++(σ0++(its++tm0)),n⟩= .ok (.lst n' (acc++(items.drop i).map gf)) ⟨σ0,tm0,n'+1⟩:=by
 intro f
 induction f with
 |zero=>
  intro i acc pre n hi ha hp
  have hi:i=items.length:=by lia
  refine⟨n,i7 _, ?_⟩
  have l1:(acc.reverse.map some).length=acc.length:=by simp
  have e1:((acc.reverse.map some)++(σ0++(its++tm0))).drop (acc.length+ol)=its++tm0:=by
   rw[<-A5];exact V6 _ _ _ (by simp[hol])
  have e0:K.at' i (its++tm0)=some none:=by
   rw[hat,List.getElem?_eq_none (show items.length<=i by lia)]
  unfold v0
  erw[e1,e0]
  rw[z0Y _ _ _ l1]
  have e2:(acc.reverse.map some).reverse=acc.map some:=by simp
  rw[e2,z0x]
  erw[Res.ok.injEq,Stt.mk.injEq,and_true,D1 (show items.length<=i by lia),A2,l0,true_and]
  constructor
  .rw[V6 _ _ _ l1,z0Y _ _ _ hol]
  .have:((acc.reverse.map some)++(σ0++(its++tm0))).drop (acc.length+ol+K.k)=(((acc.reverse.map some)++(σ0++(its++tm0))).drop (acc.length+ol)).drop K.k:=by rw[M7]
   rw[this,e1]
   exact V6 _ _ _ hk
 |succ f ih=>
  intro i acc pre n hi ha hp
  have hlt:i<items.length:=by lia
  have hm:=B3 hlt
  have e1:((acc.reverse.map some)++(σ0++(its++tm0))).drop (acc.length+ol)=its++tm0:=by
   rw[<-A5];exact V6 _ _ _ (by simp[hol])
  have e0:K.at' i (its++tm0)=some (some items[i]):=by
   rw[hat,List.getElem?_eq_getElem hlt]
  rw[L4 hlt,i6]
  obtain⟨n2,hn2,h2⟩:=hme items[i] hm ((acc.reverse.map some)++(σ0++(its++tm0))) n
  obtain⟨n3,hn3,h3⟩:=ih (i+1) (acc++[gf items[i]]) (fr items[i]) n2 (by lia) (by simp;lia) (hfr _ hm)
  refine⟨n3,by lia, ?_⟩
  unfold v0
  erw[e1,e0,has _ hm pre hp,rt,if_pos (show acc.length<sizeLine by lia),h2]
  erw[m5,A3,B2,F6,E3,C2,D7,A6,t8,i6,A2,B7,A5] at h3
  exact h3
def z1C{K:ItK}{g:Tg}{me:M D}{gf:D->D}{fr:D->List (Option D)}{k:Nat}{items:List D}{its:List (Option D)}{ix:List Nat}{n:Nat}(hc:mi s= .ok K ⟨σ,its++tm,n⟩)(hk:its.length=K.k)(hz:items.length<sizeLine)(hat: ∀i rest,K.at' i (its++rest)=some items[i]?)(hlen:K.len (its++tm)=items.length)
 (has: ∀d∈items,∀pre:List (Option D),pre.length=k->asg g d (pre++ix.map λi=>(σ[i]?).getD none)=some (fr d++ix.map λi=>(σ[i]?).getD none)) (hfr: ∀d∈items,(fr d).length=k)
 (hme: ∀d∈items,∀tm n,∃n',n<=n'/\me ⟨fr d++ix.map λi=>(σ[i]?).getD none,tm,n⟩= .ok (gf d) ⟨fr d++ix.map λi=>(σ[i]?).getD none,tm,n'⟩):
 ∃n',n<=n'/\J1 mi g (rt true) me k ix s= .ok (.lst n' (items.map gf)) ⟨σ,tm,n'+1⟩:=by
 obtain⟨n',h2,h3⟩:=z7I (K:=K) (me:=me) (gf:=gf) (fr:=fr) (cap:=ix.map λi=>(σ[i]?).getD none) (k:=k) (σ0:=σ) (tm0:=tm) hk rfl hz hat has hfr hme items.length 0 [] (m9 k none) n (by simp) (by simp) (by simp)
 refine⟨n',h2, ?_⟩
 unfold J1
 erw[bd,hc,hlen]
 erw[A2,D7,A6,B2,L3] at h3
 exact h3
noncomputable def itF:Fd->List D->List D
 |q::F,v::vs=> .tup [gD q.1,v]::itF F vs
 |_,_=>[]
theorem zco: ∀{F:Fd} {vs:List D} {i:Nat},vs.length=F.length->zgd i (ksF F) vs=(itF F vs)[i]?
 |[],[],i,_=>by simp[zgd,ksF,itF]
 |[],_::_,_,h=>by simp at h
 |_::_,[],_,h=>by simp at h
 |q::F,v::vs,0,_=>rfl
 |q::F,v::vs,i+1,h=>zco (F:=F) (vs:=vs) (i:=i) (by simpa using h)
theorem z6i: ∀{F:Fd} {vs:List D},vs.length=F.length->(itF F vs).length=F.length
 |[],[],_=>rfl
 |[],_::_,h=>by simp at h
 |_::_,[],h=>by simp at h
 |q::F,v::vs,h=>by erw[itF,A3,z6i (F:=F) (vs:=vs) (by simpa using h)]
theorem GV.len{R:Sg×Nat->D->Prop}: ∀{F:Fd} {vs:List D},GV R F vs->vs.length=F.length
 |[],vs,h=>by
  have h:vs=[]:=h
  subst h;rfl
 |q::F,vs,⟨v,r,e,_,_,hr⟩=>by rw[e,A3,A3,GV.len hr]
noncomputable def frP:D->List (Option D)
 | .tup [.tup [a,b],v]=>[some v,some a,some b]
 |_=>[none,none,none]
noncomputable def gfP:D->D
 | .tup [.tup [a,b], .tup (c::_)]=> .tup [a,b,c]
 |_=> .non
theorem zh8: ∀{F:Fd} {vs:List D},GV RP F vs->(∀d∈itF F vs,∃(q:Sg) (x:Int) (y:D×D),d= .tup [gD q, .tup [.int x,y.1,y.2]])/\(itF F vs).map gfP=stL F
 |[],vs,h=>by
  have h:vs=[]:=h
  subst h
  exact⟨(λ_ h=>nomatch h),rfl⟩
 |q::F,vs,⟨v,r,e,⟨x,y,hv⟩,_,hr⟩=>by
  subst e
  subst hv
  obtain⟨h1,h2⟩:=zh8 hr
  refine⟨λd hd=> ?_, ?_⟩
  .rcases l7.mp hd with rfl|hd
   .exact⟨q.1,q.2,(x,y),rfl⟩
   .exact h1 d hd
  .show gfP _::(itF F r).map gfP=_
   rw[h2];rfl
def zh9(rows:List Z5)(hw: ∀r∈rows,Wf r)(hr:rows.length<=40)(sn:List Int)(hsn:sn.length<=24)(l ls n:Nat)(hl:l<n)(hs:ls<n)(N:Nat)(hN:N<=5000)(hend:(runF' (gl rows sn) N 0 F0).length=N)(hgo: ∀i,i<N->i<(runF' (gl rows sn) i 0 F0).length):
 ∃n',n<n'/\j7 [.lst l (rows.map rD), .lst ls (sn.map .int)] n= .ok (.lst n' (z1E (stL (runF' (gl rows sn) N 0 F0)))) [.lst l (rows.map rD), .lst ls (sn.map .int)] (n'+1):=by
 obtain⟨vs,n1,hn1,hV,e1⟩:=ze3 rows hw hr sn hsn l ls n hl hs N hN hend hgo
 generalize runF' (gl rows sn) N 0 F0=F at*
 unfold j7 V4
 left
 rw[e1]
 left
 obtain⟨p1,p2⟩:=zh8 hV
 obtain⟨n2,hn2,e2⟩:=z1C (mi:=z5U (y0 2)) (K:=zdt) (g:= .tp [(.tp [(.nm 1),(.nm 2)]),(.nm 0)]) (me:=(mCB [(y0 1),(y0 2),(y2 (y0 0) (mC (.int 0)) ixD)] Q1)) (gf:=gfP) (fr:=frP) (k:=3) (items:=itF F vs) (its:=[some (.fdc (ksF F) vs)]) (ix:=[]) (s:=⟨[some (.lst l (rows.map rD)),some (.lst ls (sn.map .int)),some (.dct n (ksF F) vs)],[some (.lst l (rows.map rD)),some (.lst ls (sn.map .int))],n1⟩) (σ:=[some (.lst l (rows.map rD)),some (.lst ls (sn.map .int)),some (.fdc (ksF F) vs)]) (tm:=[some (.lst l (rows.map rD)),some (.lst ls (sn.map .int))]) (n:=n1) (by
  unfold z5U
  left
  rw[if_pos ⟨z7G F,hV.labs⟩]
  erw[z0U,Z0,Z7,l6,Z8 (show l≠n by lia),W9 (show ls≠n by lia),z5p]) rfl (by rw[z6i hV.len,zl];lia) (λi rest=>by
  show some (zgd i (ksF F) vs)=_
  rw[zco hV.len]) (by
  show(ksF F).length=_
  rw[z6i hV.len];simp[ksF]) (λd hd pre hp=>by
  obtain⟨q,x,y,rfl⟩:=p1 d hd
  match pre,hp with
  |[a,b,c],_=>rfl) (λd hd=>by
  obtain⟨q,x,y,rfl⟩:=p1 d hd
  rfl) (λd hd tm m=>by
  obtain⟨q,x,y,rfl⟩:=p1 d hd
  refine⟨m,i7 _, ?_⟩
  show(mCB [(y0 1),(y0 2),(y2 (y0 0) (mC (.int 0)) ixD)] Q1) ⟨[some (.tup [.int x,y.1,y.2]),some (.int q.1),some (.tup (q.2.map .int))],tm,m⟩=_
  left
  rfl)
 rw[e2,p2]
 left
 rw[zcn]
 exact⟨n2+1,by lia,rfl⟩
noncomputable def FdF(F:Fd)(vs:List D):D:= .fdc (ksF F) vs
noncomputable def frL:D->List (Option D)
 | .tup [a,b]=>[some a,some b]
 |_=>[none,none]
noncomputable def gfL(F:Fd)(vs:List D):D->D
 | .tup [a,b]=> .tup [a,b,((z1n (.tup [a,b])).bind (findK (ksF F) vs)).getD .non]
 |_=> .non
def zcp{F:Fd}(h:GV RL F vs)(hn:(F.map (·.1)).Nodup){q:Sg×Nat}(hq:q∈F):gfL F vs (gD q.1)=stD q/\z15 (FdF F vs) (gD q.1)=rt (.int q.2):=by
 obtain⟨v,f,r,l⟩:=h.find hn hq
 have r:v= .int q.2:=r
 subst r
 constructor
 .show D.tup [.int q.1.1, .tup (q.1.2.map .int),((z1n (gD q.1)).bind (findK (ksF F) vs)).getD .non]=_
  rw[z0C,Option.bind_some,f];rfl
 .unfold z15 FdF
  erw[rdD,if_pos (z7G F),z0C,f]
def ze8{F:Fd}(hV:GV RL F vs)(hn:(F.map (·.1)).Nodup)(hz:F.length<=5000){n:Nat}(i0:Nat)(hσ:σ[i0]? =some (some (FdF F vs)))(hm:K0 m0 s= .ok z4A ⟨σ,some (FdF F vs)::tm,n⟩):
 ∃n',n<=n'/\J1 (K0 m0) (.tp [(.nm 0),(.nm 1)]) (rt true) (mCB [(y0 0),(y0 1),(y2 (y0 2) (mCB [(y0 0),(y0 1)] Q1) z15)] Q1) 2 [i0] s= .ok (.lst n' (stL F)) ⟨σ,tm,n'+1⟩:=by
 have hmem: ∀d∈ksF F,∃q∈F,d=gD q.1:=λd hd=>by
  obtain⟨q,hq,rfl⟩:=m8.mp hd
  exact⟨q,hq,rfl⟩
 obtain⟨n',h1,h2⟩:=z1C (mi:=K0 m0) (K:=z4A) (g:= .tp [(.nm 0),(.nm 1)]) (me:=mCB [(y0 0),(y0 1),(y2 (y0 2) (mCB [(y0 0),(y0 1)] Q1) z15)] Q1) (gf:=gfL F vs) (fr:=frL) (k:=2) (items:=ksF F) (its:=[some (FdF F vs)]) (ix:=[i0]) (s:=s) (σ:=σ) (tm:=tm) (n:=n) hm rfl (by rw[zl];simp[ksF];lia) (λi rest=>rfl) rfl (λd hd pre hp=>by
  obtain⟨q,hq,rfl⟩:=hmem d hd
  match pre,hp with
  |[a,b],_=>rfl) (λd hd=>by
  obtain⟨q,hq,rfl⟩:=hmem d hd
  rfl) (λd hd tm m=>by
  obtain⟨q,hq,rfl⟩:=hmem d hd
  obtain⟨e1,e2⟩:=zcp hV hn hq
  refine⟨m,i7 _, ?_⟩
  rw[e1]
  erw[i6,A2,hσ,B5]
  show(mCB [(y0 0),(y0 1),(y2 (y0 2) (mCB [(y0 0),(y0 1)] Q1) z15)] Q1) ⟨[some (.int q.1.1),some (.tup (q.1.2.map .int)),some (FdF F vs)],tm,m⟩= .ok (stD q) ⟨[some (.int q.1.1),some (.tup (q.1.2.map .int)),some (FdF F vs)],tm,m⟩
  left
  rw[show D.tup [.int q.1.1, .tup (q.1.2.map .int)]=gD q.1 from rfl,e2]
  left
  rfl)
 refine⟨n',h1, ?_⟩
 rw[h2]
 have e:(ksF F).map (gfL F vs)=stL F:=by
  unfold ksF stL
  rw[D4]
  exact D2 λq hq=>(zcp hV hn hq).1
 rw[e]
theorem z5t{α:Type}: ∀xs:List α,X5 (xs.map λ_=>D.bool true)=some (xs.map λ_=>true)
 |[]=>rfl
 |x::xs=>by erw[i6,X5,z5t xs];rfl
def z9S{α:Type}{l:Nat}{xs:List α}:zaD [.lst l (xs.map λ_=>D.bool true)] s= .ok (.bool true) s:=by
 rw[ziK (z5t xs)]
 congr 2
 simp
def z9T(i:Int)(n:Nat):z0j [.int i] n= .ok (.bool true) [.int i] n:=by
 unfold z0j z2Z
 left
def zha(q:Sg×Nat)(hq:q.1.2.length<=100)(n:Nat): ∃n',n<=n'/\W6 [stD q] n= .ok (.bool true) [stD q] n':=by
 unfold W6 K7 stD
 left
 erw[show((3:Nat):Int)=3 from rfl,beq_self_eq_true,E5]
 left
 obtain⟨n',h,e⟩:=z1C (mi:=Q8 (y2 (mCB [(y2 (y0 0) (mC (.int 0)) ixD),(y2 (y0 0) (mC (.int 2)) ixD)] Q1) (y2 (y0 0) (mC (.int 1)) ixD) v6)) (K:=zaF) (g:= .nm 0) (me:=Z1 z0j [(y0 0)]) (gf:=λ_=> .bool true) (fr:=λd=>[some d]) (k:=1) (items:=([(q.1.1:Int),(q.2:Int)]++q.1.2).map D.int) (its:=[some (.tup (([(q.1.1:Int),(q.2:Int)]++q.1.2).map D.int))]) (ix:=[]) (s:=⟨[some (.tup [.int q.1.1, .tup (q.1.2.map .int), .int q.2])],[some (.tup [.int q.1.1, .tup (q.1.2.map .int), .int q.2])],n⟩) (σ:=[some (.tup [.int q.1.1, .tup (q.1.2.map .int), .int q.2])]) (tm:=[some (.tup [.int q.1.1, .tup (q.1.2.map .int), .int q.2])]) (n:=n) (zcg (by
  left
  rw[z3z (by rw[zl];erw[A3,B2,i9];lia)]
  rfl)) rfl (by rw[zl];erw[i9,m5,A3,B2];lia) (λi rest=>rfl) rfl (λd hd pre hp=>by
  match pre,hp with
  |[a],_=>rfl) (λd hd=>rfl) (λd hd tm m=>by
  obtain⟨i,_,rfl⟩:=m8.mp hd
  refine⟨m,i7 _, ?_⟩
  show Z1 z0j [(y0 0)] ⟨[some (.int i)],tm,m⟩= .ok (.bool true) ⟨[some (.int i)],tm,m⟩
  left
  rw[z9T]
  left)
 rw[e]
 left
 rw[show D.bool true::D.bool true::(q.1.2.map D.int).map (λ_=>D.bool true)=(([(q.1.1:Int),(q.2:Int)]++q.1.2).map D.int).map (λ_=>D.bool true) from rfl,z9S]
 exact⟨n'+1,by lia,rfl⟩
noncomputable def sbM:MS:=(Z3 (Y5 (.nm 11) (mCB [(y2 (Z1 y3 [(y0 0),(mC (.int 8))]) (mC (.int 7)) eqD)] za4))
 (J8 (J2 (y0 9) [(y2 (mCB [(y2 (y0 4) (Z1 y3 [(y0 0),(mCB [(y0 4)] U3)]) ixD),(Z1 y3 [(y0 0),(mC (.int 40))])] lstM) (y0 11) ixD)] z2B)))
noncomputable abbrev Fra(o:Option D):Prop:= ∀f:Nat->Option D,C6 (rp f) o=o
def z9U(ns:List Int):Fra (some (.tup (ns.map .int))):=λf=>by
 rw[l6,z8v _ λj hj=>by rw[show labs (.tup (ns.map D.int))=[] from Z2 ns] at hj;cases hj]
def z4x:Fra none:=λ_=>rfl
def zhb(rows:List Z5)(hw: ∀r∈rows,Wf r)(hr:rows.length<=60)(B:D)(k n:Nat)(M w:Int)(hk:k<n)(hB: ∀d,rp (pl n d) B=B): ∃(ms:List Int) (o5 o6 o7:Option D),ms≠[]/\ms.length<=300/\Fra o5/\Fra o6/\Fra o7/\
 z01 (Q8 (y0 1)) (.tp [(.nm 5),(.nm 6),(.nm 7)]) (J8 (J2 (y0 4) [(y0 6)] z25)) ⟨[some B,some (.lst k (rows.map rD)),some (.int M),some (.int w),some (.lst n [.int 0]),none,none,none,none,none,none,none],[some B,some (.lst k (rows.map rD)),some (.int M)],n+1⟩
  = .nx ⟨[some B,some (.lst k (rows.map rD)),some (.int M),some (.int w),some (.lst n (ms.map .int)),o5,o6,o7,none,none,none,none],[some B,some (.lst k (rows.map rD)),some (.int M)],n+1⟩:=by
 left
 obtain⟨s',e,ms,o5,o6,o7,rfl,g1,g2,g4,g5,g6⟩:=U7 (P:=λi s=> ∃(ms:List Int) (o5 o6 o7:Option D),s=⟨[some B,some (.lst k (rows.map rD)),some (.int M),some (.int w),some (.lst n (ms.map .int)),o5,o6,o7,none,none,none,none],some (.lst k (rows.map rD))::[some B,some (.lst k (rows.map rD)),some (.int M)],n+1⟩/\ms≠[]/\ms.length<=1+3*i/\Fra o5/\Fra o6/\Fra o7) (l:=k) (ds:=rows.map rD) (g:= .tp [(.nm 5),(.nm 6),(.nm 7)]) (tm:=[some B,some (.lst k (rows.map rD)),some (.int M)])
  (b:=J8 (J2 (y0 4) [(y0 6)] z25)) (by rintro i s ⟨ms,o5,o6,o7,rfl,_⟩;rfl) (by
   rintro i d hd s ⟨ms,o5,o6,o7,rfl,g1,g2,g4,g5,g6⟩
   rw[List.getElem?_map] at hd
   cases hr':rows[i]? with
   |none=>rw[hr'] at hd;cases hd
   |some r=>
    rw[hr'] at hd
    cases hd
    have hi:i<rows.length:=(List.getElem?_eq_some_iff.mp hr').1
    have hl:=(hw r (List.mem_of_getElem? hr')).2.2.1
    refine⟨[some B,some (.lst k (rows.map rD)),some (.int M),some (.int w),some (.lst n (ms.map .int)),some (.tup (r.1.map .int)),some (.tup (r.2.1.map .int)),some (.tup (r.2.2.map .int)),none,none,none,none],rfl, ?_⟩
    refine⟨_, ?_,ms++r.2.1,some (.tup (r.1.map .int)),some (.tup (r.2.1.map .int)),some (.tup (r.2.2.map .int)),rfl,by simp[g1],by rw[m5];lia,z9U _,z9U _,z9U _⟩
    left
    rw[z6N (by rw[zl];erw[i9];lia) (Z2 _)]
    left
    simp only[<-t8,Z8 (show k≠n by lia),W7,hB]) rows.length 0 ⟨[some B,some (.lst k (rows.map rD)),some (.int M),some (.int w),some (.lst n [.int 0]),none,none,none,none,none,none,none],some (.lst k (rows.map rD))::[some B,some (.lst k (rows.map rD)),some (.int M)],n+1⟩ (by simp) ⟨[0],none,none,none,rfl,by simp,by simp,z4x,z4x,z4x⟩
 rw[i9] at g2
 refine⟨ms,o5,o6,o7,g1,by lia,g4,g5,g6, ?_⟩
 rw[z0G (l:=k) (ds:=rows.map rD) (σ:=[some B,some (.lst k (rows.map rD)),some (.int M),some (.int w),some (.lst n [.int 0]),none,none,none,none,none,none,none]) (tm:=[some B,some (.lst k (rows.map rD)),some (.int M)]) (n:=n+1) (by left)]
 left
 rw[show kLst.len (some (.lst k (rows.map rD))::[some B,some (.lst k (rows.map rD)),some (.int M)])=rows.length by show(rows.map rD).length=_;simp,e]
 rfl
def zja(rows:List Z5)(l k n q:Nat)(c x i M w:Int)(ms ks:List Int)(o5 o6 o7 o8 o11:Option D)(hb:Bg c x)(hl:l<n)(hk:k<n)(hlk:k≠l)(hq:n+1<q)(hm:ms≠[])(lm:ms.length<=300)(lk:ks.length<=500)(f5:Fre o5)(f6:Fre o6)(f7:Fre o7)(f8:Fre o8)(f11:Fre o11): ∃(v c' x' u:Int) (q':Nat),Bg c' x'/\q<=q'/\
 sbM ⟨[some (.lst l [.int c, .int x]),some (.lst k (rows.map rD)),some (.int M),some (.int w),some (.lst n (ms.map .int)),o5,o6,o7,o8,some (.lst (n+1) (ks.map .int)),some (.int i),o11],[some (.lst l [.int c, .int x]),some (.lst k (rows.map rD)),some (.int M)],q⟩
  = .nx ⟨[some (.lst l [.int c', .int x']),some (.lst k (rows.map rD)),some (.int M),some (.int w),some (.lst n (ms.map .int)),o5,o6,o7,o8,some (.lst (n+1) ((ks++[v]).map .int)),some (.int i),some (.int u)],[some (.lst l [.int c', .int x']),some (.lst k (rows.map rD)),some (.int M)],q'⟩:=by
 have rr: ∀d,rp (pl l d) (.lst k (rows.map rD))= .lst k (rows.map rD):=λd=>Z8 hlk
 have rm: ∀d,rp (pl l d) (.lst n (ms.map .int))= .lst n (ms.map .int):=λd=>W9 (by lia)
 have rk: ∀d,rp (pl l d) (.lst (n+1) (ks.map .int))= .lst (n+1) (ks.map .int):=λd=>W9 (by lia)
 have lpos:0<ms.length:=by cases ms with|nil=>exact absurd rfl hm|cons _ _=>simp
 unfold sbM
 left
 obtain⟨q1,c1,x1,hq1,hq1',b1,e1⟩:=Q6 l c x 8 q hb (by decide) (by decide)
 rw[e1,Y4 rfl rfl rfl (λq=>by left;try erw[rr,rm,rk,f5 l,f6 l,f7 l,f8 l,f11 l];rfl) (λq=>by left;try erw[rr];rfl)]
 try (left)
 obtain⟨w,⟨hw0,hw1⟩,ew⟩:= @ziZ (q1==7)
 rw[ew]
 try (left)
 rw[z4B]
 obtain⟨q2,c2,x2,hq2,hq2',b2,e2⟩:=Q6 l c1 x1 ms.length q b1 (by lia) (by lia)
 rw[e2,Y4 rfl rfl rfl (λq=>by left;try erw[rr,rm,rk,f5 l,f6 l,f7 l,f8 l];rfl) (λq=>by left;try erw[rr,rm,rk];rfl)]
 try (left)
 obtain⟨v1,ev1⟩:=z9E hq2 hq2'
 rw[ev1]
 left
 obtain⟨v2,c3,x3,hq3,hq3',b3,e3⟩:=Q6 l c2 x2 40 q b2 (by decide) (by decide)
 rw[e3,Y4 rfl rfl rfl (λq=>by left;try erw[rr,rm,rk,f5 l,f6 l,f7 l,f8 l];rfl) (λq=>by left;try erw[rr,rk];rfl)]
 try (left)
 obtain⟨v,hv,ev⟩:=zep (a:=v1) (b:=v2) hw0 hw1
 rw[ev]
 left
 try erw[rk]
 rw[y_app (by rw[zl,i9];lia) rfl]
 left
 refine⟨v,c3,x3,w,q+1,b3,by lia, ?_⟩
 have hs:ks.map D.int++[D.int v]=(ks++[v]).map D.int:=by rw[t8];rfl
 erw[hs,Z8 (show k≠n+1 by lia),W9 (show n≠n+1 by lia),f5 (n+1),f6 (n+1),f7 (n+1),f8 (n+1),z09 (show l≠n+1 by lia),J3,J9,Q7]
noncomputable def f2(q p:Nat)(A B:List D):Nat->Option D:=λk=>if q=k then some (.lst q A) else if p=k then some (.lst p B) else none
def z6Z{q p:Nat}{ns:List Int}:rpL (f2 q p A B) (ns.map D.int)=ns.map D.int:=rpL_id _ λj hj=>by rw[Z2] at hj;cases hj
def zcq{q p k:Nat}{ns:List Int}(h1:q≠k)(h2:p≠k):rp (f2 q p A B) (.lst k (ns.map D.int))= .lst k (ns.map D.int):=by
 erw[rp,f2,if_neg h1,if_neg h2]
 rw[z6Z]
def z9V{q p:Nat}:rp (f2 q p A B) (.lst q ds)= .lst q A:=by erw[rp,f2,if_true]
def z9W{q p:Nat}(h:q≠p):rp (f2 q p A B) (.lst p ds)= .lst p B:=by erw[rp,f2,if_neg h,if_true]
def z9X{t i:D}{l k n' n:Nat}(h:l≠k)(hb:labsL b=[])(hb':labsL b'=[])(hR:labsL R=[])(hi:labs i=[])(g1:rpO (f2 l k b R) σ=σ)(g2:rpO (f2 l k b R) tm=tm):
 z1J (.ok t [.lst l b', .lst k R,i] n') [.lst l b, .lst k R,i] ⟨σ,tm,n⟩= .ok t ⟨rpO (f2 l k b' R) σ,rpO (f2 l k b' R) tm,n'⟩:=by
 have fi: ∀j,findT j i=none:=λj=>z3B i (by rw[hi];exact t7)
 have e:(λj=>findL j [D.lst l b', .lst k R,i])=f2 l k b' R:=by
  funext j
  erw[findL,findT,f2]
  by_cases h1:l=j
  .erw[if_pos h1]
  .erw[if_neg h1,findL_none _ (show j∉labsL b' by rw[hb'];exact t7)]
   by_cases h2:k=j
   .erw[if_pos h2]
   .erw[if_neg h2,findL_none _ (show j∉labsL R by rw[hR];exact t7),fi]
 unfold z1J
 dsimp only
 by_cases hz:[D.lst l b',D.lst k R,i]=[D.lst l b,D.lst k R,i]
 .have hh:b'=b:=by injection hz with hz _;injection hz
  subst hh
  rw[if_pos rfl,g1,g2]
 .rw[if_neg hz,if_pos]
  .rw[e]
  .intro j _ hj
   rw[show findL j [D.lst l b',D.lst k R,i]=f2 l k b' R j from congrFun e j]
   erw[labsL,labs,hb,hR,hi,l0,l4,l7,t7,or_false] at hj
   unfold f2
   rcases hj with rfl|rfl
   .simp
   .simp[h]
def z9Y(rows:List Z5)(hw: ∀r∈rows,Wf r)(hr:rows.length<=60)(l k n:Nat)(c x M:Int)(hM:0<=M)(hM':M<=24)(hb:Bg c x)(hl:l<n)(hk:k<n)(hlk:k≠l): ∃(sn:List Int) (c' x':Int) (q n':Nat),sn.length<=24/\Bg c' x'/\n<=q/\q<n'/\X8 [.lst l [.int c, .int x], .lst k (rows.map rD), .int M] n= .ok (.lst q (sn.map .int)) [.lst l [.int c', .int x'], .lst k (rows.map rD), .int M] n':=by
 generalize hr:X8 [.lst l [.int c, .int x], .lst k (rows.map rD), .int M] n=r
 unfold X8 z1S at hr
 revert hr
 left
 have rr: ∀d,rp (pl l d) (.lst k (rows.map rD))= .lst k (rows.map rD):=λd=>Z8 hlk
 obtain⟨w,c1,x1,hw0,hw1,b1,e1⟩:=Q6 l c x 3 n hb (by decide) (by decide)
 rw[e1,Y4 rfl rfl rfl (λq=>by left;try erw[rr];rfl) (λq=>by left;try erw[rr];rfl)]
 try (left)
 obtain⟨ms,o5,o6,o7,hm,lm,f5,f6,f7,e2⟩:=zhb rows hw hr (.lst l [.int c1, .int x1]) k n M w hk (λd=>by rw[z09 (by lia)];erw[J3,J9,Q7])
 have g5:Fre o5:=λk d=>f5 (pl k d)
 have g6:Fre o6:=λk d=>f6 (pl k d)
 have g7:Fre o7:=λk d=>f7 (pl k d)
 rw[z7w] at e2
 rw[e2]
 left
 have rm: ∀d,rp (pl l d) (.lst n (ms.map .int))= .lst n (ms.map .int):=λd=>W9 (by lia)
 obtain⟨q2,c2,x2,hq2,hq2',b2,e3⟩:=Q6 l c1 x1 (M+1) (n+1) b1 (by lia) (by lia)
 rw[e3,Y4 rfl rfl rfl (λq=>by left;try erw[rr,rm,g5 l,g6 l,g7 l];rfl) (λq=>by left;try erw[rr];rfl)]
 try (left)
 by_cases hw2:0<w
 .erw[show decide (w>0)=true from decide_eq_true hw2]
  left
  obtain⟨ks,c3,x3,p,n3,lk,b3,hp,hp',e4⟩:=z7F rows hw hr l k (n+1) c2 x2 b2 (by lia) (by lia) hlk
  rw[e4,z9X (show l≠k by lia) rfl rfl (K8 rows) rfl (by erw[Z0,Z7,l6,E1,Q7,z9V,z9W (show l≠k by lia),f5,f6,f7,zcq (show l≠n by lia) (show k≠n by lia)]) (by erw[Z0,Z7,l6,E1,Q7,z9V,z9W (show l≠k by lia)])]
  left
  erw[Z0,Z7,l6,E1,Q7,z9V,z9W (show l≠k by lia),f5,f6,f7,zcq (show l≠n by lia) (show k≠n by lia)]
  try (left)
  obtain⟨n4,hn4,e5⟩:=zbb rows ks k n3 (.lst p (ks.map .int)) hw (by lia) (by lia) (.inl ⟨p,hp',rfl⟩)
  rw[e5]
  left
  have hcut:z4W ((z1U rows ks).1.map D.int) none (some q2)=((z1U rows ks).1.take q2.toNat).map D.int:=by
   have:=z34 (ws:=(z1U rows ks).1.map D.int) (l:=q2.toNat)
   rw[show((q2.toNat:Nat):Int)=q2 by lia] at this
   rw[this,P3]
  rw[hcut]
  intro hr
  subst hr
  exact⟨(z1U rows ks).1.take q2.toNat,c3,x3,n4,n4+1,by rw[B6];lia,b3,by lia,by lia,rfl⟩
 .erw[show decide (w>0)=false from decide_eq_false hw2]
  left
  rw[z1y ⟨by lia,by lia⟩]
  left
  obtain⟨s',e6,ks,c3,x3,o10,o11,q,rfl,b3,hq,lk,f10,f11⟩:=z0y (P:=λi s=> ∃(ks:List Int) (c3 x3:Int) (o10 o11:Option D) (q:Nat),s=⟨[some (.lst l [.int c3, .int x3]),some (.lst k (rows.map rD)),some (.int M),some (.int w),some (.lst n (ms.map .int)),o5,o6,o7,some (.int q2),some (.lst (n+1) (ks.map .int)),o10,o11],[some (.lst l [.int c3, .int x3]),some (.lst k (rows.map rD)),some (.int M)],q⟩/\Bg c3 x3/\n+1<q/\ks.length=i/\Fre o10/\Fre o11) (lo:=0) (N:=q2.toNat) (g:= .nm 10) (b:=sbM) (by
   rintro i hi s ⟨ks,c3,x3,o10,o11,q,rfl,b3,hq,lk,f10,f11⟩
   refine⟨[some (.lst l [.int c3, .int x3]),some (.lst k (rows.map rD)),some (.int M),some (.int w),some (.lst n (ms.map .int)),o5,o6,o7,some (.int q2),some (.lst (n+1) (ks.map .int)),some (.int (0+(i:Int))),o11],rfl, ?_⟩
   obtain⟨v,c4,x4,u,q',b4,hq',e4⟩:=zja rows l k n q c3 x3 (0+(i:Int)) M w ms ks o5 o6 o7 (some (.int q2)) o11 b3 hl hk hlk hq hm lm (by lia) g5 g6 g7 (z0b _) f11
   exact⟨_,e4,ks++[v],c4,x4,_,_,q',rfl,b4,by lia,by rw[m5,lk];rfl,z0b _,z0b _⟩) q2.toNat 0 ⟨[some (.lst l [.int c2, .int x2]),some (.lst k (rows.map rD)),some (.int M),some (.int w),some (.lst n (ms.map .int)),o5,o6,o7,some (.int q2),some (.lst (n+1) []),none,none],[some (.lst l [.int c2, .int x2]),some (.lst k (rows.map rD)),some (.int M)],n+1+1⟩ (by lia) ⟨[],c2,x2,none,none,n+1+1,rfl,b2,by lia,rfl,Q4,Q4⟩
  unfold sbM at e6
  rw[e6]
  left
  intro hr
  subst hr
  exact⟨ks,c3,x3,n+1,q,by lia,b3,by lia,by lia,rfl⟩
def zhc{n k:Nat}{i:Int}:Rs n (.int i)=true/\(er (.int i)).depth<=k:=⟨rfl,by simp[er,PyData.depth]⟩
def z4y{n:Nat}{ns:List Int}: ∀e∈ns.map D.int,Rs n e=true/\(er e).depth<=0:=λe he=>by obtain⟨i,_,rfl⟩:=m8.mp he;exact zhc
def zjb(h:Wf r):Rs 0 (rD r)=true/\(er (rD r)).depth<=2:=z6L (by simp) λe he=>by
 obtain⟨h1,h2,h3,h4,h5⟩:=h
 erw[l7,t7,or_false] at he
 rcases he with rfl|rfl|rfl
 .exact z6L (by rw[i9];lia) z4y
 .exact z6L (by rw[i9];lia) z4y
 .exact z6L (by rw[i9];lia) z4y
def zhd{k a b:Nat}{rows:List Z5}{sn:List Int}(hw: ∀r∈rows,Wf r)(h:rows.length<=60)(hs:sn.length<=60):Rs 0 (.lst k [.lst a (rows.map rD), .lst b (sn.map .int)])=true/\(er (.lst k [.lst a (rows.map rD), .lst b (sn.map .int)])).depth<=4:=z5i (C0 _) (by simp) λe he=>by
 erw[l7,t7,or_false] at he
 rcases he with rfl|rfl
 .refine z5i (C0 _) (by rw[i9];lia) λe he=> ?_
  obtain⟨r,hr,rfl⟩:=m8.mp he
  exact zjb (hw r hr)
 .obtain⟨h1,h2⟩:=z5i (n:=0) (l:=b) (k:=0) (C0 _) (by rw[i9];lia) (z4y (n:=0) (ns:=sn))
  exact⟨h1,by lia⟩
def ze9(h:d∈z1E ds):d∈ds:=by
 unfold z1E at h
 obtain⟨i,hi,rfl⟩:=m8.mp h
 have:=So.perm_lt i hi
 simp[this]
def z9Z{ds:List D}:(z1E ds).length=ds.length:=by
 unfold z1E
 rw[i9,So.perm_len]
theorem zcr: ∀{ds:List D},(∀d∈ds,Gd d)->GdL ds
 |[],_=>z1W
 |d::ds,h=>GdL.cons.mpr ⟨h d l5,zcr λe he=>h e (i5 _ he)⟩
theorem zcs: ∀{ds:List D} {k:Nat},(∀d∈ds,(er d).depth<=k)->PyData.depthAll (erL ds)<=k+1
 |[],_,_=>by simp[erL,PyData.depthAll]
 |d::ds,k,h=>by
  have h1:=h d l5
  have h2:=zcs (ds:=ds) (k:=k) λe he=>h e (i5 _ he)
  erw[erL,PyData.depthAll]
  lia
def zea(q:Sg×Nat):(er (stD q)).depth<=10:=by
 have: ∀ns:List Int,PyData.depthAll (ns.map PyData.int)<=1:=λns=>by
  induction ns with
  |nil=>simp[PyData.depthAll]
  |cons n ns ih=>erw[i6,PyData.depthAll,PyData.depth];lia
 have h1:=this q.1.2
 rw[z5s]
 erw[PyData.depth,PyData.depthAll]
 lia
def z4z(h:d∈z1E (stL F)): ∃q∈F,d=stD q:=by
 obtain⟨q,hq,rfl⟩:=m8.mp (ze9 h)
 exact⟨q,hq,rfl⟩
def z6j(F:Fd)(l:Nat):Gd (.lst l (z1E (stL F)))/\(er (.lst l (z1E (stL F)))).depth<=60:=by
 refine⟨Gd.lst.mpr (zcr λd hd=> ?_), ?_⟩
 .obtain⟨q,_,rfl⟩:=z4z hd
  exact z9R q
 .have:=zcs (ds:=z1E (stL F)) (k:=10) λd hd=>by
   obtain⟨q,_,rfl⟩:=z4z hd
   exact zea q
  erw[er,PyData.depth]
  lia
def z6k(F:Fd):labsL (z1E (stL F))=[]:=W5 λd hd=>by
 obtain⟨q,_,rfl⟩:=z4z hd
 erw[stD,Mi.labs,labsL,Z2,l0]
theorem z1D: ∀{σ:List (Option D)} {l:Nat},l∈Z4 σ->∃d,some d∈σ/\l∈labs d
 |[],_,h=>nomatch h
 |none::r,l,h=>by
  obtain⟨d,h1,h2⟩:=z1D (σ:=r) h
  exact⟨d,i5 _ h1,h2⟩
 |some d::r,l,h=>by
  rcases l4.mp (show l∈labs d++Z4 r from h) with h|h
  .exact⟨d,l5,h⟩
  .obtain⟨d,h1,h2⟩:=z1D (σ:=r) h
   exact⟨d,i5 _ h1,h2⟩
def z7J{t:D}{n' n k j:Nat}{PK:List (List Int)}(hd:labsL ds=[])(a1: ∀o∈σ,UpO j o)(a2: ∀o∈tm,UpO j o)(f1:rpO (pl k (.lst k ds)) σ=σ)(f2:rpO (pl k (.lst k ds)) tm=tm):
 z1J (.ok t [.lst k ds,FdP PK] n') [.lst k ds,dD j PK] ⟨σ,tm,n⟩= .ok t ⟨σ,tm,n'⟩:=by
 have e:(λl=>findL l [.lst k ds,FdP PK])=pl k (.lst k ds):=by
  funext l
  erw[findL,findT,pl,FdP]
  by_cases h:k=l
  .subst h;rw[if_pos rfl,if_pos rfl]
  .rw[if_neg h,if_neg λq=>h q.symm,findL_none ds (by rw[hd];exact t7),findL_none _ (by rw[z4v];exact t7)]
 have hk:labsL (PK.map kd)=[]:=W5 λd hd=>by obtain⟨p,_,rfl⟩:=m8.mp hd;exact Z2 p
 unfold z1J
 dsimp only
 rw[if_neg,if_pos]
 .rw[e,f1,f2]
 .intro l hs hl
  have h1:=congrFun e l
  rw[show findL l [D.lst k ds,FdP PK]=pl k (.lst k ds) l from h1]
  have hj:l<j:=by
   rcases l4.mp (show l∈Z4 σ++Z4 tm from hs) with h|h
   .obtain⟨d,hd,hl⟩:=z1D h
    exact a1 _ hd d rfl l hl
   .obtain⟨d,hd,hl⟩:=z1D h
    exact a2 _ hd d rfl l hl
  erw[labsL,Mi.labs,dD,hd,hk,z4v,l0,l4,l7,t7,or_false] at hl
  rcases hl with rfl|rfl
  .simp[pl]
  .exact absurd hj (D8 _)
 .intro z
  erw[dD,FdP,List.cons.injEq] at z
  exact absurd z.2.1 (by simp)
noncomputable def kbM:MS:=(Z3 (Y5 (.nm 9) (Z1 j7 [(y2 (y0 7) (mC (.int 0)) ixD),(y2 (y0 7) (mC (.int 1)) ixD)]))
 (Z3 (sIf (mOr (z7i (z0J (za5 "list" (y0 9)))) (mOr (G7 (y2 (y0 9) (y0 6) neD)) (G7 (y2 (y0 7) (mCB [(y0 3),(y0 4)] lstM) neD)))) (z0e (mC (.bool false))) sNx)
 (Z3 (sIf (z7i (z0J (mCB [(J1 (Q8 (y0 9)) (.nm 0) (rt true) (Z1 W6 [(y0 0)]) 1 [])] zaD))) (z0e (mC (.bool false))) sNx)
 (J8 (J2 (y0 9) [(mC .non)] z2B)))))
def z0D{n m:Nat}(h:UpO n o)(hm:n<=m):UpO m o:=λd e k hk=>A8 (h d e k hk) hm
def zhe(F:Fd)(hF: ∀q∈F,q.1.2.length<=100)(hz:F.length<=5000){p:Nat}{σ tm:List (Option D)}{n:Nat}(hσ:σ[9]? =some (some (.lst p (z1E (stL F))))):
 ∃n',n<=n'/\J1 (Q8 (y0 9)) (.nm 0) (rt true) (Z1 W6 [(y0 0)]) 1 [] ⟨σ,tm,n⟩= .ok (.lst n' ((z1E (stL F)).map λ_=> .bool true)) ⟨σ,tm,n'+1⟩:=by
 have hl:(z1E (stL F)).length=F.length:=by rw[z9Z];simp[stL]
 exact z1C (mi:=Q8 (y0 9)) (K:=kLst) (g:= .nm 0) (me:=Z1 W6 [(y0 0)]) (gf:=λ_=> .bool true) (fr:=λd=>[some d]) (k:=1) (items:=z1E (stL F)) (its:=[some (.lst p (z1E (stL F)))]) (ix:=[]) (s:=⟨σ,tm,n⟩) (σ:=σ) (tm:=tm) (n:=n) (z0G (by left;rw[hσ];left;rfl)) rfl (by rw[zl,hl];lia) (λi rest=>rfl) rfl (λd hd pre hp=>by
  match pre,hp with
  |[a],_=>rfl) (λd hd=>rfl) (λd hd tm m=>by
  obtain⟨q,hq,rfl⟩:=z4z hd
  obtain⟨m',hm,e⟩:=zha q (hF q hq) m
  refine⟨m',hm, ?_⟩
  show Z1 W6 [(y0 0)] ⟨[some (stD q)],tm,m⟩= .ok (.bool true) ⟨[some (stD q)],tm,m'⟩
  left
  rw[e]
  left)
def zjc(rows:List Z5)(hw: ∀r∈rows,Wf r)(hr:rows.length<=40)(sn:List Int)(hsn:sn.length<=24)(N:Nat)(hN:N<=5000)(hend:(runF' (gl rows sn) N 0 F0).length=N)(hgo: ∀i,i<N->i<(runF' (gl rows sn) i 0 F0).length)(F:Fd)(hFd:F=runF' (gl rows sn) N 0 F0)(hF: ∀q∈F,q.1.2.length<=100)
 (o0 o1 o2 o5 o8 o9 t0:Option D) (k q d h h1 h2 n:Nat) (hk:k<n) (hq:q<n) (hd:d<n) (hh:h<n) (hh1:h1<n) (hh2:h2<n) (u0:UpO n o0) (u1:UpO n o1) (u2:UpO n o2) (u5:UpO n o5) (u8:UpO n o8) (ut:UpO n t0):
 ∃p n',p<n'/\n<=n'/\kbM ⟨[o0,o1,o2,some (.lst k (rows.map rD)),some (.lst q (sn.map .int)),o5,some (.lst d (z1E (stL F))),some (.lst h [.lst h1 (rows.map rD), .lst h2 (sn.map .int)]),o8,o9],[t0],n⟩= .nx ⟨[o0,o1,o2,some (.lst k (rows.map rD)),some (.lst q (sn.map .int)),o5,some (.lst d (z1E (stL F))),some (.lst h [.lst h1 (rows.map rD), .lst h2 (sn.map .int)]),o8,some (.lst p (z1E (stL F)++[.non]))],[t0],n'⟩:=by
 have hz:F.length<=5000:=by rw[hFd,hend];exact hN
 obtain⟨n1,hn1,e1⟩:=zh9 rows hw hr sn hsn h1 h2 n hh1 hh2 N hN hend hgo
 rw[<-hFd] at e1
 have fr: ∀d,rp (pl n1 d) (.lst k (rows.map rD))= .lst k (rows.map rD):=λd=>Z8 (by lia)
 have fs: ∀d,rp (pl n1 d) (.lst q (sn.map .int))= .lst q (sn.map .int):=λd=>W9 (by lia)
 have fh1: ∀d,rp (pl n1 d) (.lst h1 (rows.map rD))= .lst h1 (rows.map rD):=λd=>Z8 (by lia)
 have fh2: ∀d,rp (pl n1 d) (.lst h2 (sn.map .int))= .lst h2 (sn.map .int):=λd=>W9 (by lia)
 have fX: ∀d,rpL (pl n1 d) (z1E (stL F))=z1E (stL F):=λd=>rpL_id _ λj hj=>by rw[z6k] at hj;cases hj
 unfold kbM
 left
 rw[e1]
 left
 rw[z9o (z6j F n1).1 (z6j F d).1 rfl (z6j F d).2]
 left
 obtain⟨a1,a2⟩:=zhd (k:=h) (a:=h1) (b:=h2) hw (show rows.length<=60 by lia) (show sn.length<=60 by lia)
 obtain⟨b1,b2⟩:=zhd (k:=n1+1) (a:=k) (b:=q) hw (show rows.length<=60 by lia) (show sn.length<=60 by lia)
 rw[z9o (z9n _ a1) (z9n _ b1) rfl (by lia)]
 left
 obtain⟨n2,hn2,e2⟩:=zhe F hF hz (p:=n1) (σ:=[o0,o1,o2,some (.lst k (rows.map rD)),some (.lst q (sn.map .int)),o5,some (.lst d (z1E (stL F))),some (.lst h [.lst h1 (rows.map rD), .lst h2 (sn.map .int)]),o8,some (.lst n1 (z1E (stL F)))]) (tm:=[t0]) (n:=n1+1+1) rfl
 rw[e2]
 left
 rw[z9S]
 left
 rw[y_app (by rw[zl,z9Z];erw[stL,i9];lia) rfl]
 left
 refine⟨n1,n2+1,by lia,by lia, ?_⟩
 erw[fr,fs,fh1,fh2,z09 (show d≠n1 by lia),z09 (show h≠n1 by lia),J3,J9,fX,u0.fixk (show n<=n1 by lia),u1.fixk (show n<=n1 by lia),u2.fixk (show n<=n1 by lia),u5.fixk (show n<=n1 by lia),u8.fixk (show n<=n1 by lia),ut.fixk (show n<=n1 by lia),z0a]
noncomputable def za0:MS:=(Z3 (Y5 (.nm 2) (Z1 z2W [(y0 0),(y0 1)]))
 (Z3 (Y5 (.nm 3) (Z1 z0h [(y0 2)]))
 (Z3 (Y5 (.nm 4) (Z1 X8 [(y0 2),(y0 3),(y2 (mCB [(mC (.int 24)),(mC (.int 6))] lstM) (mCB [(y2 (mCB [(y0 3)] U3) (mC (.int 12)) gtD)] za4) ixD)]))
 (Z3 (Y5 (.nm 5) (Z1 z1x [(Z1 z0T [(y0 3),(Z1 z0i [(y0 3)])]),(y0 4)]))
 (Z3 (Y5 (.nm 6) (mCB [(J1 (K0 (y0 5)) (.tp [(.nm 0),(.nm 1)]) (rt true) (mCB [(y0 0),(y0 1),(y2 (y0 2) (mCB [(y0 0),(y0 1)] Q1) z15)] Q1) 2 [5])] zbZ))
 (Z3 (Y5 (.nm 7) (mCB [(mCB [(y0 3)] z3i),(mCB [(y0 4)] z3i)] lstM))
 (z01 (v7 [(mC (.int 2))]) (.nm 8) kbM)))))))
def zhf(hw: ∀r∈rows,Wf r)(N:Nat):(((runF' (gl rows sn) N 0 F0).map (·.1)).Nodup)/\∀q∈runF' (gl rows sn) N 0 F0,q.1.2.length<=100:=by
 obtain⟨h1,h2⟩:=z4s (gl:=gl rows sn) (Q:=Ok rows sn.length) (λg h=>zdT hw h) N 0 F0 (by simp[F0]) (λq hq=>by
  have:q=((0,[]),0):=by simpa[F0] using hq
  rw[this]
  exact⟨C0 _,by simp[G1]⟩)
 exact⟨h1,λq hq=>by have:=z1B hw (h2 q hq).2;lia⟩
def za1{n k:Nat}{rows:List Z5}(h:k<n):UpO n (some (.lst k (rows.map rD))):=by rintro _ ⟨⟩ j hj;erw[Mi.labs,K8,l7,t7,or_false] at hj;lia
def zeb{n k:Nat}{ns:List Int}(h:k<n):UpO n (some (.lst k (ns.map .int))):=by rintro _ ⟨⟩ j hj;erw[Mi.labs,Z2,l7,t7,or_false] at hj;lia
def zbw{n:Nat}{ns:List Int}:UpO n (some (.ro (ns.map .int))):=by rintro _ ⟨⟩ j hj;erw[Mi.labs,Z2,t7] at hj
def z70{n:Nat}{i:Int}:UpO n (some (.int i)):=by rintro _ ⟨⟩ j hj;erw[Mi.labs,t7] at hj
def zct{n k:Nat}{c x:Int}(h:k<n):UpO n (some (.lst k [.int c, .int x])):=zeb (ns:=[c,x]) h
def zec{ns:List Int}{l k:Nat}:rp (f2 l k A B) (.ro (ns.map .int))= .ro (ns.map .int):=by erw[rp,z6Z]
def zeq{n l k:Nat}(h:UpO n o)(hl:n<=l)(hk:n<=k):C6 (rp (f2 l k A B)) o=o:=by
 cases o with
 |none=>rfl
 |some t=>
  rw[l6,z8v t λj hj=>by
   have:=h t rfl j hj
   unfold f2
   rw[if_neg (by lia),if_neg (by lia)]]
local macro_rules | `(tactic| left) => `(tactic| (simp (config := { dsimp := false }) only [B_0, B_2, ↓B_3, B_4, isiD, Y2, asg, asgL, m9, P5, P6, String.reduceBEq, P7]))
set_option maxHeartbeats 2000000 in
def zed(ns:List Int)(i n:Nat)(hi:i<1000)(hl:ns.length<1000)(o2 o3 o4 o5 o6 o7 o8 o9:Option D)(u3:UpO n o3)(u4:UpO n o4)(u5:UpO n o5)(u6:UpO n o6)(u7:UpO n o7)(u8:UpO n o8)(u9:UpO n o9):
 ∃(p2 p3 p4 p5 p6 p7 p8 p9:Option D) (n':Nat),n<=n'/\(UpO n' p3/\UpO n' p4/\UpO n' p5/\UpO n' p6/\UpO n' p7/\UpO n' p8/\UpO n' p9)/\
  za0 ⟨[some (.ro (ns.map .int)),some (.int i),o2,o3,o4,o5,o6,o7,o8,o9],[some (.ro (ns.map .int))],n⟩= .nx ⟨[some (.ro (ns.map .int)),some (.int i),p2,p3,p4,p5,p6,p7,p8,p9],[some (.ro (ns.map .int))],n'⟩:=by
 have fro: ∀k d,rp (pl k d) (.ro (ns.map .int))= .ro (ns.map .int):=λk d=>by erw[rp,W7]
 generalize hr:za0 ⟨[some (.ro (ns.map .int)),some (.int i),o2,o3,o4,o5,o6,o7,o8,o9],[some (.ro (ns.map .int))],n⟩=r
 unfold za0 at hr
 revert hr
 obtain⟨c,x,b0,e0⟩:=zgH ns i n hi hl
 left
 rw[e0]
 left
 obtain⟨rows,c1,x1,k,n1,hw,hr,b1,hk,hk',e1⟩:=zbf n (n+1) c x b0 (by lia)
 rw[e1,Y4 rfl rfl rfl (λq=>by left;try erw[fro,u3.fix,u4.fix,u5.fix,u6.fix,u7.fix,u8.fix,u9.fix];rfl) (λq=>by left;try erw[fro];rfl)]
 try (left)
 obtain⟨w,⟨hw0,hw1⟩,ew⟩:= @ziZ (decide (12<((rows.map rD).length:Int)))
 rw[ew]
 obtain⟨M,hM,eM⟩:=zep (a:=24) (b:=6) hw0 hw1
 rw[eM]
 left
 obtain⟨sn,c2,x2,q,n2,hsn,b2,hq,hq',e2⟩:=z9Y rows hw (by lia) n k (n1+1) c1 x1 M (by lia) (by lia) b1 (by lia) (by lia) (by lia)
 have g4:=λA B=>zeq (A:=A) (B:=B) (l:=n) (k:=k) u4 (i7 n) (by lia)
 have g5:=λA B=>zeq (A:=A) (B:=B) (l:=n) (k:=k) u5 (i7 n) (by lia)
 have g6:=λA B=>zeq (A:=A) (B:=B) (l:=n) (k:=k) u6 (i7 n) (by lia)
 have g7:=λA B=>zeq (A:=A) (B:=B) (l:=n) (k:=k) u7 (i7 n) (by lia)
 have g8:=λA B=>zeq (A:=A) (B:=B) (l:=n) (k:=k) u8 (i7 n) (by lia)
 have g9:=λA B=>zeq (A:=A) (B:=B) (l:=n) (k:=k) u9 (i7 n) (by lia)
 rw[e2,z9X (show n≠k by lia) rfl rfl (K8 rows) rfl (by erw[Z0,Z7,l6,zec,Q7,z9V,z9W (show n≠k by lia),g4,g5,g6,g7,g8,g9]) (by erw[Z0,Z7,l6,zec])]
 left
 erw[zec,Q7,z9V,z9W (show n≠k by lia),g4,g5,g6,g7,g8,g9]
 try (left)
 obtain⟨PK,hPK,hPz,e3⟩:=z9y rows k n2 hw (by lia) (by lia)
 rw[e3]
 left
 obtain⟨FK,vs,j5,n3,hj,hj',hD,hFK,hFz,e4⟩:=zbl rows hw PK hPK (by lia) k n2 (n2+1) (by lia) (by lia) (by lia)
 rw[e4]
 rw[z7J (K8 rows) (by
  erw[F2,t7,false_imp_iff,implies_true,and_true]
  exact⟨zbw,z70,zct (by lia),za1 (by lia),zeb (by lia),z0D u5 (by lia),z0D u6 (by lia),z0D u7 (by lia),z0D u8 (by lia),z0D u9 (by lia)⟩) (by
  erw[F2,t7,false_imp_iff,implies_true,and_true]
  exact zbw) (by erw[Z0,Z7,l6,fro,Q7,z09 (show n≠k by lia),J3,J9,z0a,W9 (show q≠k by lia),u5.fixk (show n<=k by lia),u6.fixk (show n<=k by lia),u7.fixk (show n<=k by lia),u8.fixk (show n<=k by lia),u9.fixk (show n<=k by lia)]) (by erw[Z0,Z7,l6,fro])]
 left
 obtain⟨N,hN,hend,hgo⟩:=zdS (gl:=gl rows sn) (F:=F0) (B:=5000) λm=>z36 hw hr hsn m
 obtain⟨vs',n4,hn4,hV,e5⟩:=zbu rows hw hr sn hsn q j5 n3 (by lia) (by lia) FK vs hFK hD N hN hend hgo
 obtain⟨hnd,hF⟩:=zhf hw (sn:=sn) N
 rw[e5]
 left
 have hz:(runF' (gl rows sn) N 0 F0).length<=5000:=by lia
 obtain⟨n5,hn5,e6⟩:=ze8 (m0:=y0 5) (F:=runF' (gl rows sn) N 0 F0) (vs:=vs') hV hnd hz (σ:=[some (.ro (ns.map .int)),some (.int i),some (.lst n [.int c2, .int x2]),some (.lst k (rows.map rD)),some (.lst q (sn.map .int)),some (FdF (runF' (gl rows sn) N 0 F0) vs'),o6,o7,o8,o9]) (tm:=[some (.ro (ns.map .int))]) (n:=n4) (s:=⟨[some (.ro (ns.map .int)),some (.int i),some (.lst n [.int c2, .int x2]),some (.lst k (rows.map rD)),some (.lst q (sn.map .int)),some (.dct n3 (ksF (runF' (gl rows sn) N 0 F0)) vs'),o6,o7,o8,o9],[some (.ro (ns.map .int))],n4⟩) 5 rfl (by
  unfold K0
  left
  rw[if_pos ⟨z7G _,hV.labs⟩]
  erw[z0U,Z0,Z7,l6,fro,Q7,z09 (show n≠n3 by lia),J3,J9,Z8 (show k≠n3 by lia),W9 (show q≠n3 by lia),u6.fixk (show n<=n3 by lia),u7.fixk (show n<=n3 by lia),u8.fixk (show n<=n3 by lia),u9.fixk (show n<=n3 by lia)]
  erw[rp,pl,if_true,FdF])
 rw[e6]
 left
 rw[zcn]
 left
 rw[z1y ⟨by decide,by decide⟩]
 left
 have uF: ∀m,UpO m (some (FdF (runF' (gl rows sn) N 0 F0) vs')):=λm=>by
  rintro _ ⟨⟩ j hj
  erw[FdF,Mi.labs,hV.labs,t7] at hj
 obtain⟨s',e7,r8,r9,m,rfl,hm,v8,v9⟩:=z0y (P:=λj s=> ∃(r8 r9:Option D) (m:Nat),s=⟨[some (.ro (ns.map .int)),some (.int i),some (.lst n [.int c2, .int x2]),some (.lst k (rows.map rD)),some (.lst q (sn.map .int)),some (FdF (runF' (gl rows sn) N 0 F0) vs'),some (.lst (n5+1) (z1E (stL (runF' (gl rows sn) N 0 F0)))),some (.lst (n5+1+1+1+1) [.lst (n5+1+1) (rows.map rD), .lst (n5+1+1+1) (sn.map .int)]),r8,r9],[some (.ro (ns.map .int))],m⟩/\n5+1+1+1+1<m/\UpO m r8/\UpO m r9) (lo:=0) (N:=(2:Int).toNat) (g:= .nm 8) (b:=kbM) (by
  rintro j hj s ⟨r8,r9,m,rfl,hm,v8,v9⟩
  refine⟨[some (.ro (ns.map .int)),some (.int i),some (.lst n [.int c2, .int x2]),some (.lst k (rows.map rD)),some (.lst q (sn.map .int)),some (FdF (runF' (gl rows sn) N 0 F0) vs'),some (.lst (n5+1) (z1E (stL (runF' (gl rows sn) N 0 F0)))),some (.lst (n5+1+1+1+1) [.lst (n5+1+1) (rows.map rD), .lst (n5+1+1+1) (sn.map .int)]),some (.int (0+(j:Int))),r9],rfl, ?_⟩
  obtain⟨p,m',hp,hm',e⟩:=zjc rows hw hr sn hsn N hN hend hgo _ rfl hF (some (.ro (ns.map .int))) (some (.int i)) (some (.lst n [.int c2, .int x2])) (some (FdF (runF' (gl rows sn) N 0 F0) vs')) (some (.int (0+(j:Int)))) r9 (some (.ro (ns.map .int))) k q (n5+1) (n5+1+1+1+1) (n5+1+1) (n5+1+1+1) m (by lia) (by lia) (by lia) (by lia) (by lia) (by lia) zbw z70 (zct (by lia)) (uF m) z70 zbw
  refine⟨_,e,_,_,m',rfl,by lia,z70, ?_⟩
  rintro _ ⟨⟩ j' hj'
  erw[Mi.labs,z1z,z6k,labsL,l0,l7,t7,or_false] at hj'
  lia) (2:Int).toNat 0 ⟨[some (.ro (ns.map .int)),some (.int i),some (.lst n [.int c2, .int x2]),some (.lst k (rows.map rD)),some (.lst q (sn.map .int)),some (FdF (runF' (gl rows sn) N 0 F0) vs'),some (.lst (n5+1) (z1E (stL (runF' (gl rows sn) N 0 F0)))),some (.lst (n5+1+1+1+1) [.lst (n5+1+1) (rows.map rD), .lst (n5+1+1+1) (sn.map .int)]),o8,o9],[some (.ro (ns.map .int))],n5+1+1+1+1+1⟩ (by decide) ⟨o8,o9,_,rfl,by lia,z0D u8 (by lia),z0D u9 (by lia)⟩
 rw[e7]
 intro hr
 subst hr
 refine⟨_,_,_,_,_,_,_,_,m,by lia,⟨za1 (by lia),zeb (by lia),uF m, ?_, ?_,v8,v9⟩,rfl⟩
 .rintro _ ⟨⟩ j hj
  erw[Mi.labs,z6k,l7,t7,or_false] at hj
  lia
 .rintro _ ⟨⟩ j hj
  erw[Mi.labs,labsL,K8,Z2,l0,B7,A6,l7,t7,or_false] at hj
  lia
def zhg(ns:List Int)(hl:ns.length<1000)(n:Nat): ∃n',f_law [.ro (ns.map .int)] n= .ok (.bool true) [.ro (ns.map .int)] n':=by
 unfold f_law
 have e0:zdA=Z3 (z01 (v7 [(mCB [(mC (.int 1)),(mCB [(mC (.int 3)),(mCB [(y0 0)] U3)] zdi)] zek)]) (.nm 1) za0) (z0e (mC (.bool true))):=rfl
 rw[e0]
 left
 have w0:((ns.map D.int).length:Int)=ns.length:=by simp
 rw[w0]
 generalize hk:(if(if(ns.length:Int)<(3:Int) then(ns.length:Int) else(3:Int))>1 then(if(ns.length:Int)<(3:Int) then(ns.length:Int) else(3:Int)) else(1:Int))=k
 have hk0:0<=k/\k<=6:=by split at hk<;>(try split at hk)<;>lia
 rw[z1y ⟨by lia,by lia⟩]
 left
 obtain⟨s',e2,o1,o2,o3,o4,o5,o6,o7,o8,o9,m,rfl,_⟩:=z0y (P:=λi s=> ∃(o1 o2 o3 o4 o5 o6 o7 o8 o9:Option D) (n:Nat),s=⟨[some (.ro (ns.map .int)),o1,o2,o3,o4,o5,o6,o7,o8,o9],[some (.ro (ns.map .int))],n⟩/\UpO n o3/\UpO n o4/\UpO n o5/\UpO n o6/\UpO n o7/\UpO n o8/\UpO n o9) (lo:=0) (N:=k.toNat) (g:= .nm 1) (b:=za0) (by
  rintro i hi s ⟨o1,o2,o3,o4,o5,o6,o7,o8,o9,n,rfl,u3,u4,u5,u6,u7,u8,u9⟩
  refine⟨[some (.ro (ns.map .int)),some (.int i),o2,o3,o4,o5,o6,o7,o8,o9],by erw[R9];rfl, ?_⟩
  obtain⟨p2,p3,p4,p5,p6,p7,p8,p9,n',hn,hv,e⟩:=zed ns i n (by lia) hl o2 o3 o4 o5 o6 o7 o8 o9 u3 u4 u5 u6 u7 u8 u9
  exact⟨_,e,_,_,_,_,_,_,_,_,_,n',rfl,hv⟩) k.toNat 0 ⟨[some (.ro (ns.map .int)),none,none,none,none,none,none,none,none,none],[some (.ro (ns.map .int))],n⟩ (by lia) ⟨none,none,none,none,none,none,none,none,none,n,rfl,nofun,nofun,nofun,nofun,nofun,nofun,nofun⟩
 rw[e2]
 left
 exact⟨m,rfl⟩
end My
set_option maxHeartbeats 4000000
namespace Mi
open PySem L2 PySem.Spec PyProof.Rows
noncomputable def za2(K:W.Frag)(np:Nat)(f:FM):Sp:=λvs H Q E=>vs.length=np/\∀G:Gx,G.K=K->KD K H->spM G np f vs H Q E
def zhh{P:bm}{w:bo}{K:W.Frag}{mg:Str->Option be}{base:Heap}{CX:CXT}{k:Nat}{fa:Addr}{fd:bA}{x:Str}{f:FM}{G:Gx}(hG:G.K=K)(F:z0c P w K mg base CX k fa fd [x] (spM G 1 f)):z0c P w K mg base CX k fa fd [x] (za2 K 1 f):=
 ⟨λ_ _ _ _ h=>h.1,λA outer s H args us vs Q E hr e0 hb hv h=>F.run A outer s H args us vs Q E hr e0 hb hv (h.2 G hG λa o e=>(e0.bs a o (e0.mod.kin a o e)).2)⟩
theorem RDs.ints: ∀ns:List Int,RDs G ρ H (ns.map D.int) (ns.map V.int)
 |[]=>by erw[A2,RDs]
 |n::ns=>by
  erw[i6,RDs]
  exact⟨_,_,rfl,by erw[RD],RDs.ints ns⟩
theorem z3H: ∀ns:List Int,labsL (ns.map D.int)=[]
 |[]=>by erw[A2,labsL]
 |n::ns=>by erw[i6,labsL,labs,z3H ns,A6]
def zhi{K:W.Frag}{H:Hp}{a:Addr}{ns:List Int}{f:FM}{E:XK}(e: ∀n,∃n',f [.ro (ns.map D.int)] n= .ok (.bool true) [.ro (ns.map D.int)] n')(hO:zhm H)(hS:SqL K H a (ns.map V.int)):za2 K 1 f [.ref a] H (λv _=>v= .bl true) E:=by
 refine⟨rfl,λG hG kd=> ?_⟩
 subst hG
 refine⟨rfl,λ_=>a,0,[.ro (ns.map D.int)], ?_,λi j hi=>absurd hi (S4 _),λl hl=>absurd hl (S4 _),λl hl=> ?_,kd, ?_⟩
 .erw[RDs,RD]
  refine⟨_,_,rfl,⟨a,ns.map V.int,rfl, ?_,RDs.ints ns⟩,rfl⟩
  rcases hS with(h|h)|h
  .rcases hO a with z|⟨o,xs,z⟩<;>rw[h] at z<;>cases z
  .exact .inl h
  .exact .inr h
 .erw[labsL,labs,z3H,l0] at hl
  cases hl
 .obtain⟨n',e⟩:=e 0
  rw[e]
  intro ρ' v H' _ rd _
  erw[RD] at rd
  exact rd
end Mi
namespace My
open PySem L2 Mi
structure DA(K:W.Frag)(x:Str)(st:Stmt)(f:Addr)(d:bA):Prop where
 a:W.nsIn K bp x=some (some (.ref f))
 F:Fun K x x st f d
def zjd{st:Stmt}{oc:be}{od an:Option Addr}{sl:Array (Option be)}{kV dc pm cd ct:be}(a:W.nsIn K bp x=some (some (.ref f)))
 (l:K.lookup f=some ⟨oc,od, .func (W.fnOf x x (z1c st) (k7 st) (y4 st) .none kV dc pm an cd ct),sl⟩) (c:W.codeIn K cd x=true) (k:W.keepIn K (.ref f)=true):
 DA K x st f (W.fnOf x x (z1c st) (k7 st) (y4 st) .none kV dc pm an cd ct):=⟨a,zf6 l c k⟩
noncomputable def dx{K:W.Frag}{h:Heap}{ps:List Str}(X:K.In h)(G:h.Ns bp mg)(a:DA K x st f d)
 (b: ∀(kV dc pm:be) (an:Option Addr) (cd ct:be) (us:List be),us.length=ps.length->bindArgs (W.fnOf x x (z1c st) (k7 st) (y4 st) .none kV dc pm an cd ct) ⟨us,[]⟩=pure (ps.zip us)):Dx K mg x st ps:=
 ⟨f,d,a.F,a.F.binds b,W.mg_of X G a.a⟩
def zhj{l:W.OpenLaw}{w:bo}{K:W.Frag}{h:Heap}{fa f0 f1 f2 f3 f4 f5 f6 f7 f8 f9 f10 f11 f12 f13 f14 f15 f16 f17 f18 f19 f20 f21:Addr}{d0 d1 d2 d3 d4 d5 d6 d7 d8 d9 d10 d11 d12 d13 d14 d15 d16 d17 d18 d19 d20 d21:bA}(X:K.In h)(G:h.Ns bp mg)(hfa:mg "law" =some (.ref fa))
 (a0:DA K "read_step" z0p f0 d0)
 (a1:DA K "longest_row" K1 f1 d1)
 (a2:DA K "press" z2I f2 d2)
 (a3:DA K "may_wait" z0N f3 d3)
 (a4:DA K "key_standings" V0 f4 d4)
 (a5:DA K "ways_to" z1g f5 d5)
 (a6:DA K "presses_without_loss" Q9 f6 d6)
 (a7:DA K "_law_bag" z5X f7 d7)
 (a8:DA K "_law_take" z45 f8 d8)
 (a9:DA K "_law_table" z2J f9 d9)
 (a10:DA K "_law_pressed" z1h f10 d10)
 (a11:DA K "_law_step" z46 f11 d11)
 (a12:DA K "_law_read" z47 f12 d12)
 (a13:DA K "_law_starts" z1M f13 d13)
 (a14:DA K "_law_press" z2K f14 d14)
 (a15:DA K "_law_whole" z2L f15 d15)
 (a16:DA K "_law_sounds" z1N f16 d16)
 (a17:DA K "_law_steps" z2M f17 d17)
 (a18:DA K "_law_goals" z2N f18 d18)
 (a19:DA K "_law_ways" z48 f19 d19)
 (a20:DA K "_law_is_standing" K2 f20 d20)
 (a21:DA K "law" zdx f21 d21)
 (z0:W.nsIn K bp "abs" =some none)
 (z1:W.nsIn K bp "all" =some none)
 (z2:W.nsIn K bp "any" =some none)
 (z3:W.nsIn K bp "bool" =some none)
 {tk4:Nat} (z4:W.nsIn K bp "LAST_KEY" =some (some (.int 25 tk4)))
 (z5:W.nsIn K bp "int" =some none)
 (z6:W.nsIn K bp "isinstance" =some none)
 (z7:W.nsIn K bp "len" =some none)
 (z8:W.nsIn K bp "list" =some none)
 (z9:W.nsIn K bp "max" =some none)
 (z10:W.nsIn K bp "min" =some none)
 (z11:W.nsIn K bp "range" =some none)
 (z12:W.nsIn K bp "sorted" =some none)
 (z13:W.nsIn K bp "tuple" =some none)
 : ∃fd:bA,(∀(s:bf) (v:be),cQ s fd ⟨[v],[]⟩ [("_law_script",v)])/\∀base:Heap,K.In base->base.Ns bp mg->z0c l.prog w K mg base CX0 7 fa fd ["_law_script"] (za2 K 1 f_law):=by
 have e:=hfa.symm.trans (W.mg_of X G a21.a)
 cases e
 obtain⟨oc,od,kV,doc,pm,an,cdv,ct,osl,rfl,lk,hcd⟩:=a21.F.ex
 exact⟨_,λs v=> .of_eq rfl,λbase _ _=>zhh rfl (zgk ⟨dx X G a0 λ_ _ _ _ _ _ us hl=>match us,hl with|[_,_],_=>rfl,dx X G a1 λ_ _ _ _ _ _ us hl=>match us,hl with|[_,_],_=>rfl,dx X G a2 λ_ _ _ _ _ _ us hl=>match us,hl with|[_,_,_],_=>rfl,dx X G a3 λ_ _ _ _ _ _ us hl=>match us,hl with|[_,_],_=>rfl,dx X G a4 λ_ _ _ _ _ _ us hl=>match us,hl with|[_,_],_=>rfl,dx X G a5 λ_ _ _ _ _ _ us hl=>match us,hl with|[_,_],_=>rfl,dx X G a6 λ_ _ _ _ _ _ us hl=>match us,hl with|[_,_],_=>rfl,dx X G a7 λ_ _ _ _ _ _ us hl=>match us,hl with|[_,_],_=>rfl,dx X G a8 λ_ _ _ _ _ _ us hl=>match us,hl with|[_,_],_=>rfl,dx X G a9 λ_ _ _ _ _ _ us hl=>match us,hl with|[_],_=>rfl,dx X G a10 λ_ _ _ _ _ _ us hl=>match us,hl with|[_,_,_],_=>rfl,dx X G a11 λ_ _ _ _ _ _ us hl=>match us,hl with|[_,_],_=>rfl,dx X G a12 λ_ _ _ _ _ _ us hl=>match us,hl with|[_,_],_=>rfl,dx X G a13 λ_ _ _ _ _ _ us hl=>match us,hl with|[_],_=>rfl,dx X G a14 λ_ _ _ _ _ _ us hl=>match us,hl with|[_,_,_,_],_=>rfl,dx X G a15 λ_ _ _ _ _ _ us hl=>match us,hl with|[_],_=>rfl,dx X G a16 λ_ _ _ _ _ _ us hl=>match us,hl with|[_,_,_],_=>rfl,dx X G a17 λ_ _ _ _ _ _ us hl=>match us,hl with|[_,_],_=>rfl,dx X G a18 λ_ _ _ _ _ _ us hl=>match us,hl with|[_,_,_,_],_=>rfl,dx X G a19 λ_ _ _ _ _ _ us hl=>match us,hl with|[_,_],_=>rfl,dx X G a20 λ_ _ _ _ _ _ us hl=>match us,hl with|[_],_=>rfl,dx X G a21 λ_ _ _ _ _ _ us hl=>match us,hl with|[_],_=>rfl,W.mg_none_of X G z0,W.mg_none_of X G z1,W.mg_none_of X G z2,W.mg_none_of X G z3,⟨_,W.mg_of X G z4⟩,W.mg_none_of X G z5,W.mg_none_of X G z6,W.mg_none_of X G z7,W.mg_none_of X G z8,W.mg_none_of X G z9,W.mg_none_of X G z10,W.mg_none_of X G z11,W.mg_none_of X G z12,W.mg_none_of X G z13⟩)⟩
def zkf{l:W.OpenLaw}{q:bm}{loose:List Str}{XP:(Str->Option be)->Heap->Prop}{YP:bo->Heap->Prop}{d:DefRec}{K:Params->W.Frag}(hn:l.most=some 63)(hdf:d.params.defaults=[])
 (hY: ∀(w:bo) (h:Heap),YP w h->(K w.params).In h)
 (F: ∀(w:bo) (mg:Str->Option be) (fa:Addr) (h:Heap),(K w.params).In h->h.Ns bp mg->mg d.name=some (.ref fa)->
  ∃fd:bA,(∀(s:bf) (u:be),cQ s fd ⟨[u],[]⟩ [("_law_script",u)])/\∀base:Heap,(K w.params).In base->base.Ns bp mg->z0c l.prog w (K w.params) mg base CX0 7 fa fd ["_law_script"] (za2 (K w.params) 1 f_law)):
 W.WalkO q loose XP YP l.row.toRowW d [] (λf vs=>PySem.call f vs):=
 L2.zcW (n:=63) (k:=7) (x:= "_law_script") (CX:=λ_=>CX0) (sp:=λw=>za2 (K w.params) 1 f_law) hn (by decide) hdf ⟨rfl,by decide,by decide,rfl⟩ hY F (λ_ _ a ns hl hO hS=>zhi (λn=>zhg ns (by lia) n) hO hS) λ_ _ _ _ _ h=>h.elim
end My
inductive PySem.W.Fast:Prop|tw8963183733832102398|tw15888244045288071563|tw4070495577967307975|tw3292032797299486636|tw1843601087824188598|tw9230571960629321236|tw3764434254480454289|tw13755457498830751517|tw15722721751212836649|tw16186703825424798597|tw6842355152552954085|tw12660816671309064991|tw16617229687887259598|tw6400758461199381288|tw10323238913333208595|tw17807180446193139321|tw1302927653380235056|tw7700315234287456033|tw8523346314441261337|tw9651059979202752604|tw7171565393254592188|tw18120864992615113796|tw15796923554321730058|tw16388705281749634913|tw1181114322954308369|tw1670342607199414133|tw10573042678543365444|tw16679214408051745080|tw7185295046764683667|tw11546219309601749284|tw9488956479972795340|tw8860731920367337509|tw18173003242640486469|tw17427821565561818701|tw18402202946919458144|tw12949823923006209854|tw9800281242750210766|tw17238437098770283432|tw2115421955511701671|tw12061124385631021843|tw9886398936957281450|tw1843648457644448979|tw6452486054044496163|tw15078821902358760640|tw15716710581518847917|tw2374172445384301004|tw14861880107067799748|tw10279518207414716082|tw756231042629862138|tw9440241298840593346|tw13869547883013721782|tw17859991114988105927|tw16226347414986176851|tw14113612567582048144|tw10736042151622906691|tw3902060320872736005|tw15826146057183933379|tw4897342815430517839|tw1068783880884434797|tw10114130375511143135|tw4275426553928869530|tw12647813450085848036|tw6533999166049037516|tw7370270992954299512|tw12050582428789871584|tw5838529215483635404|tw7174243497227382605|tw18146935441837034717|tw5434713846324021693|tw15217179102837810845|tw9942496310467474269|tw808989679491430098|tw15539388007471221240|tw13426253509603669690|tw10127867256343801308|tw7429439349725374030|tw8002781360868522614|tw8898255673137749300|tw16165048679036169410|tw14598888744983222948|tw3779321599006300179|tw977683700583460390|tw4901450137423435865|tw11394905786639118087|tw17053279185267117049|tw17976984943906745907|tw12565630125585176273|tw15371113688640184470|tw2456590872516305781|tw6694056381074745864|tw11420505478722871579|tw11500519963653905541|tw1429586224742219363|tw5970747537551492549
open PySem PySem.W PyProof.Rows
set_option maxRecDepth 100000 in
set_option maxHeartbeats 0 in
theorem PySem.Challenge.cw_signbench_k06_standings_holds : PySem.Challenge.rw_signbench_k06_standings.Holds := by
 w_on;o_law;k_head;(case hw=>w_witness2)
 k_fill
 refine My.zkf (l:=PySem.Challenge.rw_signbench_k06_standings) rfl rfl (λw h Y=>PySem.W.kIn_of Y) ?F
 case F=>
  intro w mg fa h KX G hmg
  apply My.zhj KX G hmg<;>first|(apply My.zjd<;>k_is)|k_is|kernel_rfl|rfl|decide
