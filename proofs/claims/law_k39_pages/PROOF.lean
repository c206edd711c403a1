import PyProof.Rows.All
import Wide.All
import OpenK.AllK
import Wide.FinOn
import Lean
import PyProof.EqAt
import PyProof.EqKinds
import PyProof.TupleCall
import PyProof.Draws
import PyProof.EnumMake
import PyProof.ListRange
import PyProof.Rows.CountFlat
import PyProof.Rows.Range3
import PySem.Challenge.RW_signbench_k39_pages
set_option Elab.async false
set_option linter.all false
set_option maxRecDepth 100000
namespace L2
open PySem PySem.Spec PyProof.Rows
noncomputable abbrev Key:=Sum Int Str
noncomputable def z4O:Key→Value→Bool
 | .inl k,v=>Value.isInt k v
 | .inr x,v=>Value.isStrOf x v
noncomputable def keyH(w:World):Key→Int
 | .inl k=>hashInt k
 | .inr x=>hashStr w x
theorem z0i: ∀{k:Key} {v:Value},z4O k v=true→(∃i t,k=Sum.inl i∧v=Value.int i t)∨(∃x t,k=Sum.inr x∧v=Value.str x t)
 | .inl i,v,h=>by
  obtain⟨t,e⟩:=Value.isInt_shape (k:=i) (v:=v) h
  exact .inl ⟨i,t,rfl,e⟩
 | .inr x,v,h=>by
  obtain⟨t,e⟩:=Value.isStrOf_shape (x:=x) (v:=v) h
  exact .inr ⟨x,t,rfl,e⟩
theorem z5n(i:Int)(t:Tok):z4O (.inl i) (.int i t)=true:=by simp[z4O,Value.isInt]
theorem z5o(x:Str)(t:Tok):z4O (.inr x) (.str x t)=true:=by simp[z4O,Value.isStrOf]
theorem z9V(a b:Int):decide ((Sum.inl a:Key)=Sum.inl b)=(a==b):=by
 by_cases e:a=b
 ·subst e;simp
 ·have h: ¬(Sum.inl a:Key)=Sum.inl b:=fun q=>e (Sum.inl.inj q)
  rw[decide_eq_false h]
  exact(beq_eq_false_iff_ne.mpr e).symm
theorem z9W(a b:Str):decide ((Sum.inr a:Key)=Sum.inr b)=decide (a=b):=by
 by_cases e:a=b
 ·subst e;simp
 ·have h: ¬(Sum.inr a:Key)=Sum.inr b:=fun q=>e (Sum.inr.inj q)
  rw[decide_eq_false h,decide_eq_false e]
theorem z9X(a:Int)(b:Str):decide ((Sum.inl a:Key)=Sum.inr b)=false:=decide_eq_false (fun q=>nomatch q)
theorem z9Y(a:Str)(b:Int):decide ((Sum.inr a:Key)=Sum.inl b)=false:=decide_eq_false (fun q=>nomatch q)
noncomputable def z0t(prog:Program)(w:World):PySem.KeyKind prog w Key where
 is:=z4O
 hash:=keyH w
 inj:=fun v a b ha hb=>by
  rcases z0i ha with⟨i,t,rfl,rfl⟩|⟨x,t,rfl,rfl⟩
  ·rcases z0i hb with⟨j,u,rfl,e⟩|⟨y,u,rfl,e⟩
   ·injection e with e1 _;rw[e1]
   ·exact nomatch e
  ·rcases z0i hb with⟨j,u,rfl,e⟩|⟨y,u,rfl,e⟩
   ·exact nomatch e
   ·injection e with e1 _;rw[e1]
 byValue:=fun k v h=>by
  rcases z0i h with⟨i,t,rfl,rfl⟩|⟨x,t,rfl,rfl⟩<;>rfl
 pyHash:=fun hv h=>by
  rcases z0i hv with⟨i,t,rfl,rfl⟩|⟨x,t,rfl,rfl⟩
  ·exact wpAny_pyHash_int h
  ·exact wpAny_pyHash_str h
 eqBool:=fun hu hv h=>by
  rcases z0i hu with⟨i,t,rfl,rfl⟩|⟨x,t,rfl,rfl⟩
  ·rcases z0i hv with⟨j,u,rfl,rfl⟩|⟨y,u,rfl,rfl⟩
   ·rw[z9V] at h;exact wpAny_eqBool_int h
   ·rw[z9X] at h;exact SeqAt.EqAt.int_str i t y u _ _ _ _ h
  ·rcases z0i hv with⟨j,u,rfl,rfl⟩|⟨y,u,rfl,rfl⟩
   ·rw[z9Y] at h;exact SeqAt.EqAt.str_int x t j u _ _ _ _ h
   ·rw[z9W] at h;exact wpAny_eqBool_str h
 «strs» :=fun k x t v h=>by
  rcases z0i h with⟨i,u,rfl,e⟩|⟨y,u,rfl,e⟩
  ·exact nomatch e
  ·injection e with e1 _
   subst e1
   cases v<;>rfl
theorem z3H(prog:Program)(w:World)(i:Int)(t:Tok):(z0t prog w).is (.inl i) (.int i t)=true:=z5n i t
theorem z3I(prog:Program)(w:World)(x:Str)(t:Tok):(z0t prog w).is (.inr x) (.str x t)=true:=z5o x t
end L2
namespace L2
open PySem PySem.Spec PyProof.Rows
inductive V where
 |non|bl (b:Bool)|int (i:Int)|str (x:Str)|byt (b:Array UInt8)|flt (b:UInt64)|ref (a:Addr)|ty (n:String)
 deriving DecidableEq
noncomputable def RelV:V→Value→Prop
 | .non,u=>u=Value.none
 | .bl b,u=>u=Value.bool b
 | .int i,u=> ∃t,u=Value.int i t
 | .str x,u=> ∃t,u=Value.str x t
 | .byt b,u=> ∃t,u=Value.bytes b t
 | .flt b,u=> ∃t,u=Value.float b t
 | .ref a,u=>u=Value.ref a
 | .ty n,u=>u=Value.type n
noncomputable abbrev Vals:List V→List Value→Prop:=Paired RelV
theorem Vals.length{xs:List V}{us:List Value}(r:Vals xs us):xs.length=us.length:=Paired.length r
theorem Vals.get: ∀{xs:List V} {us:List Value} {i:Nat} {x:V},Vals xs us→xs[i]? =some x→∃u,us[i]? =some u∧RelV x u
 |_,_,_,_, .nil,e=>by simp at e
 |_,_,0,_, .cons r _,e=>by simp at e;subst e;exact⟨_,rfl,r⟩
 |_,_,i+1,x, .cons _ t,e=>by
  obtain⟨u,h1,h2⟩:=Vals.get (i:=i) (x:=x) t (by simpa using e)
  exact⟨u,by simpa using h1,h2⟩
theorem Vals.set{x:V}{u:Value}(r:RelV x u): ∀{xs:List V} {us:List Value} (i:Nat),Vals xs us→Vals (xs.set i x) (us.set i u)
 |_,_,_, .nil=> .nil
 |_,_,0, .cons _ t=> .cons r t
 |_,_,i+1, .cons q t=> .cons q (Vals.set r i t)
theorem Vals.append: ∀{xs ys:List V} {us ws:List Value},Vals xs us→Vals ys ws→Vals (xs++ys) (us++ws)
 |_,_,_,_, .nil,s=>s
 |_,_,_,_, .cons r t,s=> .cons r (Vals.append t s)
theorem Vals.take: ∀{xs:List V} {us:List Value} (n:Nat),Vals xs us→Vals (xs.take n) (us.take n)
 |_,_,0,_=> .nil
 |_,_,_+1, .nil=> .nil
 |_,_,n+1, .cons r t=> .cons r (Vals.take n t)
theorem Vals.drop: ∀{xs:List V} {us:List Value} (n:Nat),Vals xs us→Vals (xs.drop n) (us.drop n)
 |_,_,0,r=>r
 |_,_,_+1, .nil=> .nil
 |_,_,n+1, .cons _ t=>Vals.drop n t
noncomputable def RelO:Option V→Option Value→Prop
 |some v,some u=>RelV v u
 |none,none=>True
 |_,_=>False
noncomputable def KV{κ:Type}:List (κ×V)→List (κ×Value)→Prop:=Paired fun(p:κ×V) (q:κ×Value)=>p.1=q.1∧RelV p.2 q.2
noncomputable def kV:Key→V
 | .inl i=> .int i
 | .inr x=> .str x
inductive HO where
 |lst (xs:List V)
 |tup (xs:List V)
 |dK (kvs:List (Key×V))|dT (kvs:List (List Key×V))
 |set (S:Int→Bool) (n:Nat)
 |ins (C dx:Addr) (fs:List (Str×V))
 |own (x:Addr)
 |xd (fs:List (Str×V))
 |met (f x:Addr)
 |rng (lo hi:Int)
 |frz (o:Obj) (u:HO)
 |tbl (ps:Array Value)
 |ext (φ:Heap→Prop)
noncomputable abbrev Hp:=Addr→Option HO
noncomputable def upd(H:Hp)(a:Addr)(o:HO):Hp:=fun b=>if b=a then some o else H b
theorem z09{H:Hp}{a:Addr}{o:HO}:upd H a o a=some o:=by unfold upd;rw[if_pos rfl]
theorem z05{H:Hp}{a b:Addr}{o:HO}(h:b≠a):upd H a o b=H b:=by unfold upd;rw[if_neg h]
theorem z3J{H:Hp}{a b:Addr}{o u:HO}(h:H a=some o)(h':H b=some u)(d:o≠u):a≠b:=by
 intro e;subst e;rw[h] at h';exact d (Option.some.inj h')
theorem z0p{H:Hp}{a b:Addr}{o:HO}(h:H a=some o)(h':H b=none):a≠b:=by
 intro e;subst e;rw[h] at h';cases h'
section
variable(P:Program)(w:World)
noncomputable def z0C(H:Hp)(h:Heap)(a:Addr):HO→Prop
 | .lst xs=>xs.length≤sizeLine∧∃(its:List Value) (n:Nat),Vals xs its∧h.get? a=some {cls:= .type "list",data:= .seq its.toArray n}
 | .tup xs=>xs.length≤sizeLine∧∃its:List Value,Vals xs its∧IsTup h a its.toArray
 | .dK kvs=>kvs.length≤sizeLine∧(a==sysModules)=false∧∃vs,KV kvs vs∧h.DictOf (z0t P w) a vs
 | .dT kvs=>kvs.length≤sizeLine∧(a==sysModules)=false∧∃xs:List (List Key×Addr×Value),
  Paired (fun(p:List Key×V) (q:List Key×Addr×Value)=>p.1=q.1∧H q.2.1=some (.tup (p.1.map kV))∧RelV p.2 q.2.2) kvs xs∧
  ∃o es ep,h.get? a=some o∧o.ExactDict∧o.data= .dict es ep∧es.toList=xs.map (entryOfKey (tupleKind (z0t P w)))∧(xs.map (·.1)).Nodup
 | .set S n=>h.SetOf (intKind P w) a S n
 | .ins C dx fs=>H dx=some (.own a)∧fs.length≤1000∧dx≠a∧h.get? a=some (PySem.W.instObj C dx)∧
  ∃mA,h.Ns1 dx mA∧(∀f,RelO (fs.lookup f) (mA f))∧PySem.Within mA (fs.map (·.1))
 | .own _=> ∃o,h.get? a=some o
 | .xd fs=> ∃mA,h.Ns1 a mA∧∀f,RelO (fs.lookup f) (mA f)
 | .rng lo hi=> ∃t u v,h.get? a=some {cls:= .type "range",data:= .fields #[.int lo t, .int hi u, .int 1 v]}
 | .frz o u=>h.get? a=some o∧z0C H h a u
 | .tbl ps=>h.get? a=some {cls:= .none,data:= .fields ps}
 | .met f x=>h.get? a=some (PySem.W.methodObj (.ref f) (.ref x))
 | .ext φ=>φ h∧(∃o,h.get? a=some o)∧∀h1 h2:Heap,φ h1→(∀o,h1.get? a=some o→h2.get? a=some o)→φ h2
noncomputable def HOk(H:Hp)(h:Heap):Prop:= ∀a o,H a=some o→z0C P w H h a o
end
section
variable{P:Program}{w:World}{H H':Hp}{h h':Heap}{a:Addr}{o:HO}
theorem z0C.lt(x:z0C P w H h a o):a<h.objs.size:=by
 cases o with
 |lst xs=>obtain⟨_,_,_,_,e⟩:=x;exact Heap.lt_size e
 |tup xs=>obtain⟨_,_,_,p⟩:=x;exact p.lt
 |dK kvs=>obtain⟨_,_,_,_,o,_,_,e,_⟩:=x;exact Heap.lt_size e
 |dT kvs=>obtain⟨_,_,_,_,o,_,_,e,_⟩:=x;exact Heap.lt_size e
 |set S n=>obtain⟨o,_,_,_,e,_⟩:=x;exact Heap.lt_size e
 |ins C dx fs=>obtain⟨_,_,_,e,_⟩:=x;exact Heap.lt_size e
 |own y=>obtain⟨_,e⟩:=x;exact Heap.lt_size e
 |xd fs=>obtain⟨_,⟨_,_,_,e,_⟩,_⟩:=x;exact Heap.lt_size e
 |rng lo hi=>obtain⟨_,_,_,e⟩:=x;exact Heap.lt_size e
 |frz ob u=>obtain⟨e,_⟩:=x;exact Heap.lt_size e
 |tbl ps=>exact Heap.lt_size (show h.get? a=some _ from x)
 |met f y=>exact Heap.lt_size (show h.get? a=some _ from x)
 |ext φ=>obtain⟨_,⟨_,e⟩,_⟩:=x;exact Heap.lt_size e
theorem Paired.mapP{α β:Type}{F G:α→β→Prop}: ∀{l₁:List α} {l₂:List β},Paired F l₁ l₂→(∀a b,F a b→G a b)→Paired G l₁ l₂
 |_,_, .nil,_=> .nil
 |_,_, .cons r t,f=> .cons (f _ _ r) (Paired.mapP t f)
theorem z0C.stay(x:z0C P w H h a o)(k: ∀b u,(b=a∨H b=some (.own a))→h.get? b=some u→h'.get? b=some u)
 (ho: ∀b,H b=some (.own a)→H' b=some (.own a)) (ht: ∀b xs,H b=some (.tup xs)→H' b=some (.tup xs)):z0C P w H' h' a o:=by
 induction o with
 |lst xs=>obtain⟨z,its,n,r,e⟩:=x;exact⟨z,its,n,r,k _ _ (.inl rfl) e⟩
 |tup xs=>obtain⟨z,its,r,ob,e,c⟩:=x;exact⟨z,its,r,ob,k _ _ (.inl rfl) e,c⟩
 |dK kvs=>obtain⟨z,y,vs,r,ob,es,ep,e,c⟩:=x;exact⟨z,y,vs,r,ob,es,ep,k _ _ (.inl rfl) e,c⟩
 |dT kvs=>
  obtain⟨z,y,xs,r,ob,es,ep,e,c⟩:=x
  exact⟨z,y,xs,Paired.mapP r fun p q z=>⟨z.1,ht _ _ z.2.1,z.2.2⟩,ob,es,ep,k _ _ (.inl rfl) e,c⟩
 |set S n=>obtain⟨ob,es,ep,t,e,c⟩:=x;exact⟨ob,es,ep,t,k _ _ (.inl rfl) e,c⟩
 |ins C dx fs=>
  obtain⟨d,z,ne,e,mA,⟨od,es,ep,e2,c⟩,r⟩:=x
  exact⟨ho _ d,z,ne,k _ _ (.inl rfl) e,mA,⟨od,es,ep,k _ _ (.inr d) e2,c⟩,r⟩
 |own y=>obtain⟨ob,e⟩:=x;exact⟨ob,k _ _ (.inl rfl) e⟩
 |xd fs=>obtain⟨mA,⟨od,es,ep,e,c⟩,r⟩:=x;exact⟨mA,⟨od,es,ep,k _ _ (.inl rfl) e,c⟩,r⟩
 |rng lo hi=>obtain⟨t,u,v,e⟩:=x;exact⟨t,u,v,k _ _ (.inl rfl) e⟩
 |frz ob u ih=>obtain⟨e,q⟩:=x;exact⟨k _ _ (.inl rfl) e,ih q⟩
 |tbl ps=>
  have e:h.get? a=some {cls:= .none,data:= .fields ps}:=x
  show h'.get? a=some {cls:= .none,data:= .fields ps}
  exact k a _ (.inl rfl) e
 |met f y=>
  have e:h.get? a=some (PySem.W.methodObj (.ref f) (.ref y)):=x
  show h'.get? a=some (PySem.W.methodObj (.ref f) (.ref y))
  exact k a _ (.inl rfl) e
 |ext φ=>obtain⟨p,⟨o,e⟩,st⟩:=x;exact⟨st _ _ p fun o q=>k _ _ (.inl rfl) q,⟨o,k _ _ (.inl rfl) e⟩,st⟩
theorem HOk.lt(x:HOk P w H h)(e:H a=some o):a<h.objs.size:=(x a o e).lt
theorem HOk.fresh(x:HOk P w H h)(e:h.objs.size≤a):H a=none:=by
 cases q:H a with
 |none=>rfl
 |some u=>exact absurd (Nat.lt_of_lt_of_le (x.lt q) e) (Nat.lt_irrefl _)
theorem HOk.kept(x:HOk P w H h)(k: ∀b u,h.get? b=some u→h'.get? b=some u):HOk P w H h':=fun a o e=>
 (x a o e).stay (fun b u _ q=>k b u q) (fun _ q=>q) fun _ _ q=>q
theorem HOk.laid(x:HOk P w H h)(k: ∀b u,h.get? b=some u→h'.get? b=some u)(hp:h.objs.size≤a)(new:z0C P w (upd H a o) h' a o):HOk P w (upd H a o) h':=fun b u e=>by
 have hn:=x.fresh hp
 by_cases hb:b=a
 ·subst hb;rw[z09] at e;cases e;exact new
 ·rw[z05 hb] at e
  exact(x b u e).stay (fun c v _ q=>k c v q) (fun c q=>by rw[z05 (z0p q hn)];exact q) fun c xs q=>by rw[z05 (z0p q hn)];exact q
end
noncomputable def Rd(H:Hp)(a:Addr)(u:HO):Prop:=H a=some u∨∃o,H a=some (.frz o u)
theorem Rd.ok{P:Program}{w:World}{H:Hp}{h:Heap}{a:Addr}{u:HO}(r:Rd H a u)(x:HOk P w H h):z0C P w H h a u:=by
 rcases r with r|⟨o,r⟩
 ·exact x a u r
 ·obtain⟨_,q⟩:=x a _ r
  exact q
noncomputable def Mut:Option HO→Prop
 |some (.lst _)=>True
 |some (.dK _)=>True
 |some (.dT _)=>True
 |some (.set _ _)=>True
 |some (.ins _ _ _)=>True
 |some (.ext _)=>True
 |_=>False
section
variable{P:Program}{w:World}{H:Hp}{h h':Heap}{x e:Addr}{o':HO}
theorem HOk.write(ok:HOk P w H h)(mu:Mut (H x))(he:e=x∨H e=some (.own x))(k: ∀b u,b≠e→h.get? b=some u→h'.get? b=some u)(heo: ∃u,h'.get? e=some u)
 (new:z0C P w (upd H x o') h' x o'):HOk P w (upd H x o') h':=fun b u q=>by
 have nown: ∀c y,H c=some (.own y)→c≠x:=fun c y r z=>by subst z;rw[r] at mu;exact mu
 have ntup: ∀c xs,H c=some (.tup xs)→c≠x:=fun c xs r z=>by subst z;rw[r] at mu;exact mu
 by_cases hb:b=x
 ·subst hb;rw[z09] at q;cases q;exact new
 ·rw[z05 hb] at q
  by_cases hbe:b=e
  ·have q':H b=some (.own x):=by
    rcases he with z|z
    ·exact absurd (hbe.trans z) hb
    ·rw[hbe];exact z
   rw[q] at q';cases q'
   obtain⟨v,hv⟩:=heo
   exact⟨v,by rw[hbe];exact hv⟩
  ·refine(ok b u q).stay (fun c v hc r=>k c v ?_ r) (fun c r=>by rw[z05 (nown c b r)];exact r) fun c xs r=>by rw[z05 (ntup c xs r)];exact r
   rcases hc with rfl|hc
   ·exact hbe
   ·rintro rfl
    rcases he with z|z
    ·exact nown c b hc z
    ·rw[hc] at z;cases z;exact hb rfl
end
structure Un(fs ex:List Addr)(H H':Hp)(h h':Heap):Prop where
 keep: ∀b o,h.get? b=some o→H b=none→b∉fs→b∉ex→h'.get? b=some o
 slot: ∀b o,h.get? b=some o→H b=none→b∈fs→b∉ex→∃sl,h'.get? b=some {o with slots:=sl}
 free: ∀b o,h.get? b=some o→H b=none→b∉ex→H' b=none
 there: ∀b o,h.get? b=some o→b∉ex→∃o',h'.get? b=some o'
 tups: ∀b xs,H b=some (.tup xs)→H' b=some (.tup xs)
 frzs: ∀b o u,H b=some (.frz o u)→H' b=some (.frz o u)
 tbls: ∀b ps,H b=some (.tbl ps)→∃more,H' b=some (.tbl (ps++more))
section
variable{fs fs' ex ex':List Addr}{H H1 H2:Hp}{h h1 h2 h':Heap}{a x e:Addr}{o:HO}
theorem Un.any(u:Un fs ex H H1 h h1){b:Addr}{ob:Obj}(q:h.get? b=some ob)(n:H b=none)(hx:b∉ex): ∃sl,h1.get? b=some {ob with slots:=sl}:=by
 by_cases hb:b∈fs
 ·exact u.slot b ob q n hb hx
 ·exact⟨ob.slots,u.keep b ob q n hb hx⟩
theorem Un.kept(k: ∀b u,h.get? b=some u→h'.get? b=some u):Un fs ex H H h h':=
 ⟨fun b ob q _ _ _=>k b ob q,fun b ob q _ _ _=>⟨ob.slots,k b ob q⟩,fun _ _ _ n _=>n,fun b ob q _=>⟨ob,k b ob q⟩,fun _ _ q=>q,fun _ _ _ q=>q,fun _ ps q=>⟨#[],by rw[q];simp⟩⟩
theorem Un.refl:Un fs ex H H h h:=Un.kept fun _ _ q=>q
theorem Un.laid(k: ∀b u,h.get? b=some u→h'.get? b=some u)(hp:h.objs.size≤a)(hn:H a=none):Un fs ex H (upd H a o) h h' where
 keep:=fun b u q _ _ _=>k b u q
 slot:=fun b u q _ _ _=>⟨u.slots,k b u q⟩
 free:=fun b u q n _=>by rw[z05 (Nat.ne_of_lt (Nat.lt_of_lt_of_le (Heap.lt_size q) hp))];exact n
 there:=fun b u q _=>⟨u,k b u q⟩
 tups:=fun b xs q=>by rw[z05 (z0p q hn)];exact q
 frzs:=fun b u xs q=>by rw[z05 (z0p q hn)];exact q
 tbls:=fun b ps q=>⟨#[],by rw[z05 (z0p q hn),q];simp⟩
theorem Un.write(mu:Mut (H x))(he:e=x∨H e=some (.own x))(k: ∀b u,b≠e→h.get? b=some u→h'.get? b=some u)(heo: ∃u,h'.get? e=some u):Un fs ex H (upd H x o) h h':=by
 have hx: ∀b,H b=none→b≠x:=fun b n z=>by subst z;rw[n] at mu;exact mu
 have hb: ∀b,H b=none→b≠e:=fun b n z=>by
  subst z
  rcases he with r|r
  ·exact hx b n r
  ·rw[n] at r;cases r
 have hm: ∀b u,H b=some u→¬Mut (some u)→b≠x:=fun b u q nm z=>by subst z;rw[q] at mu;exact nm mu
 refine⟨fun b u q n _ _=>k b u (hb b n) q,fun b u q n _ _=>⟨u.slots,k b u (hb b n) q⟩,fun b u q n _=>by rw[z05 (hx b n)];exact n,fun b u q _=> ?_,
  fun b xs q=>by rw[z05 (hm b _ q fun z=>z)];exact q,fun b u xs q=>by rw[z05 (hm b _ q fun z=>z)];exact q,fun b ps q=>⟨#[],by rw[z05 (hm b _ q fun z=>z),q];simp⟩⟩
 by_cases hbe:b=e
 ·subst hbe;exact heo
 ·exact⟨u,k b u hbe q⟩
end
noncomputable def trk(h:Heap)(H:Hp):List Addr:=(List.range h.objs.size).filter fun a=>(H a).isSome
noncomputable def hidT(h:Heap)(H:Hp):Heap:=PySem.W.hideAll h (trk h H)
theorem z5p(h:Heap)(H:Hp):(hidT h H).objs.size=h.objs.size:=PySem.W.hideAll_size _ _
theorem z77{h:Heap}{H:Hp}{b:Addr}{o:Obj}(e:h.get? b=some o)(n:H b=none):(hidT h H).get? b=some o:=
 PySem.W.hideAll_get _ e fun hm=>by
  have q:(H b).isSome=true:=(List.mem_filter.mp hm).2
  rw[n] at q;simp at q
theorem z8f{h:Heap}{H:Hp}{b:Addr}{o:Obj}(e:(hidT h H).get? b=some o):h.get? b=some o∧H b=none:=by
 have e':h.get? b=some o:=PySem.W.of_hideAll (trk h H) e
 refine⟨e', ?_⟩
 cases q:H b with
 |none=>rfl
 |some x=>
  have hm:b∈trk h H:=List.mem_filter.mpr ⟨List.mem_range.mpr (Heap.lt_size e'),by simp[q]⟩
  have z:(hidT h H).get? b=none:=PySem.W.hideAll_none (trk h H) hm
  rw[z] at e;cases e
noncomputable def z8g(g h:Heap)(L:Addr):List (Addr×Obj):=(List.range h.objs.size).filterMap fun a=>if a=L∨(g.get? a).isSome=true then none else(h.get? a).map fun o=>(a,o)
noncomputable def rest(g h:Heap)(L d:Addr):List (Addr×Obj):=(z8g g h L).filter fun p=>decide (p.1≠d)
end L2
namespace L2
open PySem PySem.Spec PyProof.Rows
structure Mod(K:PySem.W.Frag)(mg:Str→Option Value)(base:Heap):Prop where
 kin:K.In base
 glob:base.Ns mainGlobals mg
 blt: ∃mb,base.Ns builtinsNs mb∧∀x:Str,x≠ "__name__" →mb x=bootBuiltins x
 nolimit:base.NoLimit
structure Cx where
 prog:Program
 w:World
 K:PySem.W.Frag
 mg:Str→Option Value
 base:Heap
 A:Around
 N:List Str
 s₀:Shared
 H₀:Hp
 env:Env
 outer:List Env
 stack:List Env
 ex:List Addr
 fn:Str→Bool
 calm:Bool
 pn:List (Addr×Obj)
 xe:Value→Shared→Prop
noncomputable def frs(l:List Env):List Addr:=l.filterMap (·.frame)
noncomputable abbrev Cx.fs(X:Cx):List Addr:=frs X.outer
noncomputable def Vis(sc:Scope)(x:Str):Prop:=sc.names.lookup x=some .local∨sc.names.lookup x=some .cell∨sc.names.lookup x=some .free
noncomputable def Loc(sc:Scope)(x:Str):Prop:=sc.names.lookup x=some .local∨sc.names.lookup x=some .cell
noncomputable def Look(env:Env)(h:Heap)(m:Str→Option Value)(x:Str)(u:Value):Prop:=
 (env.kindOf x=some .local∧m x=some u)∨((env.kindOf x=some .cell∨env.kindOf x=some .free)∧∃c,env.cells.lookup x=some c∧h.IsCell c (some u))
structure Cx.Ok(X:Cx):Prop where
 mod:Mod X.K X.mg X.base
 kind:X.env.scope.kind= .function
 glob:X.env.globals=mainGlobals
 blt:X.env.builtins=builtinsNs
 above:X.s₀.heap.objs.size≤X.env.locals
 inj: ∀x y c,X.env.cells.lookup x=some c→X.env.cells.lookup y=some c→x=y
 has: ∀x,(X.env.kindOf x=some .cell∨X.env.kindOf x=some .free)→∃c,X.env.cells.lookup x=some c
 cab: ∀x c,X.fn x=true→X.env.cells.lookup x=some c→X.s₀.heap.objs.size≤c
 hd:X.calm=true→X.A.handled=none
 frames:X.A.frames=some X.stack
 stk:X.stack=X.outer∨(X.stack=X.env::X.outer∧X.env.frame=some X.env.locals)
 exf: ∀b∈X.ex,b≠X.env.locals∧∀x c,X.env.cells.lookup x=some c→c≠b
 bs: ∀b o,X.base.get? b=some o→X.s₀.heap.get? b=some o∧X.H₀ b=none
 bsz:X.base.objs.size≤X.s₀.heap.objs.size
 noex: ∀b o,X.base.get? b=some o→b∉X.ex
 exfs: ∀b∈X.ex,b∉X.fs
 funs:X.s₀.heap.FunFrames X.base X.outer
 frf: ∀b∈X.fs,X.H₀ b=none
structure Inv(X:Cx)(pins:List (Addr×Obj))(σ:List (Option V))(H:Hp)(s:Shared):Prop where
 ok:X.Ok
 os:s.os=X.s₀.os
 bare:AllBare s.gens
 base:Un X.fs X.ex X.H₀ H X.s₀.heap s.heap
 loc: ∃m,s.heap.Ns X.env.locals m∧∀(i:Nat) (x:Str) (v:V),X.N[i]? =some x→σ[i]? =some (some v)→Vis X.env.scope x→∃u,RelV v u∧Look X.env s.heap m x u
 cell: ∀x c,X.env.cells.lookup x=some c→∃v,s.heap.IsCell c v
 free:H X.env.locals=none
 freeC: ∀x c,X.env.cells.lookup x=some c→H c=none
 pin: ∀p∈X.pn++pins,s.heap.get? p.1=some p.2∧H p.1=none∧p.1≠X.env.locals∧p.1∉X.fs∧∀v,p.2.data≠ .cell v
 hok:HOk X.prog X.w H s.heap
 len:σ.length=X.N.length
section
variable{X:Cx}{pins:List (Addr×Obj)}{σ:List (Option V)}{H H':Hp}{s:Shared}{h':Heap}
theorem Cx.Ok.nofr(ok:X.Ok){b:Addr}{o:Obj}(e:X.base.get? b=some o):b∉X.fs:=fun hb=>by
 have:=(ok.funs.mem hb).1
 rw[e] at this;cases this
theorem Inv.bs(I:Inv X pins σ H s): ∀b o,X.base.get? b=some o→s.heap.get? b=some o∧H b=none:=fun b o e=>
 ⟨I.base.keep b o (I.ok.bs b o e).1 (I.ok.bs b o e).2 (I.ok.nofr e) (I.ok.noex b o e),I.base.free b o (I.ok.bs b o e).1 (I.ok.bs b o e).2 (I.ok.noex b o e)⟩
theorem Inv.bk(I:Inv X pins σ H s): ∀b o,X.base.get? b=some o→s.heap.get? b=some o:=fun b o e=>(I.bs b o e).1
theorem Inv.mod(I:Inv X pins σ H s):Mod X.K X.mg X.base:=I.ok.mod
theorem Inv.kIn(I:Inv X pins σ H s):X.K.In s.heap:=I.ok.mod.kin.keeps I.bk
theorem Inv.lt(I:Inv X pins σ H s):X.env.locals<s.heap.objs.size:=let⟨_,hn,_⟩:=I.loc;hn.lt
theorem Inv.sz(I:Inv X pins σ H s):X.s₀.heap.objs.size≤s.heap.objs.size:=Nat.le_trans I.ok.above (Nat.le_of_lt I.lt)
theorem Inv.nofs(I:Inv X pins σ H s){a:Addr}(h:s.heap.objs.size≤a):a∉X.fs:=fun hb=>by
 obtain⟨_,o,ho,_⟩:=I.ok.funs.mem hb
 exact absurd (Nat.lt_of_lt_of_le (Heap.lt_size ho) (Nat.le_trans I.sz h)) (Nat.lt_irrefl _)
theorem Inv.cne(I:Inv X pins σ H s): ∀x c,X.env.cells.lookup x=some c→c≠X.env.locals:=fun x c e z=>by
 obtain⟨v,o,ho,hd⟩:=I.cell x c e
 obtain⟨m,⟨o',es,ep,ho',hd',_⟩,_⟩:=I.loc
 rw[z,ho'] at ho;cases ho;rw[hd'] at hd;cases hd
theorem Inv.funs(I:Inv X pins σ H s):s.heap.FunFrames X.base X.outer:=by
 have all: ∀(l:List Env),(∀b∈frs l,b∈X.fs)→X.s₀.heap.FunFrames X.base l→s.heap.FunFrames X.base l:=by
  intro l
  induction l with
  |nil=>intro _ _;trivial
  |cons env r ih=>
   intro hs hl
   obtain⟨hk,⟨L,o,hf,hn,ho,hd⟩,hr⟩:=hl
   have hL:L∈X.fs:=hs L (by unfold frs;rw[List.filterMap_cons,hf];exact List.mem_cons_self)
   obtain⟨sl,e⟩:=I.base.slot L o ho (I.ok.frf L hL) hL fun z=>I.ok.exfs L z hL
   exact⟨hk,⟨L,_,hf,hn,e,hd⟩,ih (fun b hb=>hs b (by unfold frs;rw[List.filterMap_cons,hf];exact List.mem_cons_of_mem _ hb)) hr⟩
 exact all X.outer (fun _ hb=>hb) I.ok.funs
theorem Inv.stack(I:Inv X pins σ H s):s.heap.FunFrames X.base X.stack:=by
 rcases I.ok.stk with e|⟨e,hf⟩
 ·rw[e];exact I.funs
 ·rw[e]
  obtain⟨m,hn,_⟩:=I.loc
  refine .cons (by rw[I.ok.kind];decide) hf hn ?_ I.funs
  exact Heap.get?_none_of_le (Nat.le_trans I.ok.bsz I.ok.above)
theorem Inv.stkSub(I:Inv X pins σ H s): ∀b∈frs X.stack,b∈X.env.locals::X.fs:=fun b hb=>by
 rcases I.ok.stk with e|⟨e,hf⟩
 ·rw[e] at hb;exact List.mem_cons_of_mem _ hb
 ·rw[e] at hb
  unfold frs at hb
  rw[List.filterMap_cons,hf] at hb
  exact hb
theorem Inv.stkFree(I:Inv X pins σ H s): ∀b∈frs X.stack,H b=none:=fun b hb=>by
 rcases List.mem_cons.mp (I.stkSub b hb) with e|hb
 ·rw[e];exact I.free
 ·obtain⟨_,o,ho,_⟩:=I.ok.funs.mem hb
  exact I.base.free b o ho (I.ok.frf b hb) fun z=>I.ok.exfs b z hb
theorem Inv.step{g':Array GenState}{t':Nat}{d':Drawn}{ch:List Addr}(I:Inv X pins σ H s)
 (hch: ∀b∈ch,(b∈X.ex∨X.s₀.heap.objs.size≤b)∧b≠X.env.locals∧(∀x c,X.env.cells.lookup x=some c→c≠b)∧∀p∈X.pn++pins,p.1≠b)
 (keep: ∀b o,b≠X.env.locals→b∉X.fs→b∉ch→s.heap.get? b=some o→H b=none→h'.get? b=some o)
 (slot: ∀b o,b≠X.env.locals→b∈X.fs→b∉ch→s.heap.get? b=some o→H b=none→∃sl,h'.get? b=some {o with slots:=sl}) (free: ∀b o,b∉ch→s.heap.get? b=some o→H b=none→H' b=none)
 (there: ∀b o,b∉ch→s.heap.get? b=some o→∃o',h'.get? b=some o')
 (tups: ∀b xs,H b=some (.tup xs)→H' b=some (.tup xs)) (frzs: ∀b o u,H b=some (.frz o u)→H' b=some (.frz o u)) (tbls: ∀b ps,H b=some (.tbl ps)→∃more,H' b=some (.tbl (ps++more)))
 (ns: ∀m,s.heap.Ns X.env.locals m→h'.Ns X.env.locals m) (hok:HOk X.prog X.w H' h') (hg:AllBare g'):
 Inv X pins σ H' {s with heap:=h',gens:=g',drawn:=d',toks:=t'}:=by
 have neL: ∀b o,X.s₀.heap.get? b=some o→b≠X.env.locals:=fun b o e=>Nat.ne_of_lt (Nat.lt_of_lt_of_le (Heap.lt_size e) I.ok.above)
 have neC: ∀b o,X.s₀.heap.get? b=some o→b∉X.ex→b∉ch:=fun b o e hx hb=>by
  rcases(hch b hb).1 with z|z
  ·exact hx z
  ·exact absurd (Nat.lt_of_lt_of_le (Heap.lt_size e) z) (Nat.lt_irrefl _)
 have cellK: ∀x c,X.env.cells.lookup x=some c→∀v,s.heap.IsCell c v→h'.IsCell c v:=fun x c e v ⟨o,ho,hd⟩=>by
  have nch:c∉ch:=fun z=>(hch c z).2.2.1 x c e rfl
  by_cases hc:c∈X.fs
  ·obtain⟨sl,q⟩:=slot c o (I.cne x c e) hc nch ho (I.freeC x c e)
   exact⟨_,q,hd⟩
  ·exact⟨o,keep c o (I.cne x c e) hc nch ho (I.freeC x c e),hd⟩
 refine⟨I.ok,I.os,hg,⟨fun b o e n hb hx=> ?_,fun b o e n hb hx=> ?_,fun b o e n hx=> ?_,fun b o e hx=> ?_,fun b xs e=>tups b xs (I.base.tups b xs e),fun b o xs e=>frzs b o xs (I.base.frzs b o xs e),fun b ps e=> ?_⟩, ?_,fun x c e=> ?_, ?_,fun x c e=> ?_,fun p hp=> ?_,hok,I.len⟩
 ·exact keep b o (neL b o e) hb (neC b o e hx) (I.base.keep b o e n hb hx) (I.base.free b o e n hx)
 ·obtain⟨sl,e1⟩:=I.base.slot b o e n hb hx
  obtain⟨sl',e2⟩:=slot b _ (neL b o e) hb (neC b o e hx) e1 (I.base.free b o e n hx)
  exact⟨sl',e2⟩
 ·obtain⟨o',e1⟩:=I.base.there b o e hx
  exact free b o' (neC b o e hx) e1 (I.base.free b o e n hx)
 ·obtain⟨o',e1⟩:=I.base.there b o e hx
  exact there b o' (neC b o e hx) e1
 ·obtain⟨m1,e1⟩:=I.base.tbls b ps e
  obtain⟨m2,e2⟩:=tbls b _ e1
  exact⟨m1++m2,by rw[e2,Array.append_assoc]⟩
 ·obtain⟨m,hn,hl⟩:=I.loc
  refine⟨m,ns m hn,fun i x v e1 e2 e3=> ?_⟩
  obtain⟨u,r,l⟩:=hl i x v e1 e2 e3
  refine⟨u,r, ?_⟩
  rcases l with l|⟨k,c,e,z⟩
  ·exact .inl l
  ·exact .inr ⟨k,c,e,cellK x c e _ z⟩
 ·obtain⟨v,z⟩:=I.cell x c e
  exact⟨v,cellK x c e v z⟩
 ·obtain⟨m,⟨o,_,_,ho,_⟩,_⟩:=I.loc
  exact free _ o (fun z=>(hch _ z).2.1 rfl) ho I.free
 ·obtain⟨v,o,ho,hd⟩:=I.cell x c e
  exact free c o (fun z=>(hch c z).2.2.1 x c e rfl) ho (I.freeC x c e)
 ·obtain⟨e,n,ne,nf,d⟩:=I.pin p hp
  have nch:p.1∉ch:=fun z=>(hch p.1 z).2.2.2 p hp rfl
  exact⟨keep p.1 p.2 ne nf nch e n,free p.1 p.2 nch e n,ne,nf,d⟩
theorem Inv.un{t':Nat}(I:Inv X pins σ H s)(u:Un X.fs [] H H' s.heap h')(hok:HOk X.prog X.w H' h'):Inv X pins σ H' {s with heap:=h',toks:=t'}:=by
 obtain⟨m,⟨o,es,ep,ho,r⟩,_⟩:=id I.loc
 obtain⟨sl,hL⟩:=u.any ho I.free (by simp)
 exact I.step (g':=s.gens) (d':=s.drawn) (ch:=[]) (fun _ z=>nomatch z) (fun b o _ hb _ e n=>u.keep b o e n hb (by simp)) (fun b o _ hb _ e n=>u.slot b o e n hb (by simp)) (fun b o _ e n=>u.free b o e n (by simp)) (fun b o _ e=>u.there b o e (by simp)) u.tups u.frzs u.tbls (fun m' hm=>by
  obtain⟨o',es',ep',ho',r'⟩:=hm
  rw[ho] at ho';cases ho'
  exact⟨_,es',ep',hL,r'⟩) hok I.bare
theorem Inv.call{g':Array GenState}{t':Nat}{d':Drawn}{ch:List Addr}(I:Inv X pins σ H s)(u:Un (frs X.stack) ch H H' s.heap h')(hok:HOk X.prog X.w H' h')(hg:AllBare g')
 (hch: ∀b∈ch,(b∈X.ex∨X.s₀.heap.objs.size≤b)∧b≠X.env.locals∧(∀x c,X.env.cells.lookup x=some c→c≠b)∧∀p∈X.pn++pins,p.1≠b):
 Inv X pins σ H' {s with heap:=h',gens:=g',drawn:=d',toks:=t'}:=by
 obtain⟨m,⟨o,es,ep,ho,r⟩,_⟩:=id I.loc
 obtain⟨sl,hL⟩:=u.any ho I.free fun z=>(hch _ z).2.1 rfl
 exact I.step (ch:=ch) hch (fun b o hL hb hc e n=>u.keep b o e n (fun z=>(List.mem_cons.mp (I.stkSub b z)).elim hL hb) hc) (fun b o _ _ hc e n=>u.any e n hc) (fun b o hc e n=>u.free b o e n hc) (fun b o hc e=>u.there b o e hc) u.tups u.frzs u.tbls (fun m' hm=>by
  obtain⟨o',es',ep',ho',r'⟩:=hm
  rw[ho] at ho';cases ho'
  exact⟨_,es',ep',hL,r'⟩) hok hg
theorem Inv.turned{t':Nat}{it:Addr}(I:Inv X pins σ H s)(k: ∀b o,b≠it→s.heap.get? b=some o→h'.get? b=some o)(hn:H it=none)(hL:it≠X.env.locals)
 (h1:it∈X.ex∨X.s₀.heap.objs.size≤it) (h2: ∀x c,X.env.cells.lookup x=some c→c≠it) (h3: ∀p∈X.pn++pins,p.1≠it):Inv X pins σ H {s with heap:=h',toks:=t'}:=by
 have nit: ∀b u,H b=some u→b≠it:=fun b u e z=>by rw[z,hn] at e;cases e
 refine I.step (g':=s.gens) (d':=s.drawn) (ch:=[it]) (fun b hb=> ?_) (fun b o _ _ hc e _=>k b o (fun z=>hc (by simp[z])) e) (fun b o _ _ hc e _=>⟨o.slots,k b o (fun z=>hc (by simp[z])) e⟩) (fun _ _ _ _ n=>n)
  (fun b o hc e=>⟨o,k b o (fun z=>hc (by simp[z])) e⟩) (fun _ _ e=>e) (fun _ _ _ e=>e) (fun b ps e=>⟨#[],by rw[e];simp⟩) (fun m hm=> ?_) (fun b u e=> ?_) I.bare
 ·have e:b=it:=by simpa using hb
  subst e
  exact⟨h1,hL,h2,h3⟩
 ·obtain⟨o,es,ep,ho,r⟩:=hm
  exact⟨o,es,ep,k _ o (Ne.symm hL) ho,r⟩
 ·refine(I.hok b u e).stay (fun c v hc q=>k c v ?_ q) (fun _ q=>q) fun _ _ q=>q
  rcases hc with z|z
  ·rw[z];exact nit b u e
  ·exact nit c _ z
theorem Inv.tok(I:Inv X pins σ H s)(t:Nat):Inv X pins σ H {s with toks:=t}:=I.un (h':=s.heap) (t':=t) Un.refl I.hok
theorem Inv.kept{t':Nat}(I:Inv X pins σ H s)(k: ∀b u,s.heap.get? b=some u→h'.get? b=some u):Inv X pins σ H {s with heap:=h',toks:=t'}:=I.un (Un.kept k) (I.hok.kept k)
theorem Inv.laid{a:Addr}{o:HO}{t':Nat}(I:Inv X pins σ H s)(k: ∀b u,s.heap.get? b=some u→h'.get? b=some u)(hp:s.heap.objs.size≤a)(new:z0C X.prog X.w (upd H a o) h' a o):
 Inv X pins σ (upd H a o) {s with heap:=h',toks:=t'}:=I.un (Un.laid k hp (I.hok.fresh hp)) (I.hok.laid k hp new)
theorem Inv.write{x e:Addr}{o:HO}{t':Nat}(I:Inv X pins σ H s)(mu:Mut (H x))(he:e=x∨H e=some (.own x))(k: ∀b u,b≠e→s.heap.get? b=some u→h'.get? b=some u)(heo: ∃u,h'.get? e=some u)
 (new:z0C X.prog X.w (upd H x o) h' x o):Inv X pins σ (upd H x o) {s with heap:=h',toks:=t'}:=I.un (Un.write mu he k heo) (I.hok.write mu he k heo new)
theorem Inv.pins_of{pins':List (Addr×Obj)}(I:Inv X pins σ H s)(h: ∀p∈pins',s.heap.get? p.1=some p.2∧H p.1=none∧p.1≠X.env.locals∧p.1∉X.fs∧∀v,p.2.data≠ .cell v):Inv X pins' σ H s:=
 ⟨I.ok,I.os,I.bare,I.base,I.loc,I.cell,I.free,I.freeC,fun p hp=>(List.mem_append.mp hp).elim (fun z=>I.pin p (List.mem_append_left _ z)) (h p),I.hok,I.len⟩
theorem z4m{N:List Str}(hN:N.Nodup){i j:Nat}{x:Str}(a:N[i]? =some x)(b:N[j]? =some x):i=j:=by
 obtain⟨h1,e1⟩:=List.getElem?_eq_some_iff.mp a
 obtain⟨h2,e2⟩:=List.getElem?_eq_some_iff.mp b
 exact(List.getElem_inj hN).mp (e1.trans e2.symm)
theorem z5q{M:Model}{A:Around}{E:Value→Shared→Prop}{i:Nat}{x:Str}{v:V}{u:Value}{Q:Unit→Shared→Prop}(I:Inv X pins σ H s)(hN:X.N.Nodup)(hi:X.N[i]? =some x)(hx:Loc X.env.scope x)(r:RelV v u)
 (h: ∀s',Inv X pins (σ.set i (some v)) H s'→(∃a,Heap.SameBut a s.heap s'.heap∧(a=X.env.locals∨X.env.cells.lookup x=some a))→Q () s') (hf:X.fn x=true∨X.env.scope.names.lookup x=some .local:=by first|exact .inl rfl|exact .inr rfl|assumption):wpAny M A (storeName X.env x u) Q E s:=by
 obtain⟨m,hn,hl⟩:=id I.loc
 have hcls:(X.env.scope.kind== .class||(X.env.scope.kind== .module&&X.env.locals !=X.env.globals))=false:=by rw[I.ok.kind];rfl
 have hiσ:i<σ.length:=by rw[I.len];exact(List.getElem?_eq_some_iff.mp hi).1
 have cne:=I.cne
 have tracked: ∀{a:Addr} {h':Heap},(∃o,s.heap.get? a=some o∧H a=none)→Heap.SameBut a s.heap h'→HOk X.prog X.w H h':=fun{a h'} ha hs b ob e=>by
  obtain⟨_,_,hfree⟩:=ha
  refine(I.hok b ob e).stay (fun c w' hc q=>(hs.2 c ?_).trans q) (fun _ q=>q) fun _ _ q=>q
  rintro rfl
  rcases hc with rfl|hc
  ·rw[hfree] at e;cases e
  ·rw[hfree] at hc;cases hc
 rcases hx with hk|hk
 ·refine wpAny_storeName_local hk hn (fun h' hn' hs=> ?_) hcls
  obtain⟨oL,_,_,hoL,_⟩:=id hn
  refine h _ ⟨I.ok,I.os,I.bare,⟨fun b o e n hb hx=> ?_,fun b o e n hb hx=> ?_,I.base.free,fun b o e hx=> ?_,I.base.tups,I.base.frzs,I.base.tbls⟩,⟨_,hn',fun j y v' e1 e2 e3=> ?_⟩,fun y c e=> ?_,I.free,I.freeC,fun p hp=> ?_,tracked ⟨oL,hoL,I.free⟩ hs,by simpa using I.len⟩ ⟨_,hs, .inl rfl⟩
  ·exact(hs.2 b (Nat.ne_of_lt (Nat.lt_of_lt_of_le (Heap.lt_size e) I.ok.above))).trans (I.base.keep b o e n hb hx)
  ·obtain⟨sl,e1⟩:=I.base.slot b o e n hb hx
   exact⟨sl,(hs.2 b (Nat.ne_of_lt (Nat.lt_of_lt_of_le (Heap.lt_size e) I.ok.above))).trans e1⟩
  ·obtain⟨o',e1⟩:=I.base.there b o e hx
   exact⟨o',(hs.2 b (Nat.ne_of_lt (Nat.lt_of_lt_of_le (Heap.lt_size e) I.ok.above))).trans e1⟩
  ·by_cases hj:j=i
   ·subst hj
    rw[hi] at e1;cases e1
    rw[List.getElem?_set_self hiσ] at e2
    cases e2
    exact⟨u,r, .inl ⟨hk,by simp⟩⟩
   ·rw[List.getElem?_set_ne (Ne.symm hj)] at e2
    obtain⟨u',r',q⟩:=hl j y v' e1 e2 e3
    refine⟨u',r', ?_⟩
    rcases q with⟨k,e⟩|⟨k,c,e,z⟩
    ·refine .inl ⟨k, ?_⟩
     have:y≠x:=fun e=>hj (z4m hN e1 (e▸hi))
     simp[this,e]
    ·exact .inr ⟨k,c,e,z.sameBut hs (cne y c e)⟩
  ·obtain⟨w',z⟩:=I.cell y c e
   exact⟨w',z.sameBut hs (cne y c e)⟩
  ·obtain⟨e,n,ne,nf,d⟩:=I.pin p hp
   exact⟨(hs.2 p.1 ne).trans e,n,ne,nf,d⟩
 ·have hfn:X.fn x=true:=by
   rcases hf with z|z
   ·exact z
   ·rw[z] at hk;cases hk
  obtain⟨c,hc⟩:=I.ok.has x (.inl hk)
  obtain⟨w',z⟩:=I.cell x c hc
  refine wpAny_storeName_cell I.ok.kind hk hc z (fun h' hc' hs=> ?_)
  obtain⟨oc,hoc,hocd⟩:=id z
  refine h {s with heap:=h'} ⟨I.ok,I.os,I.bare,⟨fun b o e n hb hx=> ?_,fun b o e n hb hx=> ?_,I.base.free,fun b o e hx=> ?_,I.base.tups,I.base.frzs,I.base.tbls⟩,⟨m,hn.sameBut hs (Ne.symm (cne x c hc)),fun j y v' e1 e2 e3=> ?_⟩,fun y c' e=> ?_,I.free,I.freeC,fun p hp=> ?_,tracked ⟨oc,hoc,I.freeC x c hc⟩ hs,by simpa using I.len⟩ ⟨c,hs, .inr hc⟩
  ·exact(hs.2 b (Nat.ne_of_lt (Nat.lt_of_lt_of_le (Heap.lt_size e) (I.ok.cab x c hfn hc)))).trans (I.base.keep b o e n hb hx)
  ·obtain⟨sl,e1⟩:=I.base.slot b o e n hb hx
   exact⟨sl,(hs.2 b (Nat.ne_of_lt (Nat.lt_of_lt_of_le (Heap.lt_size e) (I.ok.cab x c hfn hc)))).trans e1⟩
  ·obtain⟨o',e1⟩:=I.base.there b o e hx
   exact⟨o',(hs.2 b (Nat.ne_of_lt (Nat.lt_of_lt_of_le (Heap.lt_size e) (I.ok.cab x c hfn hc)))).trans e1⟩
  ·by_cases hj:j=i
   ·subst hj
    rw[hi] at e1;cases e1
    rw[List.getElem?_set_self hiσ] at e2
    cases e2
    exact⟨u,r, .inr ⟨.inl hk,c,hc,hc'⟩⟩
   ·rw[List.getElem?_set_ne (Ne.symm hj)] at e2
    obtain⟨u',r',q⟩:=hl j y v' e1 e2 e3
    refine⟨u',r', ?_⟩
    rcases q with q|⟨k,c',e,z'⟩
    ·exact .inl q
    ·refine .inr ⟨k,c',e,z'.sameBut hs ?_⟩
     rintro rfl
     exact hj (z4m hN e1 (I.ok.inj _ _ _ e hc▸hi))
  ·by_cases hcc:c'=c
   ·subst hcc;exact⟨_,hc'⟩
   ·obtain⟨w2,z2⟩:=I.cell y c' e
    exact⟨w2,z2.sameBut hs hcc⟩
  ·obtain⟨e,n,ne,nf,d⟩:=I.pin p hp
   refine⟨(hs.2 p.1 ?_).trans e,n,ne,nf,d⟩
   intro q
   rw[q,hoc] at e
   have q':oc=p.2:=Option.some.inj e
   exact d w' (by rw[←q'];exact hocd)
theorem z2K{M:Model}{A:Around}{E:Value→Shared→Prop}{i:Nat}{x:Str}{v:V}{u:Value}{Q:Unit→Shared→Prop}(I:Inv X pins σ H s)(hN:X.N.Nodup)(hi:X.N[i]? =some x)(hx:Loc X.env.scope x)(r:RelV v u)
 (h: ∀s',Inv X pins (σ.set i (some v)) H s'→Q () s') (hf:X.fn x=true∨X.env.scope.names.lookup x=some .local:=by first|exact .inl rfl|exact .inr rfl|assumption):wpAny M A (storeName X.env x u) Q E s:=
 z5q I hN hi hx r (fun s' I' _=>h s' I') hf
theorem Inv.call'{s':Shared}{ch:List Addr}(I:Inv X pins σ H s)(ho:s'.os=s.os)(u:Un (frs X.stack) ch H H' s.heap s'.heap)(hok:HOk X.prog X.w H' s'.heap)(hg:AllBare s'.gens)
 (hch: ∀b∈ch,(b∈X.ex∨X.s₀.heap.objs.size≤b)∧b≠X.env.locals∧(∀x c,X.env.cells.lookup x=some c→c≠b)∧∀p∈X.pn++pins,p.1≠b):Inv X pins σ H' s':=by
 obtain⟨h',g',d',t',o'⟩:=s'
 have e:o'=s.os:=ho
 subst e
 exact I.call (g':=g') (t':=t') (d':=d') u hok hg hch
end
noncomputable abbrev XK:=Value→Option Addr→Hp→Prop
noncomputable abbrev St:=List (Option V)
noncomputable abbrev VK:=V→Hp→Prop
noncomputable abbrev TE:=St→Hp→VK→Prop
noncomputable abbrev TT:=St→Hp→(Bool→Hp→Prop)→Prop
noncomputable abbrev TA:=St→Hp→(List V→Hp→Prop)→Prop
structure Ends where
 nx:St→Hp→Prop
 rt:VK
 bk:St→Hp→Prop:=fun _ _=>False
 ct:St→Hp→Prop:=fun _ _=>False
noncomputable abbrev TS:=Ends→St→Hp→Prop
noncomputable def EP(X:Cx)(pins:List (Addr×Obj))(σ:St)(Q:VK)(u:Value)(s':Shared):Prop:= ∃v H',Inv X pins σ H' s'∧RelV v u∧Q v H'
noncomputable def TP(X:Cx)(pins:List (Addr×Obj))(σ:St)(Q:Bool→Hp→Prop)(b:Bool)(s':Shared):Prop:= ∃H',Inv X pins σ H' s'∧Q b H'
noncomputable def AP(X:Cx)(pins:List (Addr×Obj))(σ:St)(Q:List V→Hp→Prop)(us:List Value)(s':Shared):Prop:= ∃vs H',Inv X pins σ H' s'∧Vals vs us∧Q vs H'
noncomputable def SP(X:Cx)(pins:List (Addr×Obj))(D:Ends)(f:Flow)(s':Shared):Prop:=
 match f with
 | .next=> ∃σ' H',Inv X pins σ' H' s'∧D.nx σ' H'
 | .brk=> ∃σ' H',Inv X pins σ' H' s'∧D.bk σ' H'
 | .cont=> ∃σ' H',Inv X pins σ' H' s'∧D.ct σ' H'
 | .ret u=> ∃v σ' H',Inv X pins σ' H' s'∧RelV v u∧D.rt v H'
noncomputable def PE(X:Cx)(e:Expr)(t:TE):Prop:=
 ∀(pins:List (Addr×Obj)) (s:Shared) (σ:St) (H:Hp) (Q:VK),Inv X pins σ H s→t σ H Q→wpAny (model X.prog X.w) X.A (eval e X.env) (EP X pins σ Q) X.xe s
noncomputable def PT(X:Cx)(e:Expr)(t:TT):Prop:=
 ∀(pins:List (Addr×Obj)) (s:Shared) (σ:St) (H:Hp) (Q:Bool→Hp→Prop),Inv X pins σ H s→t σ H Q→wpAny (model X.prog X.w) X.A (isTrue e X.env (eval e X.env)) (TP X pins σ Q) X.xe s
noncomputable def PW(X:Cx)(e:Expr)(t:TT):Prop:=
 ∀(whole:Sem Value) (pins:List (Addr×Obj)) (s:Shared) (σ:St) (H:Hp) (Q:Bool→Hp→Prop),Inv X pins σ H s→t σ H Q→wpAny (model X.prog X.w) X.A (isTrue e X.env whole) (TP X pins σ Q) X.xe s
theorem PW.pt{X:Cx}{e:Expr}{t:TT}(h:PW X e t):PT X e t:=h _
noncomputable def PA(X:Cx)(es:List Expr)(t:TA):Prop:=
 ∀(pos:Pos) (pins:List (Addr×Obj)) (s:Shared) (σ:St) (H:Hp) (Q:List V→Hp→Prop),Inv X pins σ H s→t σ H Q→wpAny (model X.prog X.w) X.A (spliced (backTo pos (starEach es X.env))) (AP X pins σ Q) X.xe s
noncomputable def PS(X:Cx)(st:Stmt)(t:TS):Prop:=
 ∀(pins:List (Addr×Obj)) (s:Shared) (σ:St) (H:Hp) (D:Ends),Inv X pins σ H s→t D σ H→wpAny (model X.prog X.w) X.A (exec st X.env) (SP X pins D) X.xe s
noncomputable def PSs(X:Cx)(st:List Stmt)(t:TS):Prop:=
 ∀(pins:List (Addr×Obj)) (s:Shared) (σ:St) (H:Hp) (D:Ends),Inv X pins σ H s→t D σ H→wpAny (model X.prog X.w) X.A (execs st X.env) (SP X pins D) X.xe s
theorem thn{α:Type}{t:Sem α}{Q Q':α→Shared→Prop}{M:Model}{A:Around}{E:Value→Shared→Prop}{s:Shared}(h:wpAny M A t Q E s)(hQ: ∀a s,Q a s→Q' a s):wpAny M A t Q' E s:=wpAny_mono h hQ fun _ _ x=>x
end L2
namespace L2
open PySem PySem.Spec PyProof.Rows
section
variable{X:Cx}
noncomputable def tVar(i:Nat):TE:=fun σ H Q=> ∃v,σ[i]? =some (some v)∧Q v H
noncomputable def tC(v:V):TE:=fun _ H Q=>Q v H
theorem z9Z{i:Nat}{x:Str}{pos:Pos}(hN:X.N[i]? =some x)(hv:Vis X.env.scope x)(hd:(x==("__debug__" :Str))=false:=by decide)(hcd:(x==("__classdict__" :Str))=false:=by decide):PE X (.Name x pos) (tVar i):=by
 intro pins s σ H Q I h
 obtain⟨v,e,h⟩:=h
 obtain⟨m,hn,hl⟩:=I.loc
 obtain⟨u,r,l⟩:=hl i x v hN e hv
 have fin:EP X pins σ Q u s:=⟨v,H,I,r,h⟩
 rcases l with⟨hk,hm⟩|⟨hk,c,hc,hcell⟩
 ·exact wpAny_Name (wpAny_loadName_local I.ok.kind hk hn hm fin) hd
 ·rcases hk with hk|hk
  ·exact wpAny_Name (wpAny_loadName_cell I.ok.kind hk hc hcell fin) hd
  ·exact wpAny_Name (wpAny_loadName_free I.ok.kind hk hc hcell fin hcd) hd
theorem z02{i j pos}:PE X (.Constant (.int i) j pos) (tC (.int i)):=fun _ _ _ H _ I h=>wpAny_Constant_int ⟨.int i,H,I.tok _,⟨_,rfl⟩,h⟩
theorem z2v{b j pos}:PE X (.Constant (.bool b) j pos) (tC (.bl b)):=fun _ _ _ H _ I h=>Constant_bool ⟨.bl b,H,I,rfl,h⟩
theorem z5r{x j pos}:PE X (.Constant (.str x) j pos) (tC (.str x)):=fun _ _ _ H _ I h=>Calls.Constant_str ⟨.str x,H,I.tok _,⟨_,rfl⟩,h⟩
noncomputable def Gl(X:Cx)(x:Str):Prop:=X.env.kindOf x=some .globalImplicit
theorem z21{E:Value→Shared→Prop}{pins:List (Addr×Obj)}{s:Shared}{σ:St}{H:Hp}{x:Str}{u:Value}{pos:Pos}{Q:Value→Shared→Prop}(I:Inv X pins σ H s)(hg:Gl X x)(hm:X.mg x=some u)(h:Q u s)
 (hd:(x==("__debug__" :Str))=false:=by decide):wpAny (model X.prog X.w) X.A (eval (.Name x pos) X.env) Q E s:=
 Calls.Name_function_global I.ok.kind hg (Calls.loadGlobal_global (by rw[I.ok.glob];exact I.mod.glob.keeps I.bk) hm h) hd
theorem z1q{E:Value→Shared→Prop}{pins:List (Addr×Obj)}{s:Shared}{σ:St}{H:Hp}{x:Str}{u:Value}{pos:Pos}{Q:Value→Shared→Prop}(I:Inv X pins σ H s)(hg:Gl X x)(hm:X.mg x=none)(hv:bootBuiltins x=some u)(h:Q u s)
 (hn:x≠ "__name__" :=by decide) (hd:(x==("__debug__" :Str))=false:=by decide):wpAny (model X.prog X.w) X.A (eval (.Name x pos) X.env) Q E s:=by
 obtain⟨mb,h1,h2⟩:=I.mod.blt
 exact Calls.Name_function_global I.ok.kind hg (Calls.loadGlobal_builtin (by rw[I.ok.glob];exact I.mod.glob.keeps I.bk) hm (by rw[I.ok.blt];exact h1.keeps I.bk) ((h2 x hn).trans hv) h) hd
theorem z0c{x:Str}{v:V}{u:Value}{pos:Pos}(hg:Gl X x)(hm:X.mg x=some u)(r:RelV v u)(hd:(x==("__debug__" :Str))=false:=by decide):PE X (.Name x pos) (tC v):=
 fun _ _ _ H _ I h=>z21 I hg hm ⟨v,H,I,r,h⟩ hd
theorem z3K{x:Str}{v:V}{u:Value}{pos:Pos}(hg:Gl X x)(hm:X.mg x=none)(hv:bootBuiltins x=some u)(r:RelV v u)(hn:x≠ "__name__" :=by decide)(hd:(x==("__debug__" :Str))=false:=by decide):PE X (.Name x pos) (tC v):=
 fun _ _ _ H _ I h=>z1q I hg hm hv ⟨v,H,I,r,h⟩ hn hd
variable{a b:Expr}{ta tb:TE}{pos:Pos}
variable{tA tB':TT}{rest:List Expr}
noncomputable def tAnd(t u:TT):TT:=fun σ H Q=>t σ H fun c H1=>if c=true then u σ H1 Q else Q false H1
noncomputable def tOr(t u:TT):TT:=fun σ H Q=>t σ H fun c H1=>if c=true then Q true H1 else u σ H1 Q
noncomputable def tNot(t:TT):TT:=fun σ H Q=>t σ H fun c H1=>Q (!c) H1
theorem z8h(ha:PT X a tA):PW X (.BoolOp .And [a] pos) tA:=by
 intro wh pins s σ H Q I h
 refine isTrue_and (thn (ha pins s σ H Q I h) fun c s1 e=> ?_)
 cases c with
 |true=>exact isTrue_and_nil e
 |false=>exact e
theorem za0(ha:PT X a tA):PW X (.BoolOp .Or [a] pos) tA:=by
 intro wh pins s σ H Q I h
 refine isTrue_or (thn (ha pins s σ H Q I h) fun c s1 e=> ?_)
 cases c with
 |false=>exact isTrue_or_nil e
 |true=>exact e
theorem za1(ha:PT X a tA)(hb:PW X (.BoolOp .And (b::rest) pos) tB'):PW X (.BoolOp .And (a::b::rest) pos) (tAnd tA tB'):=by
 intro wh pins s σ H Q I h
 refine isTrue_and (thn (ha pins s σ H _ I h) fun c s1 ⟨H1,I1,q1⟩=> ?_)
 cases c with
 |true=>exact hb wh pins s1 σ H1 Q I1 q1
 |false=>exact⟨H1,I1,q1⟩
theorem zbz(ha:PT X a tA)(hb:PW X (.BoolOp .Or (b::rest) pos) tB'):PW X (.BoolOp .Or (a::b::rest) pos) (tOr tA tB'):=by
 intro wh pins s σ H Q I h
 refine isTrue_or (thn (ha pins s σ H _ I h) fun c s1 ⟨H1,I1,q1⟩=> ?_)
 cases c with
 |true=>exact⟨H1,I1,q1⟩
 |false=>exact hb wh pins s1 σ H1 Q I1 q1
theorem za2(ha:PT X a tA):PT X (.UnaryOp .Not a pos) (tNot tA):=by
 intro pins s σ H Q I h
 exact isTrue_not (ha pins s σ H (fun c H1=>Q (!c) H1) I h)
noncomputable def zbA(ta tb:TE):TE:=fun σ H Q=>ta σ H fun x H1=> ∃c,x= .bl c∧if c=true then tb σ H1 Q else Q (.bl false) H1
noncomputable def tOrV(ta tb:TE):TE:=fun σ H Q=>ta σ H fun x H1=> ∃c,x= .bl c∧if c=true then Q (.bl true) H1 else tb σ H1 Q
noncomputable def zbB(ta:TE):TE:=fun σ H Q=>ta σ H fun x H1=> ∃c,x= .bl c∧Q (.bl (!c)) H1
theorem za3{op}{t:TE}(h:PE X a t):PE X (.BoolOp op [a] pos) t:=fun pins s σ H Q I hw=>BoolOp_one (h pins s σ H Q I hw)
theorem za4(ha:PE X a ta)(hb:PE X (.BoolOp .And (b::rest) pos) tb):PE X (.BoolOp .And (a::b::rest) pos) (zbA ta tb):=by
 intro pins s σ H Q I h
 refine BoolOp_and (thn (ha pins s σ H _ I h) fun v s1 ⟨x,H1,I1,r1,q1⟩=> ?_)
 obtain⟨c,rfl,q1⟩:=q1
 cases r1
 refine wpAny_truthy_bool ?_
 cases c with
 |true=>exact hb pins s1 σ H1 Q I1 q1
 |false=>exact⟨.bl false,H1,I1,rfl,q1⟩
theorem zbC(ha:PE X a ta)(hb:PE X (.BoolOp .Or (b::rest) pos) tb):PE X (.BoolOp .Or (a::b::rest) pos) (tOrV ta tb):=by
 intro pins s σ H Q I h
 refine BoolOp_or (thn (ha pins s σ H _ I h) fun v s1 ⟨x,H1,I1,r1,q1⟩=> ?_)
 obtain⟨c,rfl,q1⟩:=q1
 cases r1
 refine wpAny_truthy_bool ?_
 cases c with
 |false=>exact hb pins s1 σ H1 Q I1 q1
 |true=>exact⟨.bl true,H1,I1,rfl,q1⟩
theorem za5(ha:PE X a ta):PE X (.UnaryOp .Not a pos) (zbB ta):=by
 intro pins s σ H Q I h
 refine UnaryOp_ (thn (ha pins s σ H _ I h) fun v s1 ⟨x,H1,I1,r1,q1⟩=> ?_)
 obtain⟨c,rfl,q1⟩:=q1
 cases r1
 exact not_of (wpAny_truthy_bool ⟨.bl (!c),H1,I1,rfl,q1⟩)
end
end L2
namespace L2
open PySem PySem.Spec PyProof.Rows
noncomputable def SqL(K:PySem.W.Frag)(H:Hp)(a:Addr)(xs:List V):Prop:=
 Rd H a (.lst xs)∨
  ∃(o:Obj) (its:Array Value) (n:Nat),K.lookup a=some o∧o.cls= .type "list" ∧o.dict=none∧o.data= .seq its n∧its.size≤sizeLine∧Vals xs its.toList
noncomputable def SqT(K:PySem.W.Frag)(H:Hp)(a:Addr)(xs:List V):Prop:=
 Rd H a (.tup xs)∨
  ∃(o:Obj) (its:Array Value) (n:Nat),K.lookup a=some o∧o.cls= .type "tuple" ∧o.data= .seq its n∧its.size≤sizeLine∧Vals xs its.toList
noncomputable def absV:Value→Option V
 | .none=>some .non
 | .bool b=>some (.bl b)
 | .int i _=>some (.int i)
 | .str x _=>some (.str x)
 | .bytes b _=>some (.byt b)
 | .float b _=>some (.flt b)
 | .ref a=>some (.ref a)
 | .type n=>some (.ty n)
 |_=>none
theorem RelV.abs{x:V}{u:Value}(r:RelV x u):absV u=some x:=by
 cases x with
 |non=>cases r;rfl
 |bl _=>cases r;rfl
 |int _=>obtain⟨t,rfl⟩:=r;rfl
 |str _=>obtain⟨t,rfl⟩:=r;rfl
 |byt _=>obtain⟨t,rfl⟩:=r;rfl
 |flt _=>obtain⟨t,rfl⟩:=r;rfl
 |ref _=>cases r;rfl
 |ty _=>cases r;rfl
theorem RelV.inj{x y:V}{u:Value}(r:RelV x u)(q:RelV y u):x=y:=Option.some.inj (r.abs.symm.trans q.abs)
theorem Vals.inj: ∀{xs ys:List V} {us:List Value},Vals xs us→Vals ys us→xs=ys
 |_,_,_, .nil, .nil=>rfl
 |_,_,_, .cons r t, .cons r' t'=>by rw[r.inj r',Vals.inj t t']
section
variable{X:Cx}{pins:List (Addr×Obj)}{σ:St}{H:Hp}{s:Shared}{a:Addr}{xs ys:List V}
theorem SqL.of{K:PySem.W.Frag}(h:H a=some (.lst xs)):SqL K H a xs:= .inl (.inl h)
theorem SqT.of{K:PySem.W.Frag}(h:H a=some (.tup xs)):SqT K H a xs:= .inl (.inl h)
theorem Inv.list(I:Inv X pins σ H s)(h:SqL X.K H a xs): ∃its:List Value,Vals xs its∧PlainL s.heap a its.toArray∧xs.length≤sizeLine:=by
 rcases h with h|⟨o,its,n,hk,hc,hd,hs,hz,r⟩
 ·obtain⟨z,its,n,r,e⟩:=h.ok I.hok
  exact⟨its,r,⟨_,n,e,rfl,rfl,rfl⟩,z⟩
 ·refine⟨its.toList,r,⟨o,n,I.kIn a o hk,hc,hd,by simpa using hs⟩, ?_⟩
  have e:=r.length
  simp only[Array.length_toList] at e
  omega
theorem Inv.tuple(I:Inv X pins σ H s)(h:SqT X.K H a xs): ∃its:List Value,Vals xs its∧IsTup s.heap a its.toArray∧xs.length≤sizeLine:=by
 rcases h with h|⟨o,its,n,hk,hc,hs,hz,r⟩
 ·obtain⟨z,its,r,p⟩:=h.ok I.hok
  exact⟨its,r,p,z⟩
 ·refine⟨its.toList,r,⟨o,I.kIn a o hk,hc,n,by simpa using hs⟩, ?_⟩
  have e:=r.length
  simp only[Array.length_toList] at e
  omega
theorem Inv.list_inj(I:Inv X pins σ H s)(h:SqL X.K H a xs)(h':SqL X.K H a ys):xs=ys:=by
 obtain⟨its,r,⟨o,n,e,_,_,d⟩,_⟩:=I.list h
 obtain⟨its',r',⟨o',n',e',_,_,d'⟩,_⟩:=I.list h'
 rw[e] at e';cases e'
 rw[d] at d'
 injection d' with d1 _
 have:its=its':=by simpa using congrArg Array.toList d1
 subst this
 exact r.inj r'
theorem Inv.tuple_inj(I:Inv X pins σ H s)(h:SqT X.K H a xs)(h':SqT X.K H a ys):xs=ys:=by
 obtain⟨its,r,⟨o,e,_,n,d⟩,_⟩:=I.tuple h
 obtain⟨its',r',⟨o',e',_,n',d'⟩,_⟩:=I.tuple h'
 rw[e] at e';cases e'
 rw[d] at d'
 injection d' with d1 _
 have:its=its':=by simpa using congrArg Array.toList d1
 subst this
 exact r.inj r'
end
noncomputable abbrev Cx.wish(X:Cx)(E:Value→Shared→Prop):Cx:={X with xe:=E}
noncomputable abbrev Cx.nox(X:Cx):Cx:=X.wish fun _ _=>False
theorem Cx.Ok.wish{X:Cx}(ok:X.Ok)(E:Value→Shared→Prop):(X.wish E).Ok:=
 ⟨ok.mod,ok.kind,ok.glob,ok.blt,ok.above,ok.inj,ok.has,ok.cab,ok.hd,ok.frames,ok.stk,ok.exf,ok.bs,ok.bsz,ok.noex,ok.exfs,ok.funs,ok.frf⟩
theorem Cx.Ok.unwish{X:Cx}{E:Value→Shared→Prop}(ok:(X.wish E).Ok):X.Ok:=
 ⟨ok.mod,ok.kind,ok.glob,ok.blt,ok.above,ok.inj,ok.has,ok.cab,ok.hd,ok.frames,ok.stk,ok.exf,ok.bs,ok.bsz,ok.noex,ok.exfs,ok.funs,ok.frf⟩
section
variable{X:Cx}{pins:List (Addr×Obj)}{σ:St}{H:Hp}{s:Shared}{E:Value→Shared→Prop}
theorem Inv.wish(I:Inv X pins σ H s)(E:Value→Shared→Prop):Inv (X.wish E) pins σ H s:=⟨I.ok.wish E,I.os,I.bare,I.base,I.loc,I.cell,I.free,I.freeC,I.pin,I.hok,I.len⟩
theorem Inv.unwish(I:Inv (X.wish E) pins σ H s):Inv X pins σ H s:=⟨I.ok.unwish,I.os,I.bare,I.base,I.loc,I.cell,I.free,I.freeC,I.pin,I.hok,I.len⟩
theorem SP.unwish{D:Ends}{f:Flow}{s':Shared}(h:SP (X.wish E) pins D f s'):SP X pins D f s':=by
 cases f with
 |next=>obtain⟨σ',H',I,q⟩:=h;exact⟨σ',H',I.unwish,q⟩
 |brk=>obtain⟨σ',H',I,q⟩:=h;exact⟨σ',H',I.unwish,q⟩
 |cont=>obtain⟨σ',H',I,q⟩:=h;exact⟨σ',H',I.unwish,q⟩
 |ret u=>obtain⟨v,σ',H',I,r,q⟩:=h;exact⟨v,σ',H',I.unwish,r,q⟩
theorem PSs.nox{st:List Stmt}{t:TS}(h:PSs X.nox st t):PSs X st t:=fun pins s σ H D I hw=>
 wpAny_mono (h pins s σ H D (I.wish _) hw) (fun _ _ q=>q.unwish) fun _ _ z=>False.elim z
end
section
variable{X:Cx}{st:Stmt}{rest:List Stmt}{t u:TS}{e:Expr}{te:TE}{pos:Pos}
noncomputable def zbD:TS:=fun D σ H=>D.nx σ H
noncomputable def tSeq(t u:TS):TS:=fun D σ H=>t {D with nx:=u D} σ H
theorem z8i:PSs X [] zbD:=fun _ _ σ H _ I h=>wpAny_execs_nil ⟨σ,H,I,h⟩
theorem z78(h1:PS X st t)(h2:PSs X rest u):PSs X (st::rest) (tSeq t u):=by
 intro pins s σ H D I h
 refine wpAny_execs_cons (thn (h1 pins s σ H {D with nx:=u D} I h) fun f s1 q=> ?_)
 cases f with
 |next=>
  obtain⟨σ',H',I',q⟩:=q
  exact h2 pins s1 σ' H' D I' q
 |ret v=>exact q
 |brk=>exact q
 |cont=>exact q
theorem z8j(h1:PS X st t):PSs X [st] t:=by
 intro pins s σ H D I h
 refine wpAny_execs_cons (thn (h1 pins s σ H D I h) fun f s1 q=> ?_)
 cases f with
 |next=>exact wpAny_execs_nil q
 |ret v=>exact q
 |brk=>exact q
 |cont=>exact q
theorem Inv.quiet{pins:List (Addr×Obj)}{σ:St}{H:Hp}{s:Shared}(I:Inv X pins σ H s):interactive X.env=false:=by simp[interactive,I.ok.kind]
noncomputable def zbE(te:TE):TS:=fun D σ H=>te σ H fun _ H1=>D.nx σ H1
theorem z8k(he:PE X e te)(hs:swapsWith e none pos.line X.env=pure false:=by rfl):PS X (.Expr e pos) (zbE te):=by
 intro pins s σ H D I h
 exact wpAny_Expr_any (thn (he pins s σ H _ I h) fun v s1 ⟨x,H1,I1,r1,q1⟩=>⟨σ,H1,I1,q1⟩) I.quiet hs
noncomputable def tRet(te:TE):TS:=fun D σ H=>te σ H D.rt
theorem za6(he:PE X e te):PS X (.Return (some e) pos) (tRet te):=by
 intro pins s σ H D I h
 exact wpAny_Return_some (thn (he pins s σ H _ I h) fun v s1 ⟨x,H1,I1,r1,q1⟩=>⟨x,σ,H1,I1,r1,q1⟩)
noncomputable def tIfS(c:TT)(t u:TS):TS:=fun D σ H=>c σ H fun b H1=>if b=true then t D σ H1 else u D σ H1
theorem zbF{c:Expr}{a b:List Stmt}{tc:TT}(hc:PT X c tc)(ha:PSs X a t)(hb:PSs X b u):PS X (.If c a b pos) (tIfS tc t u):=by
 intro pins s σ H D I h
 refine wpAny_If (thn (hc pins s σ H _ I h) fun d s1 ⟨H1,I1,q1⟩=> ?_)
 cases d with
 |true=>exact ha pins s1 σ H1 D I1 q1
 |false=>exact hb pins s1 σ H1 D I1 q1
end
noncomputable abbrev TG:=V→St→Hp→(St→Hp→Prop)→Prop
noncomputable abbrev TGs:=List V→St→Hp→(St→Hp→Prop)→Prop
noncomputable def PG(X:Cx)(target:Expr)(t:TG):Prop:=
 ∀(pins:List (Addr×Obj)) (s:Shared) (σ:St) (H:Hp) (v:V) (u:Value) (Q:St→Hp→Prop),Inv X pins σ H s→RelV v u→t v σ H Q→
  wpAny (model X.prog X.w) X.A (assign target X.env u) (fun _ s'=> ∃σ' H',Inv X pins σ' H' s'∧Q σ' H') X.xe s
noncomputable def PGs(X:Cx)(ts:List Expr)(t:TGs):Prop:=
 ∀(pins:List (Addr×Obj)) (s:Shared) (σ:St) (H:Hp) (vs:List V) (us:List Value) (Q:St→Hp→Prop),Inv X pins σ H s→Vals vs us→t vs σ H Q→
  wpAny (model X.prog X.w) X.A (assignInOrder ((assignEach ts X.env).map (·.2)) us) (fun _ s'=> ∃σ' H',Inv X pins σ' H' s'∧Q σ' H') X.xe s
noncomputable abbrev TSet:=V→V→V→Hp→(Hp→Prop)→Prop
noncomputable def PSet(X:Cx)(t:TSet):Prop:=
 ∀(pins:List (Addr×Obj)) (s:Shared) (σ:St) (H:Hp) (o i v:V) (ov iv u:Value) (Q:Hp→Prop),Inv X pins σ H s→RelV o ov→RelV i iv→RelV v u→t o i v H Q→
  wpAny (model X.prog X.w) X.A (setItem ov iv u) (fun _ s'=> ∃H',Inv X pins σ H' s'∧Q H') X.xe s
section
variable{X:Cx}{pos:Pos}
noncomputable def z4P(i:Nat):TG:=fun v σ H Q=>Q (σ.set i (some v)) H
theorem z0F{i:Nat}{x:Str}(hN:X.N.Nodup)(hi:X.N[i]? =some x)(hx:Loc X.env.scope x)(hf:X.fn x=true∨X.env.scope.names.lookup x=some .local:=by first|exact .inl rfl|exact .inr rfl|assumption):PG X (.Name x pos) (z4P i):=by
 intro pins s σ H v u Q I r h
 exact wpAny_assign_Name (z2K I hN hi hx r (fun s' I'=>⟨_,H,I',h⟩) hf)
noncomputable def gNil:TGs:=fun vs σ H Q=>vs=[]∧Q σ H
noncomputable def zbG(t:TG)(u:TGs):TGs:=fun vs σ H Q=> ∃v r,vs=v::r∧t v σ H fun σ' H'=>u r σ' H' Q
theorem z8l:PGs X [] gNil:=by
 intro pins s σ H vs us Q I r h
 obtain⟨e,h⟩:=h
 subst e
 cases r
 exact assignInOrder_nil ⟨σ,H,I,h⟩
theorem z79{e:Expr}{es:List Expr}{t:TG}{u:TGs}(h1:PG X e t)(h2:PGs X es u)
 (hs:(assignEach (e::es) X.env).map (·.2)=assign e X.env::(assignEach es X.env).map (·.2):=by rfl):PGs X (e::es) (zbG t u):=by
 intro pins s σ H vs us Q I r h
 obtain⟨v,vr,e1,h⟩:=h
 subst e1
 cases r with
 |cons r rr=>
  rw[hs]
  refine assignInOrder_cons (thn (h1 pins s σ H _ _ _ I r h) fun _ s1 ⟨σ1,H1,I1,q1⟩=> ?_)
  exact h2 pins s1 σ1 H1 _ _ Q I1 rr q1
noncomputable def gTup(K:PySem.W.Frag)(n:Nat)(t:TGs):TG:=fun v σ H Q=> ∃a xs,v= .ref a∧SqT K H a xs∧xs.length=n∧t xs σ H Q
theorem za7{es:List Expr}{k:Nat}{t:TGs}{n:Nat}(hc:X.calm=true)(h:PGs X es t)
 (hn:(assignEach es X.env).length=n:=by rfl) (hst:(assignEach es X.env).findIdx? (·.1)=none:=by rfl):PG X (.Tuple es k pos) (gTup X.K n t):=by
 intro pins s σ H v u Q I r hw
 obtain⟨a,xs,e1,hq,hl,hw⟩:=hw
 subst e1
 cases r
 obtain⟨its,rv,ht,hz⟩:=I.tuple hq
 refine assign_Tuple_tuple (I.ok.hd hc) ht (by simp[hn,←hl,rv.length]) hst fun h' hx=> ?_
 have I1:Inv X pins σ H {s with heap:=h'}:=I.kept (t':=s.toks) fun b o e=>hx b o (Nat.ne_of_lt (Heap.lt_size e)) e
 exact h pins _ σ H xs _ Q I1 (by simpa using rv) hw
noncomputable def gSub(to ti:TE)(t:TSet):TG:=fun v σ H Q=>to σ H fun o H1=>ti σ H1 fun i H2=>t o i v H2 fun H3=>Q σ H3
theorem z80{o i:Expr}{to ti:TE}{t:TSet}(ho:PE X o to)(hi:PE X i ti)(hs:PSet X t)
 (ha: ∀v,assign (.Subscript o i pos) X.env v=(do
  let ov←holding [v] (eval o X.env)
  let iv←holding [v,ov] (eval i X.env)
  standAt pos
  holding [v,ov,iv] (setItem ov iv v)
  release [v,ov,iv] []):=by intro _;rfl):PG X (.Subscript o i pos) (gSub to ti t):=by
 intro pins s σ H v u Q I r h
 rw[ha]
 refine wpAny_bind (wpAny_holding (thn (ho pins s σ H _ I h) fun ov s1 ⟨x,H1,I1,r1,q1⟩=> ?_))
 refine wpAny_bind (wpAny_holding (thn (hi pins s1 σ H1 _ I1 q1) fun iv s2 ⟨y,H2,I2,r2,q2⟩=> ?_))
 refine wpAny_bind (wpAny_standAt (wpAny_bind (wpAny_holding (thn (hs pins s2 σ H2 x y v ov iv u _ I2 r1 r2 r q2) fun _ s3 ⟨H3,I3,q3⟩=> ?_))))
 exact wpAny_release ⟨σ,H3,I3,q3⟩
noncomputable def tAsg(te:TE)(g:TG):TS:=fun D σ H=>te σ H fun x H1=>g x σ H1 D.nx
theorem za8{tg e:Expr}{te:TE}{g:TG}(he:PE X e te)(hg:PG X tg g)(hs:swapsWithSole [tg] e pos.line X.env=pure false:=by rfl)(hw:swappedStores [tg] e X.env=pure none:=by rfl)
 (h1:(assignEach [tg] X.env).map (·.2)=[assign tg X.env]:=by rfl):PS X (.Assign [tg] e pos) (tAsg te g):=by
 intro pins s σ H D I h
 refine wpAny_Assign_stores (thn (he pins s σ H _ I h) fun v s1 ⟨x,H1,I1,r1,q1⟩=> ?_) hs hw
 rw[h1]
 exact thn (hg pins s1 σ H1 x v _ I1 r1 q1) fun _ s2 q=>q
theorem z0u{i:Nat}{x:Str}{e:Expr}{te:TE}{pos':Pos}(hN:X.N.Nodup)(hi:X.N[i]? =some x)(hx:Loc X.env.scope x)(he:PE X e te)(hs:swapsWith e (some (.Name x pos')) pos.line X.env=pure false:=by rfl)(hf:X.fn x=true∨X.env.scope.names.lookup x=some .local:=by first|exact .inl rfl|exact .inr rfl|assumption):
 PS X (.Assign [.Name x pos'] e pos) (tAsg te (z4P i)):=by
 intro pins s σ H D I h
 refine wpAny_Assign_Name (thn (he pins s σ H _ I h) fun v s1 ⟨y,H1,I1,r1,q1⟩=> ?_) hs
 exact z2K I1 hN hi hx r1 (fun s2 I2=>⟨_,H1,I2,q1⟩) hf
end
section
variable{X:Cx}{pos:Pos}
end
structure It where
 go:Nat→Hp→Prop
 yld:Nat→Hp→V→Hp→Prop
 stop:Nat→Hp→Prop
noncomputable def FpOk(X:Cx)(pins:List (Addr×Obj))(H:Hp)(b:Addr):Prop:=
 H b=none∧b≠X.env.locals∧b∉X.fs∧(b∈X.ex∨X.s₀.heap.objs.size≤b)∧(∀x c,X.env.cells.lookup x=some c→c≠b)∧∀p∈X.pn++pins,p.1≠b
theorem Inv.fpOk{X:Cx}{pins:List (Addr×Obj)}{σ:St}{H H':Hp}{s:Shared}{b:Addr}(I:Inv X pins σ H s)(hb:s.heap.objs.size≤b)(hn:H' b=none):FpOk X pins H' b:=by
 refine⟨hn,Nat.ne_of_gt (Nat.lt_of_lt_of_le I.lt hb),I.nofs hb, .inr (Nat.le_trans I.sz hb),fun x c e z=> ?_,fun p hp z=> ?_⟩
 ·obtain⟨v,q⟩:=I.cell x c e
  exact absurd (Nat.lt_of_lt_of_le q.lt (by rw[z];exact hb)) (Nat.lt_irrefl _)
 ·exact absurd (Nat.lt_of_lt_of_le (Heap.lt_size (I.pin p hp).1) (by rw[z];exact hb)) (Nat.lt_irrefl _)
structure Turn(P:Program)(w:World)(K:PySem.W.Frag)(tg:Expr)(J:It)(fp:List Addr)(it:Addr)(tn:Nat→Heap→Prop):Prop where
 mem:it∈fp
 obj: ∀i h,tn i h→∀b∈fp,∃o,h.get? b=some o∧∀v,o.data≠ .cell v
 keep: ∀i h h',tn i h→(∀b∈fp,∀o,h.get? b=some o→h'.get? b=some o)→tn i h'
 item: ∀(X:Cx),X.prog=P→X.w=w→X.K=K→X.calm=true→∀(i:Nat) (pins:List (Addr×Obj)) (s:Shared) (σ:St) (H:Hp) (E:Value→Shared→Prop),Inv X pins σ H s→(∀b∈fp,FpOk X pins H b)→tn i s.heap→J.go i H→
  wpAny (model P w) X.A (pyNext (.ref it)) (fun r s1=> ∃u,r=some u∧
   wpAny (model P w) X.A (letOwnedTupleGo tg (.ref it) u) (fun _ s2=> ∃x H',Inv X pins σ H' s2∧RelV x u∧J.yld i H x H'∧tn (i+1) s2.heap∧∀b∈fp,H' b=none) E s1) E s
 done: ∀(X:Cx),X.prog=P→X.w=w→X.K=K→X.calm=true→∀(i:Nat) (pins:List (Addr×Obj)) (s:Shared) (σ:St) (H:Hp) (E:Value→Shared→Prop),Inv X pins σ H s→(∀b∈fp,FpOk X pins H b)→tn i s.heap→J.stop i H→
  wpAny (model P w) X.A (pyNext (.ref it)) (fun r s1=>r=none∧Inv X pins σ H s1) E s
 self: ∀(A:Around) (i:Nat) (s:Shared) (Q:Value→Shared→Prop) (E:Value→Shared→Prop),tn i s.heap→Q (.ref it) s→wpAny (model P w) A (pyIter (.ref it)) Q E s
noncomputable abbrev TI:=St→Hp→(It→Hp→Prop)→Prop
noncomputable def PIE(X:Cx)(pins:List (Addr×Obj))(σ:St)(tg:Expr)(R:It→Hp→Prop)(itv:Value)(s2:Shared):Prop:=
 ∃(it:Addr) (fp:List Addr) (tn:Nat→Heap→Prop) (J:It) (H':Hp),itv= .ref it∧Inv X pins σ H' s2∧Turn X.prog X.w X.K tg J fp it tn∧tn 0 s2.heap∧(∀b∈fp,FpOk X pins H' b)∧R J H'
noncomputable def PI(X:Cx)(tg iter:Expr)(wi:TI):Prop:=
 ∀(pins:List (Addr×Obj)) (s:Shared) (σ:St) (H:Hp) (R:It→Hp→Prop),Inv X pins σ H s→wi σ H R→
  wpAny (model X.prog X.w) X.A (eval iter X.env) (fun v s1=>wpAny (model X.prog X.w) X.A (pyIter v) (PIE X pins σ tg R) X.xe s1) X.xe s
theorem z7a{M:Model}{A:Around}{E:Value→Shared→Prop}{s:Shared}{tg:Expr}{it:Addr}{u:Value}{o:Obj}{n:String}{vs:Array Value}{Q:Unit→Shared→Prop}(ho:s.heap.get? it=some o)(hc:o.cls= .type n)(hd:o.data= .fields vs)
 (hn:["enumerate", "zip", "dict_itemiterator", "dict_reverseitemiterator", "odict_iterator", "itertools.zip_longest", "itertools.pairwise"].contains n=false) (hQ:Q () s):wpAny M A (letOwnedTupleGo tg (.ref it) u) Q E s:=by
 unfold letOwnedTupleGo
 cases tg<;>first
  |exact wpAny_pure hQ
  |(cases u<;>first
   |exact wpAny_pure hQ
   |(refine wpAny_bind (wpAny_load ho ?_)
     rw[hc,hd]
     show wpAny M A (if(["enumerate", "zip", "dict_itemiterator", "dict_reverseitemiterator", "odict_iterator", "itertools.zip_longest", "itertools.pairwise"].contains n&&vs[0]? ==some (rawInt _))=true then _ else _) Q E s
     rw[if_neg (by intro h;rw[hn,Bool.false_and] at h;cases h)]
     exact wpAny_pure hQ))
noncomputable def Itl(K:PySem.W.Frag)(a:Addr):It:=
 ⟨fun i H=> ∃xs x,SqL K H a xs∧xs[i]? =some x,fun i H x H'=>H'=H∧∀xs,SqL K H a xs→xs[i]? =some x,fun i H=> ∃xs,SqL K H a xs∧xs.length≤i⟩
noncomputable def Itt(K:PySem.W.Frag)(a:Addr):It:=
 ⟨fun i H=> ∃xs x,SqT K H a xs∧xs[i]? =some x,fun i H x H'=>H'=H∧∀xs,SqT K H a xs→xs[i]? =some x,fun i H=> ∃xs,SqT K H a xs∧xs.length≤i⟩
noncomputable def Itr(lo:Int)(n:Nat):It:=⟨fun i _=>i<n,fun i H x H'=>H'=H∧x= .int (lo+i),fun i _=>n≤i⟩
theorem z5s{P:Program}{w:World}{K:PySem.W.Frag}{tg:Expr}(a it:Addr):Turn P w K tg (Itl K a) [it] it (fun i h=>h.IsListIter it a i) where
 mem:=by simp
 obj:=fun i h st b hb=>by
  have e:b=it:=by simpa using hb
  subst e
  obtain⟨o,e,c,d⟩:=st
  exact⟨o,e,fun v z=>by rw[d] at z;cases z⟩
 keep:=fun i h h' st k=>st.at fun o e=>k it (by simp) o e
 item:=by
  intro X hP hw hK hc i pins s σ H E I hf st hg
  subst hP hw hK
  obtain⟨xs,x,hq,hx⟩:=hg
  obtain⟨its,rv,p,hz⟩:=I.list hq
  obtain⟨u,hu,ru⟩:=rv.get hx
  obtain⟨f0,f1,f2,f3,f4,f5⟩:=hf it (by simp)
  refine wpAny_pyNext_list_item st p.isList (x:=u) (by simpa using hu) fun h' st' sb=> ?_
  have I1:Inv X pins σ H {s with heap:=h'}:=I.turned (t':=s.toks) (fun b o hb e=>(sb.2 b hb).trans e) f0 f1 f3 f4 f5
  obtain⟨o,e,c,d⟩:=id st'
  exact⟨u,rfl,z7a (s:={s with heap:=h'}) e c d (by decide) ⟨x,H,I1,ru,⟨rfl,fun ys hy=>by rw[I.list_inj hy hq];exact hx⟩,st',fun b hb=>(hf b hb).1⟩⟩
 done:=by
  intro X hP hw hK hc i pins s σ H E I hf st hg
  subst hP hw hK
  obtain⟨xs,hq,hx⟩:=hg
  obtain⟨its,rv,p,hz⟩:=I.list hq
  obtain⟨f0,f1,f2,f3,f4,f5⟩:=hf it (by simp)
  have hl:=rv.length
  exact wpAny_pyNext_list_end (I.ok.hd hc) st p.isList (by simp;omega) fun h' eb=>⟨rfl,I.turned (t':=s.toks) (fun b o hb e=>eb b o hb e) f0 f1 f3 f4 f5⟩
 self:=fun _ _ _ _ _ st h=>wpAny_pyIter_listiter st h
theorem z4Q{P:Program}{w:World}{K:PySem.W.Frag}{tg:Expr}(a it:Addr):Turn P w K tg (Itt K a) [it] it (fun i h=>h.IsTupleIter it a i) where
 mem:=by simp
 obj:=fun i h st b hb=>by
  have e:b=it:=by simpa using hb
  subst e
  obtain⟨o,e,c,d⟩:=st
  exact⟨o,e,fun v z=>by rw[d] at z;cases z⟩
 keep:=fun i h h' st k=>st.at fun o e=>k it (by simp) o e
 item:=by
  intro X hP hw hK hc i pins s σ H E I hf st hg
  subst hP hw hK
  obtain⟨xs,x,hq,hx⟩:=hg
  obtain⟨its,rv,p,hz⟩:=I.tuple hq
  obtain⟨u,hu,ru⟩:=rv.get hx
  obtain⟨f0,f1,f2,f3,f4,f5⟩:=hf it (by simp)
  refine wpAny_pyNext_tuple_item st (show s.heap.IsTuple a its.toArray from p) (x:=u) (by simpa using hu) fun h' st' sb=> ?_
  have I1:Inv X pins σ H {s with heap:=h'}:=I.turned (t':=s.toks) (fun b o hb e=>(sb.2 b hb).trans e) f0 f1 f3 f4 f5
  obtain⟨o,e,c,d⟩:=id st'
  exact⟨u,rfl,z7a (s:={s with heap:=h'}) e c d (by decide) ⟨x,H,I1,ru,⟨rfl,fun ys hy=>by rw[I.tuple_inj hy hq];exact hx⟩,st',fun b hb=>(hf b hb).1⟩⟩
 done:=by
  intro X hP hw hK hc i pins s σ H E I hf st hg
  subst hP hw hK
  obtain⟨xs,hq,hx⟩:=hg
  obtain⟨its,rv,p,hz⟩:=I.tuple hq
  obtain⟨f0,f1,f2,f3,f4,f5⟩:=hf it (by simp)
  have hl:=rv.length
  exact wpAny_pyNext_tuple_end (I.ok.hd hc) st (show s.heap.IsTuple a its.toArray from p) (by simp;omega) fun h' eb=>⟨rfl,I.turned (t':=s.toks) (fun b o hb e=>eb b o hb e) f0 f1 f3 f4 f5⟩
 self:=fun _ _ _ _ _ st h=>wpAny_pyIter_tupleiter st h
theorem z4R{P:Program}{w:World}{K:PySem.W.Frag}{tg:Expr}(it:Addr)(lo:Int)(n:Nat):Turn P w K tg (Itr lo n) [it] it (fun i h=>IsRangeIter h it (lo+(i:Nat)*1) ((n:Int) -(i:Nat)) 1) where
 mem:=by simp
 obj:=fun i h st b hb=>by
  have e:b=it:=by simpa using hb
  subst e
  exact⟨_,st,fun v z=>by
   have z':Data.fields _=Data.cell v:=z
   cases z'⟩
 keep:=fun i h h' st k=>k it (by simp) _ st
 item:=by
  intro X hP hw hK hc i pins s σ H E I hf st hg
  subst hP hw hK
  obtain⟨f0,f1,f2,f3,f4,f5⟩:=hf it (by simp)
  have W:=Walks.range (prog:=X.prog) (w:=X.w) (I.ok.hd hc) it lo 1 n
  refine W.item i s _ _ hg st fun v h' tk hv st' kk=> ?_
  obtain⟨t,rfl⟩:=hv
  have I1:Inv X pins σ H {s with heap:=h',toks:=tk}:=I.turned (fun b o hb e=>kk b o (by simpa using hb) e) f0 f1 f3 f4 f5
  refine⟨_,rfl,z7a (s:={s with heap:=h',toks:=tk}) (n:= "range_iterator") st' rfl rfl (by decide) ⟨.int (lo+i),H,I1,⟨t, ?_⟩,⟨rfl,rfl⟩,st',fun b hb=>(hf b hb).1⟩⟩
  rw[Int.mul_one]
 done:=by
  intro X hP hw hK hc i pins s σ H E I hf st hg
  subst hP hw hK
  obtain⟨f0,f1,f2,f3,f4,f5⟩:=hf it (by simp)
  exact wpAny_pyNext_range_end (I.ok.hd hc) st (by have:n≤i:=hg;omega) fun h' eb=>⟨rfl,I.turned (t':=s.toks) (fun b o hb e=>eb b o hb e) f0 f1 f3 f4 f5⟩
 self:=fun _ _ _ _ _ st h=>wpAny_pyIter_rangeiter st h
end L2
namespace L2
open PySem PySem.Spec PyProof.Rows
section
variable{X:Cx}{tg:Expr}
theorem z4n{pins:List (Addr×Obj)}{σ:St}{H:Hp}{s:Shared}{R:It→Hp→Prop}{E:Value→Shared→Prop}{lo hi:Int}{t u v:Tok}{tk:Nat}(I:Inv X pins σ H s)(h1: -(2^62)≤lo)(h2:lo<2^62)(h3: -(2^62)≤hi)(h4:hi<2^62)
 (q:R (Itr lo (hi -lo).toNat) H):wpAny (model X.prog X.w) X.A (pyIter (.ref s.heap.objs.size)) (PIE X pins σ tg R) E {s with heap:=s.heap.push {cls:= .type "range",data:= .fields #[.int lo t, .int hi u, .int 1 v]},toks:=tk}:=by
 refine wpAny_pyIter_range (IsRange.new ..) (small_one h1 h2 h3 h4) ?_
 have I1:Inv X pins σ H {s with heap:=s.heap.push {cls:= .type "range",data:= .fields #[.int lo t, .int hi u, .int 1 v]},toks:=tk}:=I.kept fun b o e=>Heap.get?_push_of_some _ e
 refine⟨(s.heap.push {cls:= .type "range",data:= .fields #[.int lo t, .int hi u, .int 1 v]}).objs.size,[(s.heap.push {cls:= .type "range",data:= .fields #[.int lo t, .int hi u, .int 1 v]}).objs.size],_,_,H,rfl,
  I1.kept (t':=tk) fun b o e=>Heap.get?_push_of_some _ e,z4R _ lo (hi -lo).toNat, ?_,fun b hb=> ?_,q⟩
 ·have e1:lo+((0:Nat):Int)*1=lo:=by simp
  have e2:(((hi -lo).toNat:Nat):Int) -((0:Nat):Int)=Builtin.Range.rangeSize lo hi 1:=by rw[rangeSize_one];split<;>omega
  show IsRangeIter _ _ (lo+((0:Nat):Int)*1) ((((hi -lo).toNat:Nat):Int) -((0:Nat):Int)) 1
  rw[e1,e2]
  exact Heap.get?_push_size _ rfl
 ·have e:b=(s.heap.push {cls:= .type "range",data:= .fields #[.int lo t, .int hi u, .int 1 v]}).objs.size:=by simpa using hb
  subst e
  exact I1.fpOk (Nat.le_refl _) (I1.hok.fresh (Nat.le_refl _))
noncomputable def zbH(ta:TA):TI:=fun σ H R=>ta σ H fun vs H1=> ∃j:Int,vs=[.int j]∧-(2^62)≤j∧j<2^62∧R (Itr 0 j.toNat) H1
noncomputable def zbI(ta:TA):TI:=fun σ H R=>ta σ H fun vs H1=> ∃i j:Int,vs=[.int i, .int j]∧(-(2^62)≤i∧i<2^62∧-(2^62)≤j∧j<2^62)∧R (Itr i (j -i).toNat) H1
theorem z5t{a:Expr}{ta:TA}{p pos:Pos}(hg:Gl X "range")(hm:X.mg "range" =none)(ha:PA X [a] ta)(hs:starEach [a] X.env=[(false,eval a X.env)]:=by rfl):PI X tg (.Call (.Name "range" p) [a] [] pos) (zbH ta):=by
 intro pins s σ H R I h
 refine Call_ (z1q I hg hm boot_range (PyProof.Rows.callWith_type1 (thn (ha pos pins s σ H _ I h) fun us s1 ⟨vs,H1,I1,r1,q1⟩=> ?_) hs rfl))
 obtain⟨j,e,q1,q2,q⟩:=q1
 subst e
 cases r1 with
 |cons r rr=>
  cases rr
  obtain⟨t,rfl⟩:=r
  exact call_range_1 (z4n I1 (by omega) (by omega) q1 q2 (by simpa using q))
theorem z5u{a b:Expr}{ta:TA}{p pos:Pos}(hg:Gl X "range")(hm:X.mg "range" =none)(ha:PA X [a,b] ta)(hs:starEach [a,b] X.env=[(false,eval a X.env),(false,eval b X.env)]:=by rfl)(hs2:starEach [b] X.env=[(false,eval b X.env)]:=by rfl):
 PI X tg (.Call (.Name "range" p) [a,b] [] pos) (zbI ta):=by
 intro pins s σ H R I h
 refine Call_ (z1q I hg hm boot_range (PyProof.Rows.callWith_type1 (thn (ha pos pins s σ H _ I h) fun us s1 ⟨vs,H1,I1,r1,q1⟩=> ?_) (by rw[hs,hs2]) (by rw[hs2];rfl)))
 obtain⟨i,j,e,⟨q1,q2,q3,q4⟩,q⟩:=q1
 subst e
 cases r1 with
 |cons r rr=>
  cases rr with
  |cons r' rr=>
   cases rr
   obtain⟨t,rfl⟩:=r
   obtain⟨t',rfl⟩:=r'
   exact call_range_2 (z4n I1 q1 q2 q3 q4 q)
noncomputable def tFor(wi:TI)(g:TG)(tb:TS):TS:=fun D σ H=>wi σ H fun J H1=> ∃W:Nat→Nat→St→Hp→Prop,(∃m,W 0 m σ H1)∧∀i m σ H,W i m σ H→
 (J.stop i H∧D.nx σ H)∨(J.go i H∧∃N:St→Hp→Prop,(∀σ' H',N σ' H'→∃m',m'<m∧W (i+1) m' σ' H')∧∀x H',J.yld i H x H'→g x σ H' fun σ2 H2=>tb {D with nx:=N,ct:=N,bk:=D.nx} σ2 H2)
noncomputable def z4o(fp:List Addr)(h:Heap):List (Addr×Obj):=fp.filterMap fun b=>(h.get? b).map fun o=>(b,o)
theorem z0K{fp:List Addr}{h:Heap}{b:Addr}{o:Obj}(hb:b∈fp)(e:h.get? b=some o):(b,o)∈z4o fp h:=List.mem_filterMap.mpr ⟨b,hb,by rw[e];rfl⟩
theorem z5v{fp:List Addr}{h:Heap}{p:Addr×Obj}(hp:p∈z4o fp h):p.1∈fp∧h.get? p.1=some p.2:=by
 obtain⟨b,hb,e⟩:=List.mem_filterMap.mp hp
 cases q:h.get? b with
 |none=>rw[q] at e;cases e
 |some o=>
  rw[q] at e
  have e':(b,o)=p:=Option.some.inj e
  subst e'
  exact⟨hb,q⟩
theorem Inv.pinned{pins:List (Addr×Obj)}{σ:St}{H:Hp}{s:Shared}{fp:List Addr}(I:Inv X pins σ H s)(hf: ∀b∈fp,FpOk X pins H b)(ho: ∀b∈fp,∃o,s.heap.get? b=some o∧∀v,o.data≠ .cell v):Inv X (pins++z4o fp s.heap) σ H s:=
 I.pins_of fun p hp=>(List.mem_append.mp hp).elim (fun z=>I.pin p (List.mem_append_right _ z)) fun z=>by
  obtain⟨hb,e⟩:=z5v z
  obtain⟨f0,f1,f2,_⟩:=hf p.1 hb
  obtain⟨o,e',d⟩:=ho p.1 hb
  rw[e] at e';cases e'
  exact⟨e,f0,f1,f2,d⟩
theorem Inv.unpinned{pins pl:List (Addr×Obj)}{σ:St}{H:Hp}{s:Shared}(I:Inv X (pins++pl) σ H s):Inv X pins σ H s:=I.pins_of fun p hp=>I.pin p (List.mem_append_right _ (List.mem_append_left _ hp))
theorem za9{iter:Expr}{body:List Stmt}{wi:TI}{g:TG}{tb:TS}{pos:Pos}(hp:PassesOwn (model X.prog X.w) X.A X.env X.xe)(hc:X.calm=true)(hi:PI X tg iter wi)(hg:PG X tg g)(hb:PSs X body tb)
 (hs: ∀x,foldedSetIterable iter X.env x=pure x:=by intro _;rfl):PS X (.For tg iter body [] pos) (tFor wi g tb):=by
 intro pins s σ H D I h
 refine wpAny_For (thn (hi pins s σ H _ I h) fun v s1 h1=>thn h1 fun itv s2 h2=> ?_) hs
 obtain⟨it,fp,tn,J,H2,e,I2,T,st2,f2,W,⟨m0,w0⟩,turn⟩:=h2
 subst e
 have stat: ∀{H':Hp},(∀b∈fp,H' b=none)→∀b∈fp,FpOk X pins H' b:=fun hn b hb=>⟨hn b hb,(f2 b hb).2⟩
 refine codeAny_forLoop_any (fun n s'=> ∃i σ' H',Inv X pins σ' H' s'∧tn i s'.heap∧(∀b∈fp,H' b=none)∧W i n σ' H') ?_ m0 ⟨0,σ,H2,I2,st2,fun b hb=>(f2 b hb).1,w0⟩
 rintro n s3 ⟨i,σ3,H3,I3,st3,fr3,w3⟩
 rcases turn i n σ3 H3 w3 with⟨stop,qn⟩|⟨go,N,hN,step⟩
 ·refine wpAny_passesOwn hp (thn (T.done X rfl rfl rfl hc i pins s3 σ3 H3 X.xe I3 (stat fr3) st3 stop) fun r s4 ⟨hr,I4⟩=> ?_)
  subst hr
  exact wpAny_execs_nil ⟨σ3,H3,I4,qn⟩
 ·refine wpAny_passesOwn hp (thn (T.item X rfl rfl rfl hc i pins s3 σ3 H3 X.xe I3 (stat fr3) st3 go) fun r s4 ⟨u,hr,h4⟩=> ?_)
  subst hr
  refine wpAny_passesOwn hp (thn h4 fun _ s5 ⟨x,H5,I5,r5,y5,st5,fr5⟩=> ?_)
  have I5':=I5.pinned (stat fr5) (T.obj _ _ st5)
  refine wpAny_passesOwn hp (thn (hg _ s5 σ3 H5 x u _ I5' r5 (step x H5 y5)) fun _ s6 ⟨σ6,H6,I6,q6⟩=> ?_)
  refine wpAny_passesOwn hp (thn (hb _ s6 σ6 H6 _ I6 q6) fun f s7 q7=> ?_)
  have again: ∀{σ7:St} {H7:Hp},Inv X (pins++z4o fp s5.heap) σ7 H7 s7→N σ7 H7→∃m,m<n∧∃i σ' H',Inv X pins σ' H' s7∧tn i s7.heap∧(∀b∈fp,H' b=none)∧W i m σ' H':=fun{σ7 H7} I7 n7=>by
   obtain⟨m',hm,w7⟩:=hN σ7 H7 n7
   refine⟨m',hm,i+1,σ7,H7,I7.unpinned,T.keep _ _ _ st5 fun b hb o e=>(I7.pin (b,o) (List.mem_append_right _ (List.mem_append_right _ (z0K hb e)))).1,fun b hb=> ?_,w7⟩
   obtain⟨o,e,d⟩:=T.obj _ _ st5 b hb
   exact(I7.pin (b,o) (List.mem_append_right _ (List.mem_append_right _ (z0K hb e)))).2.1
  cases f with
  |next=>obtain⟨σ7,H7,I7,n7⟩:=q7;exact again I7 n7
  |cont=>obtain⟨σ7,H7,I7,n7⟩:=q7;exact again I7 n7
  |brk=>obtain⟨σ7,H7,I7,q7⟩:=q7;exact⟨σ7,H7,I7.unpinned,q7⟩
  |ret v=>obtain⟨x7,σ7,H7,I7,r7,q7⟩:=q7;exact⟨x7,σ7,H7,I7.unpinned,r7,q7⟩
end
end L2
namespace L2
open PySem PySem.Spec PyProof.Rows
noncomputable abbrev R2:=V→V→Hp→VK→Prop
noncomputable def OpR(X:Cx)(f:Value→Value→Sem Value)(r:R2):Prop:=
 ∀(pins:List (Addr×Obj)) (s:Shared) (σ:St) (H:Hp) (x y:V) (v u:Value) (Q:VK),Inv X pins σ H s→RelV x v→RelV y u→r x y H Q→
  wpAny (model X.prog X.w) X.A (f v u) (EP X pins σ Q) X.xe s
noncomputable def UnR(X:Cx)(f:Value→Sem Value)(r:V→Hp→VK→Prop):Prop:=
 ∀(pins:List (Addr×Obj)) (s:Shared) (σ:St) (H:Hp) (x:V) (v:Value) (Q:VK),Inv X pins σ H s→RelV x v→r x H Q→
  wpAny (model X.prog X.w) X.A (f v) (EP X pins σ Q) X.xe s
noncomputable def CallR(X:Cx)(f:Value)(r:List V→Hp→VK→Prop):Prop:=
 ∀(pins:List (Addr×Obj)) (s:Shared) (σ:St) (H:Hp) (xs:List V) (us:List Value) (Q:VK),Inv X pins σ H s→Vals xs us→r xs H Q→
  wpAny (model X.prog X.w) X.A (call f us) (EP X pins σ Q) X.xe s
noncomputable def TruR(X:Cx)(r:V→Hp→(Bool→Hp→Prop)→Prop):Prop:=
 ∀(pins:List (Addr×Obj)) (s:Shared) (σ:St) (H:Hp) (x:V) (v:Value) (Q:Bool→Hp→Prop),Inv X pins σ H s→RelV x v→r x H Q→
  wpAny (model X.prog X.w) X.A (truthy v) (TP X pins σ Q) X.xe s
noncomputable def tOp(r:R2)(ta tb:TE):TE:=fun σ H Q=>ta σ H fun x H1=>tb σ H1 fun y H2=>r x y H2 Q
noncomputable def tUn(r:V→Hp→VK→Prop)(ta:TE):TE:=fun σ H Q=>ta σ H fun x H1=>r x H1 Q
noncomputable def rI(C:Int→Int→Prop)(g:Int→Int→V):R2:=fun x y H Q=> ∃i j,x= .int i∧y= .int j∧C i j∧Q (g i j) H
noncomputable def rI0(g:Int→Int→V):R2:=fun x y H Q=> ∃i j,x= .int i∧y= .int j∧Q (g i j) H
noncomputable def rU(g:Int→V):V→Hp→VK→Prop:=fun x H Q=> ∃i,x= .int i∧Q (g i) H
section
variable{X:Cx}{a b c:Expr}{ta tb tc:TE}{pos:Pos}
theorem binT(ha:PE X a ta)(hb:PE X b tb){pins:List (Addr×Obj)}{s:Shared}{σ:St}{H:Hp}{R:V→V→Hp→Prop}(I:Inv X pins σ H s)
 (h:ta σ H fun x H1=>tb σ H1 fun y H2=>R x y H2) {Q:Value→Shared→Prop} {f:Value→Value→Sem Value}
 (hf: ∀v u s2 x y H2,Inv X pins σ H2 s2→RelV x v→RelV y u→R x y H2→wpAny (model X.prog X.w) X.A (f v u) Q X.xe s2):
 wpAny (model X.prog X.w) X.A (eval a X.env) (fun v s₁=>wpAny (model X.prog X.w) X.A (eval b X.env) (fun u s₂=>wpAny (model X.prog X.w) X.A (f v u) Q X.xe s₂) X.xe s₁) X.xe s:=by
 refine thn (ha pins s σ H _ I h) fun v s1 ⟨x,H1,I1,r1,q1⟩=> ?_
 refine thn (hb pins s1 σ H1 _ I1 q1) fun u s2 ⟨y,H2,I2,r2,q2⟩=> ?_
 exact hf v u s2 x y H2 I2 r1 r2 q2
theorem zbJ{op:Operator}{r:R2}(ho:OpR X (binaryOp op) r)(ha:PE X a ta)(hb:PE X b tb):PE X (.BinOp a op b pos) (tOp r ta tb):=by
 intro pins s σ H Q I h
 exact wpAny_BinOp (binT ha hb I h fun v u s2 x y H2 I2 rx ry q=>ho pins s2 σ H2 x y v u Q I2 rx ry q)
theorem zbK{op:UnaryOp}{r:V→Hp→VK→Prop}(ho:UnR X (unaryOp op) r)(ha:PE X a ta):PE X (.UnaryOp op a pos) (tUn r ta):=by
 intro pins s σ H Q I h
 exact UnaryOp_ (thn (ha pins s σ H _ I h) fun v s1 ⟨x,H1,I1,r1,q1⟩=>ho pins s1 σ H1 x v Q I1 r1 q1)
theorem opI{f:Value→Value→Sem Value}{C:Int→Int→Prop}{g:Int→Int→Int}
 (rule: ∀(i j:Int) (t u:Tok) (s:Shared) (Q:Value→Shared→Prop) (E:Value→Shared→Prop),C i j→Q (.int (g i j) s.toks) {s with toks:=s.toks+1}→wpAny (model X.prog X.w) X.A (f (.int i t) (.int j u)) Q E s):
 OpR X f (rI C fun i j=> .int (g i j)):=by
 intro pins s σ H x y v u Q I rx ry h
 obtain⟨i,j,rfl,rfl,hc,q⟩:=h
 obtain⟨t,rfl⟩:=rx
 obtain⟨t',rfl⟩:=ry
 exact rule i j t t' s _ _ hc ⟨.int (g i j),H,I.tok _,⟨_,rfl⟩,q⟩
theorem opI0{f:Value→Value→Sem Value}{g:Int→Int→Int}
 (rule: ∀(i j:Int) (t u:Tok) (s:Shared) (Q:Value→Shared→Prop) (E:Value→Shared→Prop),Q (.int (g i j) s.toks) {s with toks:=s.toks+1}→wpAny (model X.prog X.w) X.A (f (.int i t) (.int j u)) Q E s):
 OpR X f (rI0 fun i j=> .int (g i j)):=by
 intro pins s σ H x y v u Q I rx ry h
 obtain⟨i,j,rfl,rfl,q⟩:=h
 obtain⟨t,rfl⟩:=rx
 obtain⟨t',rfl⟩:=ry
 exact rule i j t t' s _ _ ⟨.int (g i j),H,I.tok _,⟨_,rfl⟩,q⟩
theorem opB0{f:Value→Value→Sem Value}{g:Int→Int→Bool}
 (rule: ∀(i j:Int) (t u:Tok) (s:Shared) (Q:Value→Shared→Prop) (E:Value→Shared→Prop),Q (.bool (g i j)) s→wpAny (model X.prog X.w) X.A (f (.int i t) (.int j u)) Q E s):
 OpR X f (rI0 fun i j=> .bl (g i j)):=by
 intro pins s σ H x y v u Q I rx ry h
 obtain⟨i,j,rfl,rfl,q⟩:=h
 obtain⟨t,rfl⟩:=rx
 obtain⟨t',rfl⟩:=ry
 exact rule i j t t' s _ _ ⟨.bl (g i j),H,I,rfl,q⟩
noncomputable def CDiv(i j:Int):Prop:=0<j∧j<2^200
theorem zbL{x j:Int}(h1:0<j)(h2:j<2^200):Builtin.divisionGoesByPylong x j=false:=by
 refine PyProof.noPylong_of_log2 ?_
 have h3:j.natAbs.log2<200:=(Nat.log2_lt (by omega)).mpr (by omega)
 omega
noncomputable def CPow(i j:Int):Prop:=0≤j∧j≤1000000∧i.natAbs<2^64
noncomputable def CMul(i j:Int):Prop:=(-(2^64)<i∧i<2^64)∨(-(2^64)<j∧j<2^64)
theorem CMul.ok{i j:Int}(h:CMul i j):IntMulOk i j:=by
 rcases h with⟨h1,h2⟩|⟨h1,h2⟩
 ·exact .of_left (intBits_le_64 h1 h2)
 ·exact .of_right (intBits_le_64 h1 h2)
theorem zaa:OpR X (binaryOp .Add) (rI0 fun i j=> .int (i+j)):=opI0 fun _ _ _ _ _ _ _ q=>add_int q
theorem zab:OpR X (binaryOp .Sub) (rI0 fun i j=> .int (i -j)):=opI0 fun _ _ _ _ _ _ _ q=>sub_int q
theorem zac:OpR X (binaryOp .Mult) (rI CMul fun i j=> .int (i*j)):=opI fun _ _ _ _ _ _ _ hc q=>mul_int q hc.ok
theorem z8m:OpR X (binaryOp .FloorDiv) (rI CDiv fun i j=> .int (i/j)):=opI fun i j _ _ _ _ _ hc q=>by
 have h1:(0:Int)<j:=hc.1
 have h2:j<2^200:=hc.2
 exact floordiv_int (by omega) (by rw[Int.fdiv_eq_ediv_of_nonneg i (by omega)];exact q) (.inl (zbL h1 h2))
theorem zad:OpR X (binaryOp .Mod) (rI (fun _ j=>0<j) fun i j=> .int (i %j)):=opI fun i j _ _ _ _ _ hc q=>by
 have h1:(0:Int)<j:=hc
 exact mod_int' (by omega) (by rw[Int.fmod_eq_emod_of_nonneg i (by omega)];exact q)
theorem zae:OpR X (binaryOp .Pow) (rI CPow fun i j=> .int (i^j.toNat)):=opI fun _ _ _ _ _ _ _ hc q=>pow_int_small hc.1 hc.2.1 hc.2.2 q
theorem unI{f:Value→Sem Value}{g:Int→Int}
 (rule: ∀(i:Int) (t:Tok) (s:Shared) (Q:Value→Shared→Prop) (E:Value→Shared→Prop),Q (.int (g i) s.toks) {s with toks:=s.toks+1}→wpAny (model X.prog X.w) X.A (f (.int i t)) Q E s):
 UnR X f (rU fun i=> .int (g i)):=by
 intro pins s σ H x v Q I rx h
 obtain⟨i,rfl,q⟩:=h
 obtain⟨t,rfl⟩:=rx
 exact rule i t s _ _ ⟨.int (g i),H,I.tok _,⟨_,rfl⟩,q⟩
theorem zaf:UnR X (unaryOp .USub) (rU fun i=> .int (-i)):=unI fun _ _ _ _ _ q=>neg_int q
end
section
variable{X:Cx}{a b c:Expr}{ta tb tc:TE}{pos:Pos}
theorem zbM:OpR X (compareOp .Lt) (rI0 fun i j=> .bl (decide (i<j))):=opB0 fun _ _ _ _ _ _ _ q=>lt_int q
theorem zbN:OpR X (compareOp .LtE) (rI0 fun i j=> .bl (decide (i≤j))):=opB0 fun _ _ _ _ _ _ _ q=>le_int q
theorem zbO:OpR X (compareOp .Gt) (rI0 fun i j=> .bl (decide (j<i))):=opB0 fun _ _ _ _ _ _ _ q=>gt_int q
theorem OpR.or{f:Value→Value→Sem Value}{r r':R2}(h:OpR X f r)(h':OpR X f r'):OpR X f (fun x y H Q=>r x y H Q∨r' x y H Q):=by
 intro pins s σ H x y v u Q I rx ry q
 rcases q with q|q
 ·exact h pins s σ H x y v u Q I rx ry q
 ·exact h' pins s σ H x y v u Q I rx ry q
theorem z1N(b:Expr){op:CmpOp}(h:op≠ .In:=by decide)(h2:op≠ .NotIn:=by decide):behindInMarks op b=false:=by
 have e1:(op==CmpOp.In)=false:=by cases op<;>first|rfl|exact absurd rfl h
 have e2:(op==CmpOp.NotIn)=false:=by cases op<;>first|rfl|exact absurd rfl h2
 cases b<;>simp[behindInMarks,e1,e2]
noncomputable def zag(t:TE):TT:=fun σ H Q=>t σ H fun x H'=> ∃k,x= .bl k∧Q k H'
theorem z8n{op:CmpOp}{r:R2}(ho:OpR X (compareOp op) r)(ha:PE X a ta)(hb:PE X b tb)(hm:behindInMarks op b=false):PT X (.Compare a [op] [b] pos) (zag (tOp r ta tb)):=by
 intro pins s σ H Q I h
 refine wpAny_isTrue_Compare1 (thn (ha pins s σ H _ I h) fun v s1 ⟨x,H1,I1,r1,q1⟩=>thn (hb pins s1 σ H1 _ I1 q1) fun u s2 ⟨y,H2,I2,r2,q2⟩=>
  thn (ho pins s2 σ H2 x y v u _ I2 r1 r2 q2) fun c s3 ⟨z,H3,I3,r3,k,e,q3⟩=> ?_) hm
 subst e
 cases r3
 exact wpAny_truthy_bool ⟨H3,I3,q3⟩
noncomputable def z81(r r':R2)(ta tb tc:TE):TE:=fun σ H Q=>ta σ H fun x H1=>tb σ H1 fun y H2=>r x y H2 fun z H3=> ∃k,z= .bl k∧
 (if k=true then tc σ H3 fun w' H4=>r' y w' H4 Q else Q (.bl false) H3)
theorem z7b{op op':CmpOp}{r r':R2}(ho:OpR X (compareOp op) r)(ho':OpR X (compareOp op') r')(ha:PE X a ta)(hb:PE X b tb)(hc:PE X c tc)
 (hm:lastMarks [op,op'] [b,c]=false:=by with_unfolding_all rfl):PT X (.Compare a [op,op'] [b,c] pos) (zag (z81 r r' ta tb tc)):=by
 intro pins s σ H Q I h
 refine isTrue_chain (thn (ha pins s σ H _ I h) fun v s1 ⟨x,H1,I1,r1,q1⟩=>test_link (thn (hb pins s1 σ H1 _ I1 q1) fun u s2 ⟨y,H2,I2,r2,q2⟩=>
  thn (ho pins s2 σ H2 x y v u _ I2 r1 r2 q2) fun d s3 ⟨z,H3,I3,r3,k,e,q3⟩=> ?_)) hm
 subst e
 cases r3
 refine wpAny_truthy_bool ?_
 cases k with
 |false=>
  obtain⟨k',e',q'⟩:=q3
  cases e'
  exact ite_ff ⟨H3,I3,q'⟩
 |true=>
  refine ite_tt (test_last (thn (hc pins s3 σ H3 _ I3 q3) fun w' s4 ⟨z',H4,I4,r4,q4⟩=>thn (ho' pins s4 σ H4 y z' u w' _ I4 r2 r4 q4) fun d' s5 ⟨z2,H5,I5,r5,k2,e2,q5⟩=> ?_))
  subst e2
  cases r5
  exact wpAny_truthy_bool ⟨H5,I5,q5⟩
noncomputable def TruV(K:PySem.W.Frag)(x:V)(H:Hp)(k:Bool):Prop:=
 match x with
 | .non=>k=false
 | .bl b=>k=b
 | .int i=>k=(i !=0)
 | .str y=>y.length≤sizeLine∧k=((y.length:Int) !=0)
 | .byt y=>y.size≤sizeLine∧k=((y.size:Int) !=0)
 | .ref p=>(∃xs,SqL K H p xs∧k= !xs.isEmpty)∨(∃xs,SqT K H p xs∧k= !xs.isEmpty)∨∃kvs,H p=some (.dK kvs)∧k= !kvs.isEmpty
 |_=>False
theorem z4S{κ:Type}{kvs:List (κ×V)}{vs:List (κ×Value)}(r:KV kvs vs):(!vs.isEmpty)= !kvs.isEmpty:=by
 cases r<;>rfl
theorem z2B{xs:List V}{its:List Value}(r:Vals xs its):(!its.toArray.isEmpty)= !xs.isEmpty:=by
 cases r<;>simp
theorem z39:(sizeLine:Nat)<2^63:=by rw[sizeLine_eq];decide
theorem zah:TruR X (fun x H Q=> ∃k,TruV X.K x H k∧Q k H):=by
 intro pins s σ H x v Q I rx h
 obtain⟨k,e,q⟩:=h
 have hl:=z39
 have hs:sizeLine=16777216:=sizeLine_eq
 cases x with
 |non=>
  cases rx
  have e':k=false:=e
  subst e'
  exact truthy_none ⟨H,I,q⟩
 |bl b=>
  cases rx
  have e':k=b:=e
  subst e'
  exact wpAny_truthy_bool ⟨H,I,q⟩
 |int i=>
  obtain⟨t,rfl⟩:=rx
  have e':k=(i !=0):=e
  subst e'
  exact PySem.P.truthy_int ⟨H,I,q⟩
 |str y=>
  obtain⟨t,rfl⟩:=rx
  obtain⟨hy,e'⟩:y.length≤sizeLine∧k=((y.length:Int) !=0):=e
  subst e'
  exact PySem.P.truthy_str (by omega) ⟨H,I.tok _,q⟩
 |byt y=>
  obtain⟨t,rfl⟩:=rx
  obtain⟨hy,e'⟩:y.size≤sizeLine∧k=((y.size:Int) !=0):=e
  subst e'
  exact PySem.W.truthy_bytes (by omega) ⟨H,I.tok _,q⟩
 |ref p=>
  cases rx
  have e':(∃xs,SqL X.K H p xs∧k= !xs.isEmpty)∨(∃xs,SqT X.K H p xs∧k= !xs.isEmpty)∨∃kvs,H p=some (.dK kvs)∧k= !kvs.isEmpty:=e
  rcases e' with⟨xs,hx,e'⟩|⟨xs,hx,e'⟩|⟨kvs,hx,e'⟩
  ·subst e'
   obtain⟨its,r,pl,hz⟩:=I.list hx
   have hlen:=r.length
   exact wpAny_truthy_list pl.isList (by simp only[List.size_toArray];omega) ⟨H,I.tok _,by rw[z2B r];exact q⟩
  ·subst e'
   obtain⟨its,r,pl,hz⟩:=I.tuple hx
   have hlen:=r.length
   exact truthy_tuple pl (by simp only[List.size_toArray];omega) ⟨H,I.tok _,by rw[z2B r];exact q⟩
  ·subst e'
   obtain⟨hz,hS,vs,r,m⟩:kvs.length≤sizeLine∧(p==sysModules)=false∧∃vs,KV kvs vs∧s.heap.DictOf (z0t X.prog X.w) p vs:=I.hok p _ hx
   have hlen:kvs.length=vs.length:=Paired.length r
   exact wpAny_truthy_dict hS m (by omega) ⟨H,I.tok _,by rw[z4S r];exact q⟩
 |_=>exact(show False from e).elim
theorem z7c(ha:PE X a ta)(he: ∀whole,isTrue a X.env whole=(do let v←whole;standAt a.pos;holding [v] (truthy v))):
 PT X a (fun σ H Q=>ta σ H fun x H'=> ∃k,TruV X.K x H' k∧Q k H'):=by
 intro pins s σ H Q I h
 exact isTrue_plain (thn (ha pins s σ H _ I h) fun v s1 ⟨x,H1,I1,r1,q1⟩=>zah pins s1 σ H1 x v Q I1 r1 q1) (he _)
theorem z4T:OpR X (binaryOp .Add) (fun x y H Q=> ∃i j,x= .str i∧y= .str j∧i.length+j.length≤sizeLine∧Q (.str (i++j)) H):=by
 intro pins s σ H x y v u Q I rx ry h
 obtain⟨i,j,rfl,rfl,hz,q⟩:=h
 obtain⟨t,rfl⟩:=rx
 obtain⟨t',rfl⟩:=ry
 exact add_str (fun t' tk=>⟨.str (i++j),H,I.tok _,⟨_,rfl⟩,q⟩) hz
theorem z4U{x:V}{us:List Value}(r:Vals [x] us): ∃u,us=[u]∧RelV x u:=by
 cases r with
 |cons r1 r2=>cases r2;exact⟨_,rfl,r1⟩
theorem z8o{x y:V}{us:List Value}(r:Vals [x,y] us): ∃u w',us=[u,w']∧RelV x u∧RelV y w':=by
 cases r with
 |cons r1 r2=>
  cases r2 with
  |cons r3 r4=>cases r4;exact⟨_,_,rfl,r1,r3⟩
theorem z7d:CallR X (.builtin "abs") (fun xs H Q=> ∃i,xs=[.int i]∧Q (.int (if i<0 then -i else i)) H):=by
 intro pins s σ H xs us Q I r h
 obtain⟨i,rfl,q⟩:=h
 obtain⟨u,rfl,t,rfl⟩:=z4U r
 exact call_abs_int fun u tk=>⟨.int (if i<0 then -i else i),H,I.tok _,⟨_,rfl⟩,q⟩
theorem z5w(hc:X.calm=true):CallR X (.builtin "max") (fun xs H Q=> ∃i j,xs=[.int i, .int j]∧Q (.int (if j>i then j else i)) H):=by
 intro pins s σ H xs us Q I r h
 obtain⟨i,j,rfl,q⟩:=h
 obtain⟨u,w',rfl,⟨t,rfl⟩,⟨t',rfl⟩⟩:=z8o r
 refine max_two_ints (I.ok.hd hc) fun h' tk k=>⟨_,H,I.kept k, ?_,q⟩
 by_cases hj:j>i
 ·rw[if_pos hj,if_pos hj];exact⟨_,rfl⟩
 ·rw[if_neg hj,if_neg hj];exact⟨_,rfl⟩
theorem z5x(hc:X.calm=true):CallR X (.builtin "min") (fun xs H Q=> ∃i j,xs=[.int i, .int j]∧Q (.int (if j<i then j else i)) H):=by
 intro pins s σ H xs us Q I r h
 obtain⟨i,j,rfl,q⟩:=h
 obtain⟨u,w',rfl,⟨t,rfl⟩,⟨t',rfl⟩⟩:=z8o r
 refine min_two_ints (I.ok.hd hc) fun h' tk k=>⟨_,H,I.kept k, ?_,q⟩
 by_cases hj:j<i
 ·rw[if_pos hj,if_pos hj];exact⟨_,rfl⟩
 ·rw[if_neg hj,if_neg hj];exact⟨_,rfl⟩
end
end L2
namespace L2
open PySem PySem.Spec PyProof.Rows
structure ObjM(h:Heap)(x dx C:Addr)(mA:Str→Option Value):Prop where
 obj:h.get? x=some (PySem.W.instObj C dx)
 ns:h.Ns1 dx mA
 ne:dx≠x
section
variable{prog:Program}{w:World}{A:Around}{E:Value→Shared→Prop}{s:Shared}{K:PySem.W.Frag}{x dx C f:Addr}{mA:Str→Option Value}{name:Str}{v:Value}
end
section
variable{P:Program}{w:World}{H H':Hp}{h h':Heap}{a C dx:Addr}{fs fs':List (Str×V)}
end
structure Cls(K:PySem.W.Frag)(C:Addr):Prop where
 pg:PySem.W.plainGet K C Str.empty=true
 hd:PySem.W.hasDictIn K C=true
 po:PySem.W.plainOver K C=true
 sa:PySem.W.findIn K (.ref C) "__setattr__" =some (some (.builtin "object.__setattr__"))
structure Con(K:PySem.W.Frag)(C:Addr)(f:Str)(v:V)(u:Value):Prop where
 at_:PySem.W.findIn K (.ref C) f=some (some u)
 rel:RelV v u
 get:PySem.W.specialIn K u "__get__" =some none
 cp:PySem.W.copiedNames.contains f=false
structure Meth(K:PySem.W.Frag)(C:Addr)(m:Str)(f:Addr):Prop where
 at_:PySem.W.findIn K (.ref C) m=some (some (.ref f))
 fn:PySem.W.isFn K (.ref f)=true
 kp:PySem.W.keepIn K (.ref f)=true
section
variable{X:Cx}{pins:List (Addr×Obj)}{σ:St}{H:Hp}{s:Shared}{a C dx:Addr}{fs:List (Str×V)}{f:Str}{v:V}{A:Around}{E:Value→Shared→Prop}
end
section
variable{X:Cx}{o e value:Expr}{f:Str}{pos pos' tpos:Pos}{ta tv:TE}
end
section
variable{X:Cx}{pins:List (Addr×Obj)}{σ:St}{H:Hp}{s:Shared}{A:Around}{E:Value→Shared→Prop}{Q:Value→Shared→Prop}{c:Value}{b:Bool}
inductive TyOf(K:PySem.W.Frag)(H:Hp):V→Value→Prop where
 |non:TyOf K H .non (.type "NoneType")
 |bl (x:Bool):TyOf K H (.bl x) (.type "bool")
 |int (i:Int):TyOf K H (.int i) (.type "int")
 |str (x:Str):TyOf K H (.str x) (.type "str")
 |flt (x:UInt64):TyOf K H (.flt x) (.type "float")
 |lst {a:Addr} {xs:List V} (e:H a=some (.lst xs)):TyOf K H (.ref a) (.type "list")
 |frz {a:Addr} {o:Obj} {xs:List V} (e:H a=some (.frz o (.lst xs))):TyOf K H (.ref a) (.type "list")
 |tup {a:Addr} {xs:List V} (e:H a=some (.tup xs)):TyOf K H (.ref a) (.type "tuple")
 |dK {a:Addr} {kvs:List (Key×V)} (e:H a=some (.dK kvs)):TyOf K H (.ref a) (.type "dict")
 |dT {a:Addr} {kvs:List (List Key×V)} (e:H a=some (.dT kvs)):TyOf K H (.ref a) (.type "dict")
 |ins {a C dx:Addr} {fs:List (Str×V)} (e:H a=some (.ins C dx fs)) (cl:Cls K C) (ha:PySem.W.findIn K (.ref C) "__class__" =some (some (.builtin "object.__class__")))
  (hn:PySem.W.specialIn K (.builtin "object.__class__") "__get__" =some (some (.builtin "getset_descriptor.__get__"))) (htk:PySem.W.takesIn K (.builtin "object.__class__")=some true)
  (hm:PySem.W.mroIn K C (.type "object")=some true):TyOf K H (.ref a) (.ref C)
end
end L2
namespace L2
open PySem PySem.Spec PyProof.Rows
structure Room(k:Nat)(A:Around):Prop where
 hd:A.handled=none
 dp:A.depth+3*k+5<recursionLimit
 un:A.units+16*k+200<cLine
 gd:A.guards=some []
theorem Room.mono{j k:Nat}{A:Around}(r:Room k A)(h:j≤k):Room j A:=⟨r.hd,by have:=r.dp;omega,by have:=r.un;omega,r.gd⟩
theorem Room.deeper{k:Nat}{A:Around}(r:Room (k+1) A)(env:Env):Room k (A.deeper env):=
 ⟨r.hd,by have:=r.dp;show A.depth+1+3*k+5<_;omega,by have:=r.un;show A.units+3+16*k+200<_;omega,r.gd⟩
theorem Room.depth{k:Nat}{A:Around}(r:Room k A):A.depth<recursionLimit:=by have:=r.dp;omega
theorem Room.units{k:Nat}{A:Around}(r:Room k A):A.units+64<cLine:=by have:=r.un;omega
noncomputable def tNil:TA:=fun _ H Q=>Q [] H
noncomputable def zbP(ta:TE)(tr:TA):TA:=fun σ H Q=>ta σ H fun x H1=>tr σ H1 fun xs H2=>Q (x::xs) H2
section
variable{X:Cx}{e:Expr}{es:List Expr}{te:TE}{t:TA}{pos:Pos}
theorem z1O:PA X [] tNil:=fun _ _ _ _ H Q I h=>Calls.spliced_nil ⟨[],H,I, .nil,h⟩
theorem z0a(ha:PE X e te)(hr:PA X es t)(hs:starEach (e::es) X.env=(false,eval e X.env)::starEach es X.env:=by rfl):PA X (e::es) (zbP te t):=by
 intro pos pins s σ H Q I h
 rw[hs]
 show wpAny _ _ (spliced ((false,eval e X.env)::backTo pos (starEach es X.env))) _ _ s
 refine Calls.spliced_cons (thn (ha pins s σ H _ I h) fun u s1 ⟨x,H1,I1,r1,q1⟩=> ?_)
 exact thn (hr pos pins s1 σ H1 _ I1 q1) fun us s2 ⟨xs,H2,I2,r2,q2⟩=>⟨x::xs,H2,I2, .cons r1 r2,q2⟩
noncomputable def tTup(t:TA):TE:=fun σ H Q=>t σ H fun xs H1=>xs.length≤sizeLine∧∀p,H1 p=none→Q (.ref p) (upd H1 p (.tup xs))
noncomputable def tLst(t:TA):TE:=fun σ H Q=>t σ H fun xs H1=>xs.length≤sizeLine∧∀p,H1 p=none→Q (.ref p) (upd H1 p (.lst xs))
theorem zai{x1}(h:PA X es t):PE X (.Tuple es x1 pos) (tTup t):=by
 intro pins s σ H Q I hq
 refine wpAny_Tuple_spliced (thn (h pos pins s σ H _ I hq) fun us s1 ⟨xs,H1,I1,r,z,q⟩=>⟨by rw[←r.length];exact z, ?_⟩)
 have hf:H1 s1.heap.objs.size=none:=I1.hok.fresh (Nat.le_refl _)
 refine⟨.ref s1.heap.objs.size,upd H1 s1.heap.objs.size (.tup xs),I1.laid (t':=s1.toks) (fun b u e=>Heap.get?_push_of_some _ e) (Nat.le_refl _) ?_,rfl,q _ hf⟩
 exact⟨z,us,r,⟨_,Heap.get?_push_size _ rfl,rfl,_,rfl⟩⟩
theorem zaj(h:PA X es t):PE X (.List es pos) (tLst t):=by
 intro pins s σ H Q I hq
 refine wpAny_List_spliced (thn (h pos pins s σ H _ I hq) fun us s1 ⟨xs,H1,I1,r,z,q⟩=>⟨by rw[←r.length];exact z, ?_⟩)
 have hf:H1 s1.heap.objs.size=none:=I1.hok.fresh (Nat.le_refl _)
 refine⟨.ref s1.heap.objs.size,upd H1 s1.heap.objs.size (.lst xs),I1.laid (t':=s1.toks) (fun b u e=>Heap.get?_push_of_some _ e) (Nat.le_refl _) ?_,rfl,q _ hf⟩
 exact⟨z,us,0,r,Heap.get?_push_size _ rfl⟩
end
noncomputable abbrev Sp:=List V→Hp→VK→XK→Prop
noncomputable abbrev CXT:=List Env→Hp→Shared→XK→Value→Shared→Prop
structure Env0(P:Program)(w:World)(K:PySem.W.Frag)(mg:Str→Option Value)(base:Heap)(A:Around)(outer:List Env)(s:Shared)(H:Hp):Prop where
 frames:A.frames=some outer
 mod:Mod K mg base
 bs: ∀b o,base.get? b=some o→s.heap.get? b=some o∧H b=none
 bsz:base.objs.size≤s.heap.objs.size
 funs:s.heap.FunFrames base outer
 frf: ∀b∈frs outer,H b=none
 hok:HOk P w H s.heap
 bare:AllBare s.gens
noncomputable def CE(outer:List Env)(P:Program)(w:World)(H:Hp)(s:Shared)(Q:VK)(u:Value)(s':Shared):Prop:=
 ∃v H',s'.os=s.os∧AllBare s'.gens∧Un (frs outer) [] H H' s.heap s'.heap∧HOk P w H' s'.heap∧RelV v u∧Q v H'
noncomputable def CR(CX:CXT)(outer:List Env)(P:Program)(w:World)(H:Hp)(s:Shared)(Q:VK)(E:XK)(r:Result)(s':Shared):Prop:=
 match r with
 | .ok (.ret u)=>CE outer P w H s Q u s'
 | .ok _=>False
 | .error e=>CX outer H s E e s'
structure FnOk(P:Program)(w:World)(K:PySem.W.Frag)(mg:Str→Option Value)(base:Heap)(CX:CXT)(k:Nat)(f:Addr)(fd:FuncData)(ps:List Str)(sp:Sp):Prop where
 len: ∀vs H Q E,sp vs H Q E→vs.length=ps.length
 run: ∀(A:Around) (outer:List Env) (s:Shared) (H:Hp) (args:Args) (us:List Value) (vs:List V) (Q:VK) (E:XK),Room k A→Env0 P w K mg base A outer s H→BindsTo s fd args (ps.zip us)→Vals vs us→sp vs H Q E→
  codeAny (model P w) A (.call (.ref f) args) (CR CX outer P w H s Q E) s
theorem FnOk.mono{P:Program}{w:World}{K:PySem.W.Frag}{mg:Str→Option Value}{base:Heap}{CX:CXT}{j k:Nat}{f:Addr}{fd:FuncData}{ps:List Str}{sp:Sp}(F:FnOk P w K mg base CX j f fd ps sp)(h:j≤k):
 FnOk P w K mg base CX k f fd ps sp:=⟨F.len,fun A outer s H args us vs Q E hr=>F.run A outer s H args us vs Q E (hr.mono h)⟩
section
variable{X:Cx}{pins:List (Addr×Obj)}{σ:St}{H:Hp}{s s':Shared}
theorem Inv.env0(I:Inv X pins σ H s):Env0 X.prog X.w X.K X.mg X.base X.A X.stack s H:=
 ⟨I.ok.frames,I.ok.mod,I.bs,Nat.le_trans I.ok.bsz I.sz,I.stack,I.stkFree,I.hok,I.bare⟩
theorem Inv.after{Q:VK}{u:Value}(I:Inv X pins σ H s)(h:CE X.stack X.prog X.w H s Q u s'):EP X pins σ Q u s':=by
 obtain⟨v,H',os,bare,un,hok,r,q⟩:=h
 obtain⟨hh,g,d,t,os'⟩:=s'
 obtain rfl:os'=s.os:=os
 exact⟨v,H',I.call (h':=hh) (g':=g) (d':=d) (t':=t) (ch:=[]) un hok bare (fun b z=>absurd z (by simp)),r,q⟩
end
noncomputable def zbQ(sp:Sp)(dvs:List V)(E:XK)(t:TA):TE:=fun σ H Q=>t σ H fun vs H1=>sp (vs++dvs) H1 Q E
noncomputable def z1S(K:PySem.W.Frag)(fd:FuncData)(ps:List Str)(ds:List Value):Prop:=
 ∀(s:Shared) (us:List Value),K.In s.heap→(us++ds).length=ps.length→BindsTo s fd ⟨us,[]⟩ (ps.zip (us++ds))
theorem z1S.all{K:PySem.W.Frag}{fd:FuncData}{ps:List Str}(h: ∀us:List Value,us.length=ps.length→bindArgs fd ⟨us,[]⟩=pure (ps.zip us)):z1S K fd ps []:=fun s us _ hl=>by
 rw[List.append_nil] at hl⊢
 exact .of_eq (h us hl)
noncomputable def z2C(CX:CXT)(X:Cx)(E:XK):Prop:= ∀(pins:List (Addr×Obj)) (σ:St) (H:Hp) (s:Shared) (e:Value) (s':Shared),Inv X pins σ H s→CX X.stack H s E e s'→X.xe e s'
section
variable{X:Cx}{CX:CXT}{k:Nat}{f C:Addr}{fd:FuncData}{ps:List Str}{sp:Sp}{dvs:List V}{ds:List Value}{E:XK}{x m:Str}{p pos apos:Pos}{e o:Expr}{es:List Expr}{ta:TE}{t:TA}
theorem zak{pins:List (Addr×Obj)}{σ:St}{H:Hp}{s:Shared}{Q:VK}{us:List Value}{vs:List V}(F:FnOk X.prog X.w X.K X.mg X.base CX k f fd ps sp)(hr:Room k X.A)(hb:z1S X.K fd ps ds)(hd:Vals dvs ds)(hx:z2C CX X E)
 (I:Inv X pins σ H s) (r:Vals vs us) (h:sp (vs++dvs) H Q E):wpAny (model X.prog X.w) X.A (call (.ref f) us) (EP X pins σ Q) X.xe s:=by
 have r2:Vals (vs++dvs) (us++ds):=r.append hd
 have hl:(us++ds).length=ps.length:=by rw[←r2.length];exact F.len _ _ _ _ h
 refine wpAny_call (codeAny_mono (F.run X.A X.stack s H ⟨us,[]⟩ (us++ds) (vs++dvs) Q E hr I.env0 (hb s us I.kIn hl) r2 h) fun r s' hq=> ?_)
 cases r with
 |error e=>exact hx pins σ H s e s' I hq
 |ok fl=>
  cases fl with
  |ret u=>exact I.after hq
  |next=>exact False.elim hq
  |brk=>exact False.elim hq
  |cont=>exact False.elim hq
theorem z8p(F:FnOk X.prog X.w X.K X.mg X.base CX k f fd ps sp)(hr:Room k X.A)(hg:Gl X x)(hm:X.mg x=some (.ref f))(hk:PySem.W.keepIn X.K (.ref f)=true)(hb:z1S X.K fd ps ds)(hd:Vals dvs ds)(hx:z2C CX X E)
 (ha:PA X (e::es) t) (hdb:(x==("__debug__" :Str))=false:=by decide) (he:starEach (e::es) X.env=(false,eval e X.env)::starEach es X.env:=by rfl) (hpl:(backTo pos (starEach es X.env)).any (·.1)=false:=by rfl):
 PE X (.Call (.Name x p) (e::es) [] pos) (zbQ sp dvs E t):=by
 intro pins s σ H Q I h
 refine wpAny_Call_Name_kw (z21 I hg hm ?_ hdb)
 refine PySem.W.callWith_K (h₀:=X.base) I.ok.mod.kin hk (thn (ha pos pins s σ H _ I h) fun us s1 ⟨vs,H1,I1,r,q⟩=>⟨I1.kIn, ?_⟩) he hpl
 exact zak F hr hb hd hx I1 r q
structure Mk(K:PySem.W.Frag)(C f:Addr):Prop where
 makes:PySem.W.makesIn K C=true
 init:PySem.W.findIn K (.ref C) "__init__" =some (some (.ref f))
 fn:PySem.W.isFn K (.ref f)=true
 kp:PySem.W.keepIn K (.ref C)=true
end
noncomputable def PK(X:Cx)(kws:List Keyword)(t:TA):Prop:=
 ∀(pos:Pos) (pins:List (Addr×Obj)) (s:Shared) (σ:St) (H:Hp) (Q:List V→Hp→Prop),Inv X pins σ H s→t σ H Q→wpAny (model X.prog X.w) X.A (evalAll ((backToKw pos (keywordEach kws X.env)).map (·.2))) (AP X pins σ Q) X.xe s
section
variable{X:Cx}{CX:CXT}{k:Nat}{f C:Addr}{fd:FuncData}{ps ks:List Str}{sp:Sp}{E:XK}{x m:Str}{p pos apos kpos:Pos}{e o:Expr}{es:List Expr}{kws:List Keyword}{te ta:TE}{t tk:TA}{nm:Option Str}
structure zcC(K:PySem.W.Frag)(fd:FuncData)(ps ks:List Str)(g:List Value→List Value→List Value)(gV:List V→List V→List V):Prop where
 to: ∀(s:Shared) (us ws:List Value),K.In s.heap→(g us ws).length=ps.length→BindsTo s fd ⟨us,ks.zip ws⟩ (ps.zip (g us ws))
 rel: ∀{vs:List V} {us:List Value} {zs:List V} {ws:List Value},Vals vs us→Vals zs ws→Vals (gV vs zs) (g us ws)
variable{g:List Value→List Value→List Value}{gV:List V→List V→List V}
end
structure z0w(N P:List Str)(sc:Scope):Prop where
 kind:sc.kind= .function
 co:sc.isCoroutine=false
 gen:sc.isGenerator=false
 nd:N.Nodup
 pre:N.take P.length=P
 par: ∀x∈P,sc.names.lookup x=some .local∨sc.names.lookup x=some .cell
 nofree: ∀y∈sc.names,y.2≠ .free
theorem z3a{kindOf:Str→Option NameKind}{x:Str}: ∀{binds:List (Str×Value)} {m:Str→Option Value},(∀v,(x,v)∉binds)→bindL kindOf binds m x=m x
 |[],_,_=>rfl
 |(n,v)::r,m,h=>by
  unfold bindL
  rw[z3a fun w hw=>h w (List.mem_cons_of_mem _ hw)]
  split
  ·have:x≠n:=by rintro rfl;exact h v List.mem_cons_self
   simp[this]
  ·rfl
theorem z3b{kindOf:Str→Option NameKind}{x:Str}: ∀{binds:List (Str×Value)} {m:Str→Option Value},(∀v,(x,v)∉binds)→bindC kindOf binds m x=m x
 |[],_,_=>rfl
 |(n,v)::r,m,h=>by
  unfold bindC
  rw[z3b fun w hw=>h w (List.mem_cons_of_mem _ hw)]
  split
  ·rfl
  ·have:x≠n:=by rintro rfl;exact h v List.mem_cons_self
   simp[this]
theorem z3c{kindOf:Str→Option NameKind}{x:Str}{v:Value}: ∀{P:List Str} {vs:List Value} {i:Nat} {m:Str→Option Value},P.Nodup→P[i]? =some x→vs[i]? =some v→kindOf x=some .local→
 bindL kindOf (P.zip vs) m x=some v
 |[],_,_,_,_,h,_,_=>by simp at h
 |_::_,[],_,_,_,_,h,_=>by simp at h
 |p::P,w::vs,0,m,nd,h1,h2,hk=>by
  simp at h1 h2;subst h1;subst h2
  show bindL kindOf ((p,w)::P.zip vs) m p=_
  unfold bindL
  rw[z3a fun v hv=>(List.nodup_cons.mp nd).1 (List.of_mem_zip hv).1,if_pos hk]
  simp
 |p::P,w::vs,i+1,m,nd,h1,h2,hk=>by
  show bindL kindOf ((p,w)::P.zip vs) m x=_
  unfold bindL
  exact z3c (i:=i) (List.nodup_cons.mp nd).2 (by simpa using h1) (by simpa using h2) hk
theorem z3d{kindOf:Str→Option NameKind}{x:Str}{v:Value}: ∀{P:List Str} {vs:List Value} {i:Nat} {m:Str→Option Value},P.Nodup→P[i]? =some x→vs[i]? =some v→kindOf x≠some .local→
 bindC kindOf (P.zip vs) m x=some v
 |[],_,_,_,_,h,_,_=>by simp at h
 |_::_,[],_,_,_,_,h,_=>by simp at h
 |p::P,w::vs,0,m,nd,h1,h2,hk=>by
  simp at h1 h2;subst h1;subst h2
  show bindC kindOf ((p,w)::P.zip vs) m p=_
  unfold bindC
  rw[z3b fun v hv=>(List.nodup_cons.mp nd).1 (List.of_mem_zip hv).1,if_neg hk]
  simp
 |p::P,w::vs,i+1,m,nd,h1,h2,hk=>by
  show bindC kindOf ((p,w)::P.zip vs) m x=_
  unfold bindC
  exact z3d (i:=i) (List.nodup_cons.mp nd).2 (by simpa using h1) (by simpa using h2) hk
noncomputable def z3e(N:List Str)(vs:List V):St:=vs.map some++List.replicate (N.length -vs.length) none
noncomputable def cxOf(CX:CXT)(P:Program)(w:World)(K:PySem.W.Frag)(mg:Str→Option Value)(base:Heap)(N:List Str)(qual:Str)(scope:Scope)(f:Addr)(cd:Value)(A:Around)(outer:List Env)(s:Shared)(H:Hp)(E:XK):Cx where
 prog:=P
 w:=w
 K:=K
 mg:=mg
 base:=base
 A:=A.deeper (envOfC qual scope s.heap.objs.size f cd)
 N:=N
 s₀:=s
 H₀:=H
 env:=envOfC qual scope s.heap.objs.size f cd
 outer:=outer
 stack:=envOfC qual scope s.heap.objs.size f cd::outer
 ex:=[]
 calm:=true
 fn:=fun _=>true
 pn:=[]
 xe:=fun e s'=>wpAny (model P w) (A.deeper (envOfC qual scope s.heap.objs.size f cd)) (leaving (envOfC qual scope s.heap.objs.size f cd) e) (fun _ s''=>CX outer H s E e s'') (fun e' s''=>CX outer H s E e' s'') s'
theorem z4p{sc:Scope}{n:Nat}{x:Str}(h:sc.names.lookup x=some .cell): ∃c,(cellsFrom n sc.names []).lookup x=some c:=by
 have q:=PySem.W.cellsFrom_some sc.names n [] (.inl h)
 exact Option.isSome_iff_exists.mp q
theorem z5y{CX:CXT}{P:Program}{w:World}{K:PySem.W.Frag}{mg:Str→Option Value}{base:Heap}{N ps:List Str}{qual:Str}{scope:Scope}{f:Addr}{cd:Value}{A:Around}{outer:List Env}{s s1:Shared}{H:Hp}{E:XK}{us:List Value}{vs:List V}
 (S:z0w N ps scope) (hd:A.handled=none) (e0:Env0 P w K mg base A outer s H) (hl:vs.length=ps.length) (r:Vals vs us)
 (x:InCallC s s.heap.objs.size (bindL (envOfC qual scope s.heap.objs.size f cd).kindOf (ps.zip us) fun _=>none) (cellsFrom (s.heap.objs.size+1) scope.names []) (bindC (envOfC qual scope s.heap.objs.size f cd).kindOf (ps.zip us) fun _=>none) s1):
 Inv (cxOf CX P w K mg base N qual scope f cd A outer s H E) [] (z3e N vs) H s1:=by
 have hpl:ps.length≤N.length:=by have:=congrArg List.length S.pre;rw[List.length_take] at this;omega
 obtain⟨h1,tk,rfl,hk⟩:=x.done
 have noA: ∀b:Addr,b∉(cxOf CX P w K mg base N qual scope f cd A outer s H E).ex:=fun b z=>absurd (show b∈([]:List Addr) from z) (by simp)
 refine⟨⟨e0.mod,S.kind,rfl,rfl,Nat.le_refl _,fun y z c h1 h2=> ?_,fun y hy=> ?_,fun y c _ h=> ?_,fun _=>hd,Around.frames_deeper e0.frames, .inr ⟨rfl,rfl⟩,fun b z=>absurd z (noA b),e0.bs,e0.bsz,fun b _ _=>noA b,fun b z=>absurd z (noA b),e0.funs,e0.frf⟩,
  rfl,e0.bare,Un.kept hk,⟨_,x.toInCall.ns,fun i y v h1 h2 h3=> ?_⟩,fun y c h=>⟨_,x.cell y c h⟩,e0.hok.fresh (Nat.le_refl _),fun y c h=> ?_,fun p hp=>absurd (show p∈([]:List (Addr×Obj)) from hp) (by simp),e0.hok.kept hk, ?_⟩
 ·exact name_of_addr x.apart (PySem.mem_of_lookup h1) (PySem.mem_of_lookup h2)
 ·have hy:scope.names.lookup y=some .cell∨scope.names.lookup y=some .free:=hy
  rcases hy with hy|hy
  ·exact z4p hy
  ·exact absurd rfl (S.nofree _ (PySem.mem_of_lookup hy))
 ·exact Nat.le_of_lt (x.above y c (PySem.mem_of_lookup h))
 ·have hi:i<vs.length:=by
   unfold z3e at h2
   by_cases hi:i<vs.length
   ·exact hi
   ·rw[List.getElem?_append_right (by simpa using hi)] at h2
    rw[List.getElem?_replicate] at h2
    split at h2<;>cases h2
  have ha:vs[i]? =some v:=by
   unfold z3e at h2
   rw[List.getElem?_append_left (by simpa using hi),List.getElem?_map] at h2
   cases e:vs[i]? with
   |none=>rw[e] at h2;cases h2
   |some a=>rw[e] at h2;cases h2;rfl
  obtain⟨u,hu,rv⟩:=r.get ha
  have hp:ps[i]? =some y:=by
   rw[←S.pre,List.getElem?_take_of_lt (by omega)];exact h1
  have ndP:ps.Nodup:=by rw[←S.pre];exact S.nd.sublist (List.take_sublist _ _)
  refine⟨u,rv, ?_⟩
  rcases S.par y (List.mem_of_getElem? hp) with k|k
  ·exact .inl ⟨k,z3c ndP hp hu k⟩
  ·obtain⟨c,e⟩:=z4p (n:=s.heap.objs.size+1) k
   refine .inr ⟨.inl k,c,e, ?_⟩
   have q:=x.cell y c e
   rw[z3d ndP hp hu (by show scope.names.lookup y≠_;rw[k];decide)] at q
   exact q
 ·exact e0.hok.fresh (Nat.le_of_lt (x.above y c (PySem.mem_of_lookup h)))
 ·unfold z3e
  show _=N.length
  rw[List.length_append,List.length_map,List.length_replicate]
  omega
theorem zal{CX:CXT}{P:Program}{w:World}{K:PySem.W.Frag}{mg:Str→Option Value}{base:Heap}{k:Nat}{f:Addr}{name qual:Str}{params:Arguments}{body:List Stmt}{scope:Scope}{dV kV doc pm cdv ct oc:Value}{an od:Option Addr}
 {osl:Array (Option Value)} {N ps:List Str} {sp:Sp} (lk:K.lookup f=some ⟨oc,od, .func (PySem.W.fnOf name qual params body scope dV kV doc pm an cdv ct),osl⟩) (hcd:PySem.W.codeIn K cdv qual=true) (S:z0w N ps scope)
 (len: ∀vs H Q E,sp vs H Q E→vs.length=ps.length)
 (hbody: ∀(A:Around) (outer:List Env) (s:Shared) (H:Hp) (vs:List V) (Q:VK) (E:XK),Room k (A.deeper (envOfC qual scope s.heap.objs.size f cdv))→sp vs H Q E→
  ∃t,PSs (cxOf CX P w K mg base N qual scope f cdv A outer s H E) body t∧t {nx:=fun _ H'=>Q .non H',rt:=Q} (z3e N vs) H):
 FnOk P w K mg base CX (k+1) f (PySem.W.fnOf name qual params body scope dV kV doc pm an cdv ct) ps sp:=by
 refine⟨len,fun A outer s H args us vs Q E hr e0 hb r hsp=> ?_⟩
 have hl:=len _ _ _ _ hsp
 have KX:K.In s.heap:=e0.mod.kin.keeps fun b o e=>(e0.bs b o e).1
 have lim:s.heap.NoLimit:=e0.mod.nolimit.keeps fun b o e=>(e0.bs b o e).1
 have hkind: ∀y∈ps.zip us,scope.names.lookup y.1=some .local∨(scope.names.lookup y.1=some .cell∧((cellsFrom (s.heap.objs.size+1) scope.names []).lookup y.1).isSome=true):=fun⟨n,v⟩ hy=>by
  rcases S.par n (List.of_mem_zip hy).1 with q|q
  ·exact .inl q
  ·exact .inr ⟨q,PySem.W.cellsFrom_some _ _ _ (.inl q)⟩
 refine codeAny_call_function hr.depth (KX _ _ lk) rfl S.co S.gen rfl (PySem.W.codeRec_of KX hcd) (hb _ _ _ _ ?_)
 refine wpAny_newFunctionEnv_cells S.kind hkind fun env he s1 x=> ?_
 subst he
 refine⟨lim.keeps x.toInCall.keep,codeAny_func ?_⟩
 obtain⟨t,ht,hq⟩:=hbody A outer s H vs Q E (hr.deeper _) hsp
 have I:Inv (cxOf CX P w K mg base N qual scope f cdv A outer s H E) [] (z3e N vs) H s1:=z5y S hr.hd e0 hl r x
 refine wpAny_mono (ht [] s1 (z3e N vs) H _ I hq) (fun fl s' hs=> ?_) fun e s' hs=>hs
 have fin: ∀{σ':St} {H':Hp} {v:V} {u:Value},Inv (cxOf CX P w K mg base N qual scope f cdv A outer s H E) [] σ' H' s'→RelV v u→Q v H'→CE outer P w H s Q u s':=
  fun{σ' H' v u} J rv q=>⟨v,H',J.os,J.bare,J.base,J.hok,rv,q⟩
 cases fl with
 |ret u=>
  obtain⟨v,σ',H',J,rv,q⟩:=hs
  exact fin J rv q
 |next=>
  obtain⟨σ',H',J,q⟩:=hs
  exact fin (v:=V.non) (u:=Value.none) J rfl q
 |brk=>
  obtain⟨_,_,_,q⟩:=hs
  exact False.elim q
 |cont=>
  obtain⟨_,_,_,q⟩:=hs
  exact False.elim q
end L2
namespace L2
open PySem PySem.Spec PyProof.Rows
section
variable{X:Cx}{x:Str}{p pos:Pos}{e:Expr}{es:List Expr}{t:TA}{id T:String}{r:List V→Hp→VK→Prop}
noncomputable def tCB(r:List V→Hp→VK→Prop)(t:TA):TE:=fun σ H Q=>t σ H fun vs H1=>r vs H1 Q
theorem z1V(hc:CallR X (.builtin id) r)(hg:Gl X x)(hm:X.mg x=none)(hv:bootBuiltins x=some (.builtin id))(ha:PA X (e::es) t)(hn:x≠ "__name__" :=by decide)(hdb:(x==("__debug__" :Str))=false:=by decide)
 (he:starEach (e::es) X.env=(false,eval e X.env)::starEach es X.env:=by rfl) (hpl:(backTo pos (starEach es X.env)).any (·.1)=false:=by rfl):PE X (.Call (.Name x p) (e::es) [] pos) (tCB r t):=by
 intro pins s σ H Q I h
 refine wpAny_Call_Name_kw (z1q I hg hm hv ?_ hn hdb)
 exact PyProof.Rows.callWith_builtin1 (thn (ha pos pins s σ H _ I h) fun us s1 ⟨vs,H1,I1,r1,q1⟩=>hc pins s1 σ H1 vs us Q I1 r1 q1) he hpl
theorem z5z(hc:CallR X (.type T) r)(hg:Gl X x)(hm:X.mg x=none)(hv:bootBuiltins x=some (.type T))(ha:PA X (e::es) t)(hn:x≠ "__name__" :=by decide)(hdb:(x==("__debug__" :Str))=false:=by decide)
 (he:starEach (e::es) X.env=(false,eval e X.env)::starEach es X.env:=by rfl) (hpl:(backTo pos (starEach es X.env)).any (·.1)=false:=by rfl):PE X (.Call (.Name x p) (e::es) [] pos) (tCB r t):=by
 intro pins s σ H Q I h
 refine wpAny_Call_Name_kw (z1q I hg hm hv ?_ hn hdb)
 exact PyProof.Rows.callWith_type1 (thn (ha pos pins s σ H _ I h) fun us s1 ⟨vs,H1,I1,r1,q1⟩=>hc pins s1 σ H1 vs us Q I1 r1 q1) he hpl
end
end L2
namespace HT
open PySem PyProof.Rows
section
open PySem.SeqAt
open PySem.AutoSeq1 (wpAny_loadPart')
open PySem.MeetsSeq PySem.MeetsSeq2 PySem.MeetsSeq3
end
section
variable{prog:Program}{w:World}{A:Around}{E:Value→Shared→Prop}{s:Shared}
theorem cat_tup{t b:Addr}{vs ws:List Value}{Q:Value→Shared→Prop}(ht:IsTup s.heap t vs.toArray)(hb:IsTup s.heap b ws.toArray)(hv:vs≠[])
 (h1:ws=[]→Q (.ref t) s) (h2:ws≠[]→Q (.ref s.heap.objs.size) {s with heap:=s.heap.push {cls:= .type "tuple",data:= .seq (vs++ws).toArray}})
 (hsz:vs.length+ws.length≤sizeLine):wpAny (model prog w) A (binaryOp .Add (.ref t) (.ref b)) Q E s:=by
 obtain⟨⟨cls,dd,data,sl⟩,ho,hc,n,hd⟩:=id ht
 obtain⟨⟨cls2,dd2,data2,sl2⟩,ho2,hc2,n2,hd2⟩:=id hb
 simp only at hc hd hc2 hd2
 subst hc hd hc2 hd2
 have e:vs.toArray++ws.toArray=(vs++ws).toArray:=by simp
 by_cases hw:ws=[]
 ·exact concat_meets ⟨_,ho,rfl⟩ ⟨_,ho2,rfl⟩ noFill_tuple_add seq_tuple_add PySem.F.slot_tuple_add PySem.F.entry_tuple_add (PySem.F.args_tuple_add_2 _ _)
   (tuple_addW1 t b vs.toArray ws.toArray n n2 dd dd2 sl sl2 (by simpa using hv) (by simp[hw])) ⟨ho,ho2,h1 hw⟩
 ·refine concat_meets ⟨_,ho,rfl⟩ ⟨_,ho2,rfl⟩ noFill_tuple_add seq_tuple_add PySem.F.slot_tuple_add PySem.F.entry_tuple_add (PySem.F.args_tuple_add_2 _ _)
   (tuple_addW2 t b vs.toArray ws.toArray n n2 dd dd2 sl sl2 (by simpa using hv) (by simpa using hw) (by rw[List.size_toArray,List.size_toArray];exact hsz)) ⟨ho,ho2, ?_⟩
  rw[e]
  exact h2 hw
noncomputable def sIx(n d:Nat):Option Int→Nat
 |none=>d
 |some v=>if v<0 then(v+(n:Int)).toNat else min v.toNat n
theorem zam(n d:Nat)(hd:d≤n)(o:Option Int):sIx n d o≤n:=by
 cases o with
 |none=>exact hd
 |some v=>
  show(if v<0 then(v+(n:Int)).toNat else min v.toNat n)≤n
  by_cases hv:v<0
  ·rw[if_pos hv];omega
  ·rw[if_neg hv];exact Nat.min_le_right _ _
theorem z5A(v:Int)(n d:Nat):(if v<0 then max (v+(n:Int)) 0 else min v (n:Int))=((sIx n d (some v):Nat):Int):=by
 show(if v<0 then max (v+(n:Int)) 0 else min v (n:Int))=(((if v<0 then(v+(n:Int)).toNat else min v.toNat n):Nat):Int)
 by_cases hv:v<0
 ·simp only[if_pos hv];omega
 ·simp only[if_neg hv];omega
theorem z4V(lo hi:Option Int)(n:Nat):Builtin.Slice.sliceAdjust lo hi 1 (n:Int)=(((sIx n 0 lo:Nat):Int),((sIx n n hi:Nat):Int)):=by
 have h1: ¬((1:Int)<0):=by omega
 unfold Builtin.Slice.sliceAdjust
 simp only[h1,if_false]
 refine Prod.ext ?_ ?_
 ·cases lo with
  |none=>rfl
  |some v=>exact z5A v n 0
 ·cases hi with
  |none=>rfl
  |some v=>exact z5A v n n
theorem z4W(i j:Nat):Builtin.Slice.slicePlaces (i:Int) (j:Int) 1=j -i:=by
 unfold Builtin.Slice.slicePlaces
 have h1:(1:Int)>0:=by omega
 simp only[h1,if_true,Int.ediv_one]
 split<;>omega
theorem z2D{v:Value}{o:Option Int}{Q:Option Int→Shared→Prop}(p:IsPart v o)(h:Q o s):wpAny (model prog w) A (Builtin.Slice.slicePartIndex v) Q E s:=by
 cases p with
 |none=>exact slicePart_none h
 |int i t=>exact slicePart_int h
theorem z19{sl:Addr}{vl vu:Value}{lo hi:Option Int}{n:Nat}{Q:Int×Int×Nat→Shared→Prop}(hs:s.heap.IsSliceOf sl vl vu .none)(pl:IsPart vl lo)(pu:IsPart vu hi)
 (h:Q (((sIx n 0 lo:Nat):Int),1,sIx n n hi -sIx n 0 lo) s):wpAny (model prog w) A (Builtin.Slice.sliceApplied (.ref sl) (pure (n:Int))) Q E s:=by
 obtain⟨os,hos,hcs,hds⟩:=id hs
 unfold Builtin.Slice.sliceApplied Builtin.Slice.sliceFields
 refine wpAny_bind (wpAny_bind (wpAny_field hos hds (x:=vl) rfl (wpAny_bind (wpAny_field hos hds (x:=vu) rfl (wpAny_bind (wpAny_field hos hds (x:= .none) rfl (wpAny_pure ?_)))))))
 refine wpAny_bind (slicePart_none ?_)
 show wpAny _ _ (if((1:Int)==0)=true then _ else _) _ _ s
 rw[if_neg (by decide)]
 refine wpAny_bind (z2D pl (wpAny_bind (z2D pu (wpAny_bind (wpAny_pure ?_)))))
 show wpAny _ _ (match Builtin.Slice.sliceAdjust lo hi 1 (n:Int) with|(lo,hi)=>pure (lo,(1:Int),Builtin.Slice.slicePlaces lo hi 1)) _ _ s
 rw[z4V lo hi n]
 show wpAny _ _ (pure (((sIx n 0 lo:Nat):Int),(1:Int),Builtin.Slice.slicePlaces ((sIx n 0 lo:Nat):Int) ((sIx n n hi:Nat):Int) 1)) _ _ s
 rw[z4W]
 exact wpAny_pure h
theorem z7e(xs:Array Value)(i k:Nat):((List.range k).filterMap fun(m:Nat)=>xs[((i:Int)+(m:Int)*1).toNat]?).toArray=((xs.toList.drop i).take k).toArray:=by
 have e:(fun(m:Nat)=>xs[((i:Int)+(m:Int)*1).toNat]?)=fun m=>xs[i+m]? :=by
  funext m
  have:((i:Int)+(m:Int)*1).toNat=i+m:=by omega
  rw[this]
 rw[e]
 have:=pick_run xs i k
 rw[List.filterMap_map] at this
 have e2:((fun x=>xs[x]?)∘fun x=>i+x)=fun m=>xs[i+m]? :=rfl
 rw[e2] at this
 rw[this]
theorem getItem_tuple_cut{t sl:Addr}{items:Array Value}{vl vu:Value}{lo hi:Option Int}{Q:Value→Shared→Prop}(ht:IsTup s.heap t items)(hs:s.heap.IsSliceOf sl vl vu .none)(pl:IsPart vl lo)(pu:IsPart vu hi)
 (hw: ¬(sIx items.size 0 lo=0∧sIx items.size items.size hi=items.size))
 (h:Q (.ref s.heap.objs.size) {s with heap:=s.heap.push {cls:= .type "tuple",data:= .seq ((items.toList.drop (sIx items.size 0 lo)).take (sIx items.size items.size hi -sIx items.size 0 lo)).toArray}})
 (hsz:items.size≤sizeLine):wpAny (model prog w) A (getItem (.ref t) (.ref sl)) Q E s:=by
 have htake:sizeOk (.seq ((items.toList.drop (sIx items.size 0 lo)).take (sIx items.size items.size hi -sIx items.size 0 lo)).toArray):=by
  show((items.toList.drop (sIx items.size 0 lo)).take (sIx items.size items.size hi -sIx items.size 0 lo)).toArray.size≤sizeLine
  rw[List.size_toArray,List.length_take,List.length_drop,Array.length_toList]
  omega
 have hj:sIx items.size items.size hi≤items.size:=zam _ _ (Nat.le_refl _) hi
 obtain⟨os,hos,hcs,hds⟩:=id hs
 have hTs:s.TypeIs (.ref sl) "slice" :=⟨os,hos,hcs⟩
 unfold getItem
 try with_reducible refine wpAny_holding ?_
 first|refine wpAny_bind (wpAny_pure ?_)|skip
 refine wpAny_bind (wpAny_sequenceKey ht.typeIs (by decide) ?_)
 refine wpAny_bind (wpAny_callSpecial?_slot (name:=Str.ofString "__getitem__") ht.typeIs PyProof.Rows.slot_tuple_getitem
  (wpAny_call_entry PyProof.Rows.slot_tuple_getitem ht.typeIs entry_tuple_getitem ?_ (args_tuple_getitem _ _)))
 show wpAny _ _ (Builtin.Tuple.tupleItemsOf (.ref t)>>=_) _ _ s
 refine wpAny_bind (tupleItemsOf_ ht ?_)
 refine wpAny_bind (wpAny_typeOf hTs ?_)
 rw[if_pos (by decide)]
 refine wpAny_bind (z19 hs pl pu ?_)
 have hno: ¬((((sIx items.size 0 lo:Nat):Int)==0&&(1:Int)==1&&(sIx items.size items.size hi -sIx items.size 0 lo)==items.size)=true):=by
  intro q
  rw[Bool.and_eq_true,Bool.and_eq_true] at q
  have q1:((sIx items.size 0 lo:Nat):Int)=0:=eq_of_beq q.1.1
  have q2:sIx items.size items.size hi -sIx items.size 0 lo=items.size:=eq_of_beq q.2
  exact hw ⟨by omega,by omega⟩
 show wpAny _ _ (if(((sIx items.size 0 lo:Nat):Int)==0&&(1:Int)==1&&(sIx items.size items.size hi -sIx items.size 0 lo)==items.size)=true then _ else _) _ _ s
 rw[if_neg hno,z7e]
 first
  |exact wpAny_bind (m:=Builtin.Tuple.tupleExact _) (wpAny_newObj_type (wpAny_pure ⟨_,rfl,wpAny_pure h⟩) htake)
  |exact wpAny_bind (m:=Builtin.Tuple.tupleExact _) (wpAny_newObj_type (wpAny_bind (wpAny_pure (wpAny_pure ⟨_,rfl,wpAny_pure h⟩))) htake)
  |exact wpAny_bind (wpAny_bind (m:=Builtin.Tuple.tupleExact _) (wpAny_newObj_type (wpAny_pure (wpAny_pure ⟨_,rfl,wpAny_pure h⟩)) htake))
  |exact wpAny_bind (wpAny_bind (m:=Builtin.Tuple.tupleExact _) (wpAny_newObj_type (wpAny_pure ⟨_,rfl,wpAny_pure h⟩) htake))
end
end HT
namespace L2
open PySem PySem.Spec PyProof.Rows
noncomputable abbrev TO:=St→Hp→(Option Int→Hp→Prop)→Prop
noncomputable def PO(X:Cx)(e:Option Expr)(t:TO):Prop:=
 ∀(pins:List (Addr×Obj)) (s:Shared) (σ:St) (H:Hp) (Q:Option Int→Hp→Prop),Inv X pins σ H s→t σ H Q→
  wpAny (model X.prog X.w) X.A (evalPart e X.env) (fun u s'=> ∃o H',Inv X pins σ H' s'∧IsPart u o∧Q o H') X.xe s
noncomputable def zbR(t:TE):TO:=fun σ H Q=>t σ H fun x H1=> ∃i,x= .int i∧Q (some i) H1
section
variable{X:Cx}{e:Expr}{te:TE}{lo hi:Option Expr}{tl th:TO}{pos p2:Pos}
theorem z8q(h:PE X e te):PO X (some e) (zbR te):=by
 intro pins s σ H Q I hw
 rw[evalPart_some]
 refine thn (h pins s σ H _ I hw) fun u s1 ⟨x,H1,I1,r1,q1⟩=> ?_
 obtain⟨i,rfl,q⟩:=q1
 obtain⟨t,rfl⟩:=r1
 exact⟨some i,H1,I1, .int i t,q⟩
noncomputable def SlR(X:Cx)(r:V→Option Int→Option Int→Hp→VK→Prop):Prop:=
 ∀(pins:List (Addr×Obj)) (s:Shared) (σ:St) (H:Hp) (x:V) (v vl vu:Value) (lo hi:Option Int) (sl:Addr) (Q:VK),Inv X pins σ H s→RelV x v→s.heap.IsSliceOf sl vl vu .none→IsPart vl lo→IsPart vu hi→r x lo hi H Q→
  ∃T id,typeLookup (.type T) "__getitem__" =pure (some (.builtin id))∧s.TypeIs v T∧wpAny (model X.prog X.w) X.A (getItem v (.ref sl)) (EP X pins σ Q) X.xe s
theorem SlR.or{r r':V→Option Int→Option Int→Hp→VK→Prop}(h:SlR X r)(h':SlR X r'):SlR X (fun x lo hi H Q=>r x lo hi H Q∨r' x lo hi H Q):=by
 intro pins s σ H x v vl vu lo hi sl Q I rx hs pl pu q
 rcases q with q|q
 ·exact h pins s σ H x v vl vu lo hi sl Q I rx hs pl pu q
 ·exact h' pins s σ H x v vl vu lo hi sl Q I rx hs pl pu q
noncomputable def tSl(r:V→Option Int→Option Int→Hp→VK→Prop)(te:TE)(tl th:TO):TE:=fun σ H Q=>te σ H fun x H1=>tl σ H1 fun l H2=>th σ H2 fun u H3=>r x l u H3 Q
theorem z7f{r:V→Option Int→Option Int→Hp→VK→Prop}(hr:SlR X r)(he:PE X e te)(hl:PO X lo tl)(hu:PO X hi th):PE X (.Subscript e (.Slice lo hi none p2) pos) (tSl r te tl th):=by
 intro pins s σ H Q I h
 refine Subscript_ (thn (he pins s σ H _ I h) fun v s1 ⟨x,H1,I1,r1,q1⟩=> ?_)
 refine wpAny_Slice (thn (hl pins s1 σ H1 _ I1 q1) fun vl s2 ⟨l,H2,I2,pl,q2⟩=>thn (hu pins s2 σ H2 _ I2 q2) fun vu s3 ⟨u,H3,I3,pu,q3⟩=> ?_)
 rw[evalPart_none]
 refine wpAny_pure ?_
 have I4:Inv X pins σ H3 {s3 with heap:=s3.heap.push {cls:= .type "slice",data:= .fields #[vl,vu, .none]}}:=I3.kept (t':=s3.toks) fun b ob q=>Heap.get?_push_of_some _ q
 obtain⟨T,id,hT,ht,hg⟩:=hr pins {s3 with heap:=s3.heap.push {cls:= .type "slice",data:= .fields #[vl,vu, .none]}} σ H3 x v vl vu l u s3.heap.objs.size Q I4 r1 (Heap.IsSliceOf.new ..) pl pu q3
 show wpAny (model X.prog X.w) X.A (subscriptTail e (.Slice lo hi none p2) v (.ref s3.heap.objs.size)) (EP X pins σ Q) X.xe {s3 with heap:=s3.heap.push {cls:= .type "slice",data:= .fields #[vl,vu, .none]}}
 exact tail_any (ops:=[.ref s3.heap.objs.size,v]) ht hT hg (by with_unfolding_all rfl)
noncomputable def cutV(xs:List V)(lo hi:Option Int):List V:=(xs.drop (HT.sIx xs.length 0 lo)).take (HT.sIx xs.length xs.length hi -HT.sIx xs.length 0 lo)
theorem z22(xs:List V)(lo hi:Option Int):(cutV xs lo hi).length≤xs.length:=by
 unfold cutV
 rw[List.length_take,List.length_drop]
 omega
noncomputable def rSlT(K:PySem.W.Frag):V→Option Int→Option Int→Hp→VK→Prop:=fun x lo hi H Q=> ∃a xs,x= .ref a∧SqT K H a xs∧
 ¬(HT.sIx xs.length 0 lo=0∧HT.sIx xs.length xs.length hi=xs.length)∧∀p,H p=none→Q (.ref p) (upd H p (.tup (cutV xs lo hi)))
theorem zan:SlR X (rSlT X.K):=by
 intro pins s σ H x v vl vu lo hi sl Q I rx hs pl pu h
 obtain⟨a,xs,rfl,hx,hw,q⟩:=h
 cases rx
 obtain⟨its,r,ht,hz⟩:=I.tuple hx
 have hlen:its.toArray.size=xs.length:=by rw[List.size_toArray];exact r.length.symm
 refine⟨"tuple",_,PyProof.Rows.slot_tuple_getitem.lookup,ht.typeIs, ?_⟩
 refine HT.getItem_tuple_cut ht hs pl pu (by rw[hlen];exact hw) ?_ (by rw[hlen];exact hz)
 rw[hlen]
 refine⟨.ref s.heap.objs.size,_,I.laid (t':=s.toks) (o:= .tup (cutV xs lo hi)) (fun b ob q=>Heap.get?_push_of_some _ q) (Nat.le_refl _) ?_,rfl,q _ (I.hok.fresh (Nat.le_refl _))⟩
 exact⟨Nat.le_trans (z22 xs lo hi) hz,_,(r.drop (HT.sIx xs.length 0 lo)).take (HT.sIx xs.length xs.length hi -HT.sIx xs.length 0 lo),IsTup.new _ _⟩
noncomputable def zbS(K:PySem.W.Frag):R2:=fun x y H Q=> ∃a b xs ys,x= .ref a∧y= .ref b∧SqT K H a xs∧SqT K H b ys∧xs≠[]∧xs.length+ys.length≤sizeLine∧
 (ys=[]→Q (.ref a) H)∧(ys≠[]→∀p,H p=none→Q (.ref p) (upd H p (.tup (xs++ys))))
theorem Vals.nil_iff{xs:List V}{us:List Value}(r:Vals xs us):us=[]↔xs=[]:=by
 cases r with
 |nil=>simp
 |cons _ _=>simp
theorem z8r:OpR X (binaryOp .Add) (zbS X.K):=by
 intro pins s σ H x y v u Q I rx ry h
 obtain⟨a,b,xs,ys,rfl,rfl,ha,hb,hx,hz,q1,q2⟩:=h
 cases rx
 cases ry
 obtain⟨its,r1,p1,_⟩:=I.tuple ha
 obtain⟨its2,r2,p2,_⟩:=I.tuple hb
 refine HT.cat_tup p1 p2 (fun z=>hx (r1.nil_iff.mp z)) (fun z=>⟨.ref a,H,I,rfl,q1 (r2.nil_iff.mp z)⟩) (fun z=> ?_) (by rw[←r1.length,←r2.length];exact hz)
 refine⟨.ref s.heap.objs.size,_,I.laid (t':=s.toks) (o:= .tup (xs++ys)) (fun b ob q=>Heap.get?_push_of_some _ q) (Nat.le_refl _) ?_,rfl,q2 (fun w=>z (r2.nil_iff.mpr w)) _ (I.hok.fresh (Nat.le_refl _))⟩
 exact⟨by rw[List.length_append];exact hz,_,r1.append r2,IsTup.new _ _⟩
end
end L2
namespace L2
open PySem PySem.Spec PyProof.Rows
noncomputable def ixN(n:Nat)(i:Int):Option Nat:=if 0≤i then(if i<n then some i.toNat else none) else if -(n:Int)≤i then some (i+n).toNat else none
noncomputable def atI{α:Type}(xs:List α)(i:Int):Option α:=(ixN xs.length i).bind fun j=>xs[j]?
theorem z5B{n:Nat}{i:Int}{j:Nat}(h:ixN n i=some j):seqIndex? i n=some j∧j<n∧-(n:Int)≤i∧i<n:=by
 unfold ixN at h
 by_cases h0:0≤i
 ·rw[if_pos h0] at h
  by_cases h1:i<n
  ·rw[if_pos h1] at h
   have e:i.toNat=j:=Option.some.inj h
   exact⟨by rw[seqIndex_of h0 h1,e],by omega,by omega,h1⟩
  ·rw[if_neg h1] at h;cases h
 ·rw[if_neg h0] at h
  by_cases h1: -(n:Int)≤i
  ·rw[if_pos h1] at h
   have e:(i+n).toNat=j:=Option.some.inj h
   exact⟨by rw[seqIndex_neg (by omega) h1,e],by omega,h1,by omega⟩
  ·rw[if_neg h1] at h;cases h
theorem z5C{α:Type}{xs:List α}{i:Int}{v:α}(h:atI xs i=some v): ∃j,seqIndex? i xs.length=some j∧xs[j]? =some v∧j<xs.length∧-(xs.length:Int)≤i∧i<xs.length:=by
 unfold atI at h
 cases e:ixN xs.length i with
 |none=>rw[e] at h;cases h
 |some j=>
  rw[e] at h
  obtain⟨h1,h2,h3,h4⟩:=z5B e
  exact⟨j,h1,h,h2,h3,h4⟩
theorem z8s{α:Type}{xs:List α}{j:Nat}{v:α}(h:xs[j]? =some v):atI xs (j:Int)=some v:=by
 have hj:j<xs.length:=(List.getElem?_eq_some_iff.mp h).1
 have e:ixN xs.length (j:Int)=some j:=by
  unfold ixN
  rw[if_pos (by omega),if_pos (by omega)];simp
 unfold atI;rw[e];exact h
noncomputable def z2L(b:Expr):Prop:= ∀o i,subscripted b false o i=operate [o,i] (getItem o i)
noncomputable def IxR(X:Cx)(r:R2):Prop:=
 ∀(value slice:Expr) (pins:List (Addr×Obj)) (s:Shared) (σ:St) (H:Hp) (x y:V) (v u:Value) (Q:VK),Inv X pins σ H s→RelV x v→RelV y u→r x y H Q→
  subscripted slice false v u=operate [v,u] (getItem v u)→wpAny (model X.prog X.w) X.A (subscriptTail value slice v u) (EP X pins σ Q) X.xe s
noncomputable def MtR(X:Cx)(id:String)(r:V→List V→Hp→VK→Prop):Prop:=
 ∀(pins:List (Addr×Obj)) (s:Shared) (σ:St) (H:Hp) (x:V) (xs:List V) (v:Value) (us:List Value) (Q:VK),Inv X pins σ H s→RelV x v→Vals xs us→r x xs H Q→
  wpAny (model X.prog X.w) X.A (call (.builtin id) (v::us)) (EP X pins σ Q) X.xe s
section
variable{X:Cx}{a b:Expr}{ta tb:TE}{pos:Pos}
theorem IxR.or{r r':R2}(h:IxR X r)(h':IxR X r'):IxR X (fun x y H Q=>r x y H Q∨r' x y H Q):=by
 intro value slice pins s σ H x y v u Q I rx ry q hs
 rcases q with q|q
 ·exact h value slice pins s σ H x y v u Q I rx ry q hs
 ·exact h' value slice pins s σ H x y v u Q I rx ry q hs
theorem zbT{r:R2}(hr:IxR X r)(ha:PE X a ta)(hb:PE X b tb)(hs:z2L b):PE X (.Subscript a b pos) (tOp r ta tb):=by
 intro pins s σ H Q I h
 exact Subscript_ (binT ha hb I h fun v u s2 x y H2 I2 rx ry q=>hr a b pins s2 σ H2 x y v u Q I2 rx ry q (hs _ _))
noncomputable def rIxL(K:PySem.W.Frag):R2:=fun x y H Q=> ∃p xs i v,x= .ref p∧y= .int i∧SqL K H p xs∧atI xs i=some v∧Q v H
noncomputable def rIxT(K:PySem.W.Frag):R2:=fun x y H Q=> ∃p xs i v,x= .ref p∧y= .int i∧SqT K H p xs∧atI xs i=some v∧Q v H
theorem z8t:IxR X (rIxL X.K):=by
 intro value slice pins s σ H x y v u Q I rx ry h hs
 obtain⟨p,xs,i,z,rfl,rfl,hq,he,q⟩:=h
 cases rx
 obtain⟨t,rfl⟩:=ry
 obtain⟨its,r,pl,hz⟩:=I.list hq
 obtain⟨j,h1,h2,h3,h4,h5⟩:=z5C he
 obtain⟨w,ew,rw'⟩:=r.get h2
 have hl:=r.length
 have hn:=z39
 have fin:EP X pins σ Q w s:=⟨z,H,I,rw',q⟩
 by_cases h0:0≤i
 ·have hj:i.toNat=j:=by
   rw[seqIndex_of h0 h5] at h1
   exact Option.some.inj h1
  exact item_listR pl.isList h0 (by omega) (by rw[hj];simpa using ew) fin hs
 ·have hj:(i+(its.toArray.size:Int)).toNat=j:=by
   rw[seqIndex_neg (by omega) h4] at h1
   rw[List.size_toArray,←hl]
   exact Option.some.inj h1
  exact subscriptTail_builtinR (x:=w) pl.isList.typeIs slot_list_getitem.lookup
   (wpAny_getItem_list_neg (Q:=fun r s'=>r=w∧EP X pins σ Q r s') pl.isList (by omega) (by rw[List.size_toArray]<;>omega) (by omega) (by rw[hj];simpa using ew) ⟨rfl,fin⟩) hs
theorem zao:IxR X (rIxT X.K):=by
 intro value slice pins s σ H x y v u Q I rx ry h hs
 obtain⟨p,xs,i,z,rfl,rfl,hq,he,q⟩:=h
 cases rx
 obtain⟨t,rfl⟩:=ry
 obtain⟨its,r,pl,hz⟩:=I.tuple hq
 obtain⟨j,h1,h2,h3,h4,h5⟩:=z5C he
 obtain⟨w,ew,rw'⟩:=r.get h2
 have hl:=r.length
 have hn:=z39
 have fin:EP X pins σ Q w s:=⟨z,H,I,rw',q⟩
 exact subscriptTail_builtinR (x:=w) pl.typeIs slot_tuple_getitem.lookup
  (getItem_tuple (j:=j) (Q:=fun r s'=>r=w∧EP X pins σ Q r s') pl (by omega) (by omega) (by rw[List.size_toArray,←hl];exact h1) (by simpa using ew) ⟨rfl,fin⟩) hs
theorem z4X(its:List Value)(n j:Nat)(u:Value):Obj.mapSeq (·.setIfInBounds j u) {cls:= .type "list",data:= .seq its.toArray n}={cls:= .type "list",data:= .seq (its.set j u).toArray n}:=by
 simp[Obj.mapSeq]
theorem Inv.lst{pins:List (Addr×Obj)}{σ:St}{H:Hp}{s:Shared}{p:Addr}{xs:List V}(I:Inv X pins σ H s)(h:H p=some (.lst xs)):
 ∃(its:List Value) (n:Nat),Vals xs its∧s.heap.get? p=some {cls:= .type "list",data:= .seq its.toArray n}∧xs.length≤sizeLine:=by
 obtain⟨z,its,n,r,e⟩:=I.hok p _ h
 exact⟨its,n,r,e,z⟩
theorem Inv.lstUpd{pins:List (Addr×Obj)}{σ:St}{H:Hp}{s:Shared}{p:Addr}{xs ys:List V}{its its':List Value}{n n':Nat}{f:Obj→Obj}(I:Inv X pins σ H s)(h:H p=some (.lst xs))
 (ho:s.heap.get? p=some {cls:= .type "list",data:= .seq its.toArray n}) (hf:f {cls:= .type "list",data:= .seq its.toArray n}={cls:= .type "list",data:= .seq its'.toArray n'}) (r:Vals ys its') (hz:ys.length≤sizeLine) (t:Nat):
 Inv X pins σ (upd H p (.lst ys)) {s with heap:=s.heap.update p f,toks:=t}:=by
 have e:(s.heap.update p f).get? p=some {cls:= .type "list",data:= .seq its'.toArray n'}:=by
  rw[Heap.get?_update_self f ho (by rw[hf]<;>rfl),hf]
 refine I.write (x:=p) (e:=p) (by rw[h];trivial) (.inl rfl) (fun b u hb q=>(Heap.get?_update_other _ _ (Ne.symm hb)).trans q) ⟨_,e⟩ ?_
 exact⟨hz,its',n',r,e⟩
noncomputable def z7g:V→V→V→Hp→(Hp→Prop)→Prop:=fun o i v H Q=> ∃p xs k j,o= .ref p∧i= .int k∧H p=some (.lst xs)∧ixN xs.length k=some j∧Q (upd H p (.lst (xs.set j v)))
theorem z4q:PSet X z7g:=by
 intro pins s σ H o i v ov iv u Q I ro ri rv h
 obtain⟨p,xs,k,j,rfl,rfl,hp,hj,q⟩:=h
 cases ro
 obtain⟨t,rfl⟩:=ri
 obtain⟨its,n,r,ho,hz⟩:=I.lst hp
 obtain⟨h1,h2,h3,h4⟩:=z5B hj
 have hl:=r.length
 have hn:=z39
 have I':Inv X pins σ (upd H p (.lst (xs.set j v))) {s with heap:=s.heap.update p (Obj.mapSeq (·.setIfInBounds j u))}:=
  I.lstUpd hp ho (z4X its n j u) (r.set rv j) (by rw[List.length_set];exact hz) s.toks
 by_cases h0:0≤k
 ·have hk:k.toNat=j:=by
   rw[seqIndex_of h0 h4] at h1
   exact Option.some.inj h1
  exact PySem.W.ki_setAt ho h0 (by omega) (by rw[List.size_toArray,←hl];exact h4) (by rw[hk];exact⟨_,I',q⟩)
 ·have hk:(k+(its.toArray.size:Int)).toNat=j:=by
   rw[seqIndex_neg (by omega) h3] at h1
   rw[List.size_toArray,←hl]
   exact Option.some.inj h1
  exact PySem.W.ki_setBack ho (by omega) (by rw[List.size_toArray,←hl];exact h3) (by omega) (by rw[hk];exact⟨_,I',q⟩)
theorem z3f(lo hi:Option Int)(n:Nat):(sliceBounds lo hi none n).1=((HT.sIx n 0 lo:Nat):Int)∧(sliceBounds lo hi none n).2.1=((HT.sIx n n hi:Nat):Int)∧(sliceBounds lo hi none n).2.2=1:=by
 refine⟨?_, ?_,rfl⟩
 ·cases lo with
  |none=>simp[sliceBounds,HT.sIx]
  |some i=>
   simp only[sliceBounds,HT.sIx,Option.getD_none,show(1:Int)>0 by decide,if_true]
   by_cases h:i<0
   ·simp only[h,if_true]<;>omega
   ·simp only[h,if_false]<;>omega
 ·cases hi with
  |none=>simp[sliceBounds,HT.sIx]
  |some i=>
   simp only[sliceBounds,HT.sIx,Option.getD_none,show(1:Int)>0 by decide,if_true]
   by_cases h:i<0
   ·simp only[h,if_true]<;>omega
   ·simp only[h,if_false]<;>omega
theorem z2M(its:List Value)(lo hi:Option Int):slicePick its.toArray lo hi none=((its.drop (HT.sIx its.length 0 lo)).take (HT.sIx its.length its.length hi -HT.sIx its.length 0 lo)).toArray:=by
 obtain⟨h1,h2,h3⟩:=z3f lo hi its.toArray.size
 unfold slicePick
 rw[h1,h2,h3]
 simp only[sliceRange_one,pick_run,List.size_toArray]<;>rfl
noncomputable def rSlL(K:PySem.W.Frag):V→Option Int→Option Int→Hp→VK→Prop:=fun x lo hi H Q=> ∃a xs,x= .ref a∧SqL K H a xs∧∀p,H p=none→Q (.ref p) (upd H p (.lst (cutV xs lo hi)))
theorem z8u:SlR X (rSlL X.K):=by
 intro pins s σ H x v vl vu lo hi sl Q I rx hs pl pu h
 obtain⟨a,xs,rfl,hx,q⟩:=h
 cases rx
 obtain⟨its,r,ht,hz⟩:=I.list hx
 have hlen:=r.length
 refine⟨"list",_,slot_list_getitem.lookup,ht.isList.typeIs, ?_⟩
 refine wpAny_getItem_list_slice ht.isList hs pl pu .none (by simp) ?_ (by rw[List.size_toArray]<;>omega)
 rw[z2M,←hlen]
 refine⟨.ref s.heap.objs.size,_,I.laid (t':=s.toks) (o:= .lst (cutV xs lo hi)) (fun b ob q=>Heap.get?_push_of_some _ q) (Nat.le_refl _) ?_,rfl,q _ (I.hok.fresh (Nat.le_refl _))⟩
 exact⟨Nat.le_trans (z22 xs lo hi) hz,_,0,(r.drop (HT.sIx xs.length 0 lo)).take (HT.sIx xs.length xs.length hi -HT.sIx xs.length 0 lo),Heap.get?_push_size _ rfl⟩
theorem z3g:CallR X (.builtin "len") (fun xs H Q=> ∃p ys,xs=[.ref p]∧(SqL X.K H p ys∨SqT X.K H p ys)∧Q (.int ys.length) H):=by
 intro pins s σ H xs us Q I r h
 obtain⟨p,ys,rfl,hq,q⟩:=h
 obtain⟨u,rfl,rx⟩:=z4U r
 cases rx
 have hn:=z39
 rcases hq with hq|hq
 ·obtain⟨its,r',pl,hz⟩:=I.list hq
  have hlen:=r'.length
  exact Calls.call_len_list pl.isList (by simp only[List.size_toArray]<;>omega) ⟨.int ys.length,H,I.tok _,⟨s.toks+1,by rw[List.size_toArray,hlen]⟩,q⟩
 ·obtain⟨its,r',pl,hz⟩:=I.tuple hq
  have hlen:=r'.length
  exact len_tuple pl (by simp only[List.size_toArray]<;>omega) ⟨.int ys.length,H,I.tok _,⟨s.toks+1,by rw[List.size_toArray,hlen]⟩,q⟩
theorem z3h:CallR X (.type "list") (fun xs H Q=> ∃p ys,xs=[.ref p]∧(SqL X.K H p ys∨SqT X.K H p ys)∧∀l,H l=none→Q (.ref l) (upd H l (.lst ys))):=by
 intro pins s σ H xs us Q I r h
 obtain⟨p,ys,rfl,hq,q⟩:=h
 obtain⟨u,rfl,rx⟩:=z4U r
 cases rx
 have fin: ∀(its:List Value),Vals ys its→ys.length≤sizeLine→∀(h':Heap) (c':Nat),(∀b o',s.heap.get? b=some o'→h'.get? b=some o')→
  h'.get? s.heap.objs.size=some {cls:= .type "list",dict:=none,data:= .seq its.toArray c',slots:= #[]}→EP X pins σ Q (.ref s.heap.objs.size) {s with heap:=h'}:=fun its r' hz h' c' kp e=>
  ⟨.ref s.heap.objs.size,_,I.laid (t':=s.toks) kp (Nat.le_refl _) (show z0C X.prog X.w _ h' _ (.lst ys) from⟨hz,its,c',r',e⟩),rfl,q _ (I.hok.fresh (Nat.le_refl _))⟩
 rcases hq with hq|hq
 ·obtain⟨its,r',pl,hz⟩:=I.list hq
  have hlen:=r'.length
  obtain⟨o,ho,hc,n,hd⟩:=pl.isList
  exact call_list_seq p (.inl rfl) ho hc hd (fun h' c' kp e=>fin its r' hz h' c' kp e) (by simp only[List.size_toArray]<;>omega)
 ·obtain⟨its,r',pl,hz⟩:=I.tuple hq
  have hlen:=r'.length
  obtain⟨o,ho,hc,n,hd⟩:=pl
  exact call_list_seq p (.inr rfl) ho hc hd (fun h' c' kp e=>fin its r' hz h' c' kp e) (by simp only[List.size_toArray]<;>omega)
theorem z2N:CallR X (.type "tuple") (fun xs H Q=> ∃p ys,xs=[.ref p]∧((SqL X.K H p ys∧∀l,H l=none→Q (.ref l) (upd H l (.tup ys)))∨(SqT X.K H p ys∧Q (.ref p) H))):=by
 intro pins s σ H xs us Q I r h
 obtain⟨p,ys,rfl,h⟩:=h
 obtain⟨u,rfl,rx⟩:=z4U r
 cases rx
 rcases h with⟨hq,q⟩|⟨hq,q⟩
 ·obtain⟨its,r',pl,hz⟩:=I.list hq
  have hlen:=r'.length
  refine call_tuple_list pl.isList (fun h' kp=> ?_) (by simp only[List.size_toArray]<;>omega)
  have I1:Inv X pins σ H {s with heap:=h'}:=I.kept (t':=s.toks) kp
  have I2:Inv X pins σ (upd H h'.objs.size (.tup ys)) {s with heap:=h'.push {cls:= .type "tuple",data:= .seq its.toArray}}:=
   I1.laid (t':=s.toks) (fun b o e=>Heap.get?_push_of_some _ e) (Nat.le_refl _) (show z0C X.prog X.w _ _ _ (.tup ys) from⟨hz,its,r',IsTup.new _ _⟩)
  exact⟨.ref h'.objs.size,_,I2,rfl,q _ (I1.hok.fresh (Nat.le_refl _))⟩
 ·obtain⟨its,r',pl,hz⟩:=I.tuple hq
  exact call_tuple_same pl ⟨.ref p,H,I,rfl,q⟩
noncomputable def tyV(K:PySem.W.Frag)(T:String)(x:V)(H:Hp):Prop:=match x with
 | .str _=>T= "str"
 | .int _=>T= "int"
 | .ref p=>(T= "list" ∧∃xs,SqL K H p xs)∨(T= "tuple" ∧∃o,K.lookup p=some o∧o.cls= .type "tuple" ∧o.dict=none)∨
  (T= "dict" ∧((∃kvs,H p=some (.dK kvs))∨∃kvs,H p=some (.dT kvs)))∨(T= "set" ∧∃S n,H p=some (.set S n))
 |_=>False
theorem zap{pins:List (Addr×Obj)}{σ:St}{H:Hp}{s:Shared}{T:String}{x:V}{v:Value}(I:Inv X pins σ H s)(r:RelV x v)(ty:tyV X.K T x H):
 s.TypeIs v T∧∀a,v= .ref a→∃ob,s.heap.get? a=some ob∧ob.dict=none:=by
 cases x with
 |str z=>
  obtain⟨t,rfl⟩:=r
  cases(show T= "str" from ty)
  exact⟨typeIs_str s z t,fun _ e=>nomatch e⟩
 |int i=>
  obtain⟨t,rfl⟩:=r
  cases(show T= "int" from ty)
  exact⟨typeIs_int s i t,fun _ e=>nomatch e⟩
 |ref p=>
  cases r
  rcases ty with⟨rfl,xs,hq⟩|⟨rfl,o,hk,hc,hd⟩|⟨rfl,hk⟩|⟨rfl,S,n,hk⟩
  ·obtain⟨its,_,pl,_⟩:=I.list hq
   refine⟨pl.isList.typeIs,fun a e=> ?_⟩
   cases e
   obtain⟨o,n,e,c,hd,_⟩:=pl
   exact⟨o,e,hd⟩
  ·refine⟨⟨o,I.kIn p o hk,hc⟩,fun a e=> ?_⟩
   cases e
   exact⟨o,I.kIn _ o hk,hd⟩
  ·have z: ∃o,s.heap.get? p=some o∧o.ExactDict:=by
    rcases hk with⟨kvs,hk⟩|⟨kvs,hk⟩
    ·obtain⟨_,_,_,_,o,_,_,e,ex,_⟩:=I.hok p _ hk
     exact⟨o,e,ex⟩
    ·obtain⟨_,_,_,_,o,_,_,e,ex,_⟩:=I.hok p _ hk
     exact⟨o,e,ex⟩
   obtain⟨o,e,ex⟩:=z
   refine⟨⟨o,e,ex.1⟩,fun a e2=> ?_⟩
   cases e2
   exact⟨o,e,ex.2.1⟩
  ·obtain⟨o,_,_,_,e,ex,_⟩:=I.hok p _ hk
   refine⟨⟨o,e,ex.1⟩,fun a e2=> ?_⟩
   cases e2
   exact⟨o,e,ex.2.1⟩
 |_=>exact False.elim ty
noncomputable def tBM(K:PySem.W.Frag)(T:String)(r:V→List V→Hp→VK→Prop)(to:TE)(t:TA):TE:=fun σ H Q=>to σ H fun x H1=>tyV K T x H1∧t σ H1 fun xs H2=>r x xs H2 Q
variable{o e:Expr}{es:List Expr}{to:TE}{t:TA}{name:Str}{apos cpos:Pos}{T id:String}{r:V→List V→Hp→VK→Prop}
theorem zbU(pa:PlainAttrs T)(slot:Slot T name id)(hty:typeOf (.builtin id)=pure (.type "method_descriptor"))(hm:MtR X id r)(ho:PE X o to)(ha:PA X (e::es) t)
 (hbase:attributeBase o name X.env (eval o X.env)=eval o X.env:=by rfl)
 (hfew:((backTo cpos (starEach (e::es) X.env)).all (fun x=> !x.1)&&(backToKw cpos (keywordEach [] X.env)).all (fun x=>x.1.isSome)
  &&decide ((e::es).length+([]:List Keyword).length+(if([]:List Keyword).isEmpty then 0 else 1)<30))=true:=by rfl)
 (hline:(apos.endLine==cpos.line)=true:=by rfl) (hs:starEach (e::es) X.env=(false,eval e X.env)::starEach es X.env:=by rfl) (hplain:(backTo cpos (starEach es X.env)).any (·.1)=false:=by rfl):
 PE X (.Call (.Attribute o name apos) (e::es) [] cpos) (tBM X.K T r to t):=by
 intro pins s σ H Q I h
 refine wpAny_Call_method_late hbase hfew hline rfl (thn (ho pins s σ H _ I h) fun v s1 ⟨x,H1,I1,r1,ty,q1⟩=> ?_)
 obtain⟨h1,h2⟩:=zap I1 r1 ty
 refine⟨T,id,pa,slot,hty,h1,h2, ?_⟩
 have hA:=ha cpos pins s1 σ H1 _ I1 q1
 rw[hs] at hA⊢
 refine Calls.callWith_builtin (by show(false||(backTo cpos (starEach es X.env)).any (·.1))=false;rw[hplain]<;>rfl) (Calls.evalArgs_plain ?_)
 exact thn hA fun us s2 ⟨vs,H2,I2,r2,q2⟩=>hm pins s2 σ H2 x vs v us Q I2 r1 r2 q2
end
end L2
namespace L2
open PySem PySem.Spec PyProof.Rows
noncomputable def MtM(X:Cx)(id:String)(r:V→List V→Hp→VK→Prop):Prop:=
 ∀(pins:List (Addr×Obj)) (s:Shared) (σ:St) (H:Hp) (x:V) (xs:List V) (v:Value) (us:List Value) (Q:VK),Inv X pins σ H s→RelV x v→Vals xs us→r x xs H Q→
  wpAny (model X.prog X.w) X.A (call (.builtin id) (v::us)) (EP X pins σ Q) X.xe s
theorem Vals.one: ∀{x:V} {us:List Value},Vals [x] us→∃u,us=[u]∧RelV x u
 |_,_, .cons r .nil=>⟨_,rfl,r⟩
theorem Vals.rep{xs:List V}{us:List Value}(h:Vals xs us): ∀k:Nat,Vals (List.replicate k xs).flatten (List.replicate k us).flatten
 |0=> .nil
 |k+1=>by
  rw[List.replicate_succ,List.replicate_succ,List.flatten_cons,List.flatten_cons]
  exact Vals.append h (Vals.rep h k)
theorem z23(its:List Value): ∀(k:Nat) (acc:List Value),
 List.foldl (fun x1 x2=>x1++x2) acc.toArray (List.replicate k its.toArray)=(acc++(List.replicate k its).flatten).toArray
 |0,acc=>by simp
 |k+1,acc=>by
  have e:acc.toArray++its.toArray=(acc++its).toArray:=by simp
  have e2:(acc++its)++(List.replicate k its).flatten=acc++(List.replicate (k+1) its).flatten:=by
   rw[List.replicate_succ,List.flatten_cons,List.append_assoc]
  rw[←e2,←z23 its k (acc++its),←e,List.replicate_succ,List.foldl_cons]
section
variable{X:Cx}{pins:List (Addr×Obj)}{σ:St}{H:Hp}{s:Shared}{l b:Addr}{xs ys zs:List V}
theorem Inv.lset{its its':List Value}{n:Nat}{f:Array Value→Array Value}{t':Nat}(I:Inv X pins σ H s)(hH:H l=some (.lst xs))
 (e:s.heap.get? l=some {cls:= .type "list",data:= .seq its.toArray n}) (hf:f its.toArray=its'.toArray) (hv:Vals ys its') (hz:ys.length≤sizeLine):
 Inv X pins σ (upd H l (.lst ys)) {s with heap:=s.heap.update l (Obj.mapSeq f),toks:=t'}:=by
 have q:=PySem.IsL.update e f
 rw[hf] at q
 refine I.write (x:=l) (e:=l) (by rw[hH];exact trivial) (.inl rfl) (fun b' u hb hu=>(Heap.get?_update_other s.heap (Obj.mapSeq f) (Ne.symm hb)).trans hu) ⟨_,q⟩ ?_
 exact⟨hz,its',_,hv,q⟩
theorem Inv.lnew{its:List Value}{t':Nat}(I:Inv X pins σ H s)(hv:Vals ys its)(hz:ys.length≤sizeLine):
 Inv X pins σ (upd H s.heap.objs.size (.lst ys)) {s with heap:=s.heap.push {cls:= .type "list",data:= .seq its.toArray},toks:=t'}:=
 I.laid (fun _ _ q=>Heap.get?_push_of_some _ q) (Nat.le_refl _) ⟨hz,its,0,hv,Heap.get?_push_size _ rfl⟩
theorem Inv.fresh(I:Inv X pins σ H s):H s.heap.objs.size=none:=I.hok.fresh (Nat.le_refl _)
theorem Inv.lstM(I:Inv X pins σ H s)(hH:H l=some (.lst xs)):xs.length≤sizeLine∧∃(its:List Value) (n:Nat),Vals xs its∧xs.length=its.length∧s.heap.get? l=some {cls:= .type "list",data:= .seq its.toArray n}:=by
 obtain⟨z,its,n,r,e⟩:=I.hok l _ hH
 exact⟨z,its,n,r,r.length,e⟩
theorem z7h{n:Nat}(h:n≤sizeLine):Builtin.List.listTooLong n=false:=by
 unfold Builtin.List.listTooLong
 exact decide_eq_false (by omega)
end
section
variable{X:Cx}
noncomputable def z5D:V→List V→Hp→VK→Prop:=fun x vs H Q=> ∃l xs y,x= .ref l∧vs=[y]∧H l=some (.lst xs)∧xs.length<sizeLine∧Q .non (upd H l (.lst (xs++[y])))
theorem z3i:MtM X "list.append" z5D:=by
 intro pins s σ H x vs v us Q I rx rv h
 obtain⟨l,xs,y,rfl,rfl,hH,hz,q⟩:=h
 cases rx
 obtain⟨u,rfl,ru⟩:=rv.one
 obtain⟨z,its,n,r,hl,e⟩:=I.lstM hH
 refine call_meets F.slot_list_append ⟨_,e,rfl⟩ F.entry_list_append (F.args_list_append_2 _ _) (PySem.list_append l its.toArray n u (by rw[List.size_toArray];omega)) ⟨e, ?_⟩
 refine⟨.non,_,I.lset (its':=its++[u]) hH e (by simp) (r.append (.cons ru .nil)) ?_,rfl,q⟩
 rw[List.length_append,List.length_singleton]
 omega
noncomputable def rCat:R2:=fun x y H Q=> ∃l b xs zs,x= .ref l∧y= .ref b∧H l=some (.lst xs)∧H b=some (.lst zs)∧xs.length+zs.length≤sizeLine∧∀p,H p=none→Q (.ref p) (upd H p (.lst (xs++zs)))
theorem zaq:OpR X (binaryOp .Add) rCat:=by
 intro pins s σ H x y v u Q I rx ry h
 obtain⟨l,b,xs,zs,rfl,rfl,hH,hB,hz,q⟩:=h
 cases rx
 cases ry
 obtain⟨z,its,n,r,hl,e⟩:=I.lstM hH
 obtain⟨z2,its2,n2,r2,hl2,e2⟩:=I.lstM hB
 refine PySem.P.add_list e e2 ?_ (by rw[List.size_toArray,List.size_toArray];omega)
 have ea:its.toArray++its2.toArray=(its++its2).toArray:=by simp
 rw[ea]
 exact⟨.ref _,_,I.lnew (t':=s.toks) (r.append r2) (by rw[List.length_append];omega),rfl,q _ I.fresh⟩
noncomputable def rRep:R2:=fun x y H Q=> ∃l k xs,x= .ref l∧y= .int k∧H l=some (.lst xs)∧-(2^63)≤k∧k<2^63∧xs.length*k.toNat≤sizeLine∧
 ∀p,H p=none→Q (.ref p) (upd H p (.lst (List.replicate k.toNat xs).flatten))
theorem z3L{α:Type}(xs:List α)(k:Nat):(List.replicate k xs).flatten.length=k*xs.length:=by
 induction k with
 |zero=>simp
 |succ k ih=>rw[List.replicate_succ,List.flatten_cons,List.length_append,ih,Nat.succ_mul,Nat.add_comm]
theorem zar:OpR X (binaryOp .Mult) rRep:=by
 intro pins s σ H x y v u Q I rx ry h
 obtain⟨l,k,xs,rfl,rfl,hH,h1,h2,hz,q⟩:=h
 cases rx
 obtain⟨t,rfl⟩:=ry
 obtain⟨z,its,n,r,hl,e⟩:=I.lstM hH
 have hlen:its.toArray.size*k.toNat≤sizeLine:=by rw[List.size_toArray,←hl];exact hz
 have hcap: ¬its.toArray.size*k.toNat>(2^63 - 1)/8:=by
  have:(sizeLine:Nat)≤(2^63 - 1)/8:=by decide
  omega
 have hfit: ¬(!Builtin.List.listFitsIndex k)=true:=by
  rw[fitsIndex_both h1 h2]
  exact Bool.false_ne_true
 have hlong: ¬Builtin.List.listTooLong (its.toArray.size*k.toNat)=true:=by
  rw[z7h hlen]
  exact Bool.false_ne_true
 have hnew:List.foldl (fun x1 x2=>x1++x2) #[] (List.replicate (if its.toArray.isEmpty=true then 0 else k.toNat) its.toArray)=(List.replicate k.toNat its).flatten.toArray:=by
  have f0: ∀m:Nat,List.foldl (fun x1 x2=>x1++x2) #[] (List.replicate m its.toArray)=(List.replicate m its).flatten.toArray:=fun m=>by
   have:=z23 its m []
   rw[List.nil_append] at this
   exact this
  rw[f0]
  cases its with
  |nil=>simp
  |cons a r'=>rw[if_neg (by simp)]
 refine wpAny_binaryOp_repeat_ref (T:= "list") (U:= "int") (by decide) ⟨_,e,rfl⟩ (fun s'=>typeIs_int s' k t) noFill_list_mul F.fills_int_mul F.slot_int_rmul repeat_list F.slot_int_index.lookup
  (call_meets F.slot_int_rmul (typeIs_int s k t) F.entry_int_rmul (F.args_int_rmul_2 _ _) (int___rmul___int_list k t l its.toArray n)
   ⟨e,rfl,⟨_,e,rfl⟩,call_meets F.slot_list_mul ⟨_,e,rfl⟩ F.entry_list_mul (F.args_list_mul_2 _ _) (AutoListH.list___mul___list_int_3 l its.toArray n k t hfit hcap hlong) ⟨e, ?_⟩⟩)
 rw[hnew]
 exact⟨.ref _,_,I.lnew (t':=s.toks) (r.rep k.toNat) (by rw[z3L,Nat.mul_comm];exact hz),rfl,q _ I.fresh⟩
end
section
variable{prog:Program}{w:World}{A:Around}{E:Value→Shared→Prop}{s:Shared}
set_option maxRecDepth 100000 in
end
section
variable{X:Cx}
end
end L2
namespace L2
open PySem PySem.Spec PyProof.Rows
section
variable{κ:Type}[DecidableEq κ]
noncomputable def valV(kvs:List (κ×V))(k:κ):Option V:=(kvs.find? fun kv=>decide (kv.1=k)).map (·.2)
noncomputable def putK(kvs:List (κ×V))(k:κ)(v:V):List (κ×V):=
 if(kvs.any fun kv=>decide (kv.1=k))=true then kvs.map (fun kv=>if kv.1=k then(kv.1,v) else kv) else kvs++[(k,v)]
theorem z4r{p:κ×V}{r:List (κ×V)}{k:κ}(e:p.1=k):valV (p::r) k=some p.2:=by simp[valV,List.find?_cons,e]
theorem z4s{p:κ×V}{r:List (κ×V)}{k:κ}(e: ¬p.1=k):valV (p::r) k=valV r k:=by simp[valV,List.find?_cons,e]
theorem z4t(k:κ): ∀kvs:List (κ×V),(kvs.any fun kv=>decide (kv.1=k))=(valV kvs k).isSome
 |[]=>rfl
 |p::r=>by
  rw[List.any_cons]
  by_cases e:p.1=k
  ·simp only[z4r e,decide_eq_true e,Bool.true_or,Option.isSome_some]
  ·rw[z4s e,decide_eq_false e,Bool.false_or];exact z4t k r
theorem z24(kvs:List (κ×V))(k:κ)(v:V):(putK kvs k v).length≤kvs.length+1:=by
 unfold putK
 split
 ·rw[List.length_map];omega
 ·rw[List.length_append,List.length_cons,List.length_nil];omega
theorem RelO.isSome_eq{o:Option V}{u:Option Value}(r:RelO o u):o.isSome=u.isSome:=by
 cases o with
 |none=>cases u with
  |none=>rfl
  |some _=>exact(show False from r).elim
 |some _=>cases u with
  |none=>exact(show False from r).elim
  |some _=>rfl
theorem KV.any{kvs:List (κ×V)}{vs:List (κ×Value)}(r:KV kvs vs)(k:κ):(kvs.any fun kv=>decide (kv.1=k))=vs.any fun kv=>decide (kv.1=k):=by
 unfold KV at r
 induction r with
 |nil=>rfl
 |cons h t ih=>rw[List.any_cons,List.any_cons,ih,h.1]
theorem KV.repl{kvs:List (κ×V)}{vs:List (κ×Value)}(r:KV kvs vs)(k:κ){y:V}{u:Value}(ry:RelV y u):
 KV (kvs.map fun kv=>if kv.1=k then(kv.1,y) else kv) (vs.map fun kv=>if kv.1=k then(kv.1,u) else kv):=by
 unfold KV at r⊢
 induction r with
 |nil=>exact .nil
 | @cons p q ps qs h t ih=>
  rw[List.map_cons,List.map_cons]
  refine .cons ?_ ih
  obtain⟨h1,h2⟩:=h
  by_cases e:p.1=k
  ·rw[if_pos e,if_pos (h1.symm.trans e)];exact⟨h1,ry⟩
  ·rw[if_neg e,if_neg (fun z=>e (h1.trans z))];exact⟨h1,h2⟩
theorem KV.put{kvs:List (κ×V)}{vs:List (κ×Value)}(r:KV kvs vs)(k:κ){y:V}{u:Value}(ry:RelV y u):KV (putK kvs k y) (stored vs k u):=by
 unfold putK stored
 rw[r.any k]
 by_cases e:(vs.any fun kv=>decide (kv.1=k))=true
 ·rw[if_pos e,if_pos e];exact r.repl k ry
 ·rw[if_neg e,if_neg e];exact Paired.snoc r ⟨rfl,ry⟩
theorem KV.length{kvs:List (κ×V)}{vs:List (κ×Value)}(r:KV kvs vs):kvs.length=vs.length:=Paired.length r
end
theorem zas{P:Program}{w:World}{k:Key}{u:Value}(r:RelV (kV k) u):(z0t P w).is k u=true:=by
 cases k with
 |inl i=>obtain⟨t,e⟩:=(show ∃t,u=Value.int i t from r);subst e;exact z3H P w i t
 |inr x=>obtain⟨t,e⟩:=(show ∃t,u=Value.str x t from r);subst e;exact z3I P w x t
theorem z3j{P:Program}{w:World}: ∀{ks:List Key} {us:List Value},Vals (ks.map kV) us→ItemsAre (z0t P w) ks us
 |[],_,r=>by rw[List.map_nil] at r;cases r;exact .nil
 |k::ks,_,r=>by
  rw[List.map_cons] at r
  cases r with
  |cons h t=>exact .cons (zas h) (z3j t)
noncomputable abbrev KT(H:Hp):List (List Key×V)→List (List Key×Addr×Value)→Prop:=Paired fun p q=>p.1=q.1∧H q.2.1=some (.tup (p.1.map kV))∧RelV p.2 q.2.2
theorem KT.val{H:Hp}{kvs:List (List Key×V)}{xs:List (List Key×Addr×Value)}(r:KT H kvs xs)(k:List Key):RelO (valV kvs k) ((atKey xs k).map (·.2)):=by
 induction r with
 |nil=>exact True.intro
 | @cons p q ps qs h t ih=>
  obtain⟨h1,_,h2⟩:=h
  by_cases e:p.1=k
  ·have e':q.1=k:=h1.symm.trans e
   have b:atKey (q::qs) k=some q.2:=by simp[atKey,List.find?_cons,e']
   rw[z4r e,b];exact h2
  ·have e': ¬q.1=k:=fun z=>e (h1.trans z)
   have b:atKey (q::qs) k=atKey qs k:=by simp[atKey,List.find?_cons,e']
   rw[z4s e,b];exact ih
theorem KT.repl{H:Hp}{kvs:List (List Key×V)}{xs:List (List Key×Addr×Value)}(r:KT H kvs xs)(k:List Key){y:V}{u:Value}(ry:RelV y u):
 KT H (kvs.map fun kv=>if kv.1=k then(kv.1,y) else kv) (xs.map (putAt k u)):=by
 induction r with
 |nil=>exact .nil
 | @cons p q ps qs h t ih=>
  rw[List.map_cons,List.map_cons]
  refine .cons ?_ ih
  obtain⟨h1,h2,h3⟩:=h
  unfold putAt
  by_cases e:p.1=k
  ·rw[if_pos e,if_pos (h1.symm.trans e)];exact⟨h1,h2,ry⟩
  ·rw[if_neg e,if_neg (fun z=>e (h1.trans z))];exact⟨h1,h2,h3⟩
theorem KT.put{H:Hp}{kvs:List (List Key×V)}{xs:List (List Key×Addr×Value)}(r:KT H kvs xs)(k:List Key){b:Addr}{y:V}{u:Value}(hb:H b=some (.tup (k.map kV)))(ry:RelV y u):
 KT H (putK kvs k y) (storedH xs k b u):=by
 have e:(kvs.any fun kv=>decide (kv.1=k))=(atKey xs k).isSome:=by
  rw[z4t,(r.val k).isSome_eq,Option.isSome_map]
 unfold putK storedH
 rw[e]
 by_cases q:(atKey xs k).isSome=true
 ·rw[if_pos q,if_pos q];exact r.repl k ry
 ·rw[if_neg q,if_neg q];exact Paired.snoc r ⟨rfl,hb,ry⟩
theorem KT.keeps{H H':Hp}{kvs:List (List Key×V)}{xs:List (List Key×Addr×Value)}(r:KT H kvs xs)(ht: ∀b ys,H b=some (.tup ys)→H' b=some (.tup ys)):KT H' kvs xs:=
 Paired.mapP r fun _ _ z=>⟨z.1,ht _ _ z.2.1,z.2.2⟩
section
variable{P:Program}{w:World}{H:Hp}{h:Heap}{a:Addr}
theorem z8v{u:HO}(ok:HOk P w H h)(e:Rd H a u):z0C P w H h a u:=e.ok ok
theorem zbV{kvs:List (Key×V)}(ok:HOk P w H h)(e:Rd H a (.dK kvs)):kvs.length≤sizeLine∧(a==sysModules)=false∧∃vs,KV kvs vs∧h.DictOf (z0t P w) a vs:=
 show z0C P w H h a (.dK kvs) from z8v ok e
theorem zbW{kvs:List (Key×V)}(ok:HOk P w H h)(e:H a=some (.dK kvs)):kvs.length≤sizeLine∧(a==sysModules)=false∧∃vs,KV kvs vs∧h.DictOf (z0t P w) a vs:=zbV ok (.inl e)
theorem z82{ks:List Key}(ok:HOk P w H h)(e:H a=some (.tup (ks.map kV))):(tupleKind (z0t P w)).is h ks a:=by
 obtain⟨_,its,r,o,h1,h2,n,h3⟩:=(show z0C P w H h a (.tup (ks.map kV)) from ok a _ e)
 exact⟨o,its.toArray,n,h1,h2,h3,by simpa using z3j r⟩
theorem zbX{kvs:List (List Key×V)}(ok:HOk P w H h)(e:Rd H a (.dT kvs)):kvs.length≤sizeLine∧(a==sysModules)=false∧
 ∃xs,KT H kvs xs∧h.DictOfH (tupleKind (z0t P w)) a xs:=by
 obtain⟨z,y,xs,r,o,es,ep,h1,h2,h3,h4,h5⟩:=(show z0C P w H h a (.dT kvs) from z8v ok e)
 refine⟨z,y,xs,r,o,es,ep,h1,h2,h3,h4,fun x hx=> ?_,h5⟩
 have all: ∀{l:List (List Key×V)} {m:List (List Key×Addr×Value)},KT H l m→∀x∈m,(tupleKind (z0t P w)).is h x.1 x.2.1:=by
  intro l m q
  induction q with
  |nil=>intro x hx;exact nomatch hx
  | @cons p q ps qs hq t ih=>
   intro x hx
   rcases List.mem_cons.mp hx with e|hx
   ·subst e
    exact z82 ok (by rw[←hq.1];exact hq.2.1)
   ·exact ih x hx
 exact all r x hx
theorem zbY{kvs:List (List Key×V)}(ok:HOk P w H h)(e:H a=some (.dT kvs)):kvs.length≤sizeLine∧(a==sysModules)=false∧
 ∃xs,KT H kvs xs∧h.DictOfH (tupleKind (z0t P w)) a xs:=zbX ok (.inl e)
end
noncomputable def DPut(H:Hp)(a:Addr)(y v:V)(H':Hp):Prop:=
 (∃kvs k,H a=some (.dK kvs)∧y=kV k∧kvs.length<sizeLine∧H'=upd H a (.dK (putK kvs k v)))∨
 ∃kvs k b,H a=some (.dT kvs)∧y= .ref b∧H b=some (.tup (k.map kV))∧kvs.length<sizeLine∧H'=upd H a (.dT (putK kvs k v))
theorem DPut.t{H:Hp}{a b:Addr}{kvs:List (List Key×V)}{k:List Key}{v:V}(e:H a=some (.dT kvs))(eb:H b=some (.tup (k.map kV)))(hl:kvs.length<sizeLine):
 DPut H a (.ref b) v (upd H a (.dT (putK kvs k v))):= .inr ⟨kvs,k,b,e,rfl,eb,hl,rfl⟩
section
variable{X:Cx}{pins:List (Addr×Obj)}{σ:St}{H:Hp}{s:Shared}{a:Addr}{y v:V}{u r:Value}{o:Option V}{A:Around}{E:Value→Shared→Prop}
theorem Inv.big(I:Inv X pins σ H s):sysModules<s.heap.objs.size:=by
 have h:mainGlobals<s.heap.objs.size:=(I.mod.glob.keeps I.bk).lt
 exact Nat.lt_trans (by decide) h
theorem z5E{h':Heap}{t':Nat}{ob:HO}(I:Inv X pins σ H s)(mu:Mut (H a))(hs:Heap.SameBut a s.heap h')(he: ∃q,h'.get? a=some q)(new:z0C X.prog X.w (upd H a ob) h' a ob):
 Inv X pins σ (upd H a ob) {s with heap:=h',toks:=t'}:=
 I.write (x:=a) (e:=a) mu (.inl rfl) (fun b q hb z=>(hs.2 b hb).trans z) he new
theorem zat{P:Program}{w:World}{H':Hp}{h':Heap}{kvs:List (Key×V)}{vs:List (Key×Value)}(z:kvs.length≤sizeLine)(hd:(a==sysModules)=false)(rel:KV kvs vs)(dd:h'.DictOf (z0t P w) a vs):
 z0C P w H' h' a (.dK kvs):=⟨z,hd,vs,rel,dd⟩
theorem z5F{H':Hp}{Q:Unit→Shared→Prop}(hu:A.units+1<cLine)(I:Inv X pins σ H s)(g:DPut H a y v H')(ry:RelV y u)(rv:RelV v r)(h: ∀s',Inv X pins σ H' s'→Q () s'):
 wpAny (model X.prog X.w) A (setItem (.ref a) u r) Q E s:=by
 rcases g with⟨kvs,k,e,ey,l,eH⟩|⟨kvs,k,b,e,ey,eb,l,eH⟩
 ·subst ey eH
  obtain⟨z,hd,vs,rel,dd⟩:=zbW I.hok e
  have hz:vs.length≤sizeLine:=by rw[←rel.length];exact z
  have hl:(putK kvs k v).length≤sizeLine:=by have:=z24 kvs k v;omega
  refine wpAny_setItem_pairs (hsz:=hz) (zas ry) dd fun h' dd' hs=>h _ ?_
  have he: ∃q,h'.get? a=some q:=let⟨q,_,_,hq,_⟩:=dd';⟨q,hq⟩
  exact z5E I (by rw[e];exact True.intro) hs he (zat hl hd (rel.put k rv) dd')
 ·subst ey eH
  cases(show u=Value.ref b from ry)
  obtain⟨z,hd,xs,rel,dd⟩:=zbY I.hok e
  have hz:xs.length≤sizeLine:=by rw[←Paired.length rel];exact z
  have hl:(putK kvs k v).length≤sizeLine:=by have:=z24 kvs k v;omega
  refine wpAny_setItem_heap (hsz:=hz) (tupleKind_room_in1 hu) (z82 I.hok eb) dd fun h' dd' hs=>h _ ?_
  obtain⟨q,es,ep,hq,h2,h3,h4,_,h5⟩:=dd'
  refine z5E I (by rw[e];exact True.intro) hs ⟨q,hq⟩ ⟨hl,hd,_,(rel.put k eb rv).keeps fun c ys ec=> ?_,q,es,ep,hq,h2,h3,h4,h5⟩
  rw[z05 (z3J ec e (fun z=>nomatch z))]
  exact ec
end
section
variable{X:Cx}{pins:List (Addr×Obj)}{σ:St}{H:Hp}{s:Shared}{a:Addr}{kvs:List (Key×V)}{k:Key}{u:Value}{A:Around}{E:Value→Shared→Prop}
end
noncomputable def zbZ(td ty tv:TE):TS:=fun D σ H=>tv σ H fun v H1=>td σ H1 fun x H2=>ty σ H2 fun y H3=> ∃a H4,x= .ref a∧DPut H3 a y v H4∧D.nx σ H4
section
variable{X:Cx}{o i e value:Expr}{pos pos' tpos:Pos}{td ty tv:TE}
theorem z8w(hu:X.A.units+1<cLine)(ho:PE X o td)(hi:PE X i ty)(hv:PE X value tv)(hs:swapsWith value (some (.Subscript o i pos')) pos.line X.env=pure false):
 PS X (.Assign [.Subscript o i pos'] value pos) (zbZ td ty tv):=by
 intro pins s σ H D I h
 refine wpAny_Assign_Subscript (thn (hv pins s σ H _ I h) fun r s1 ⟨v,H1,I1,rv,q1⟩=>thn (ho pins s1 σ H1 _ I1 q1) fun u s2 ⟨x,H2,I2,rx,q2⟩=>thn (hi pins s2 σ H2 _ I2 q2) fun iv s3 ⟨y,H3,I3,ry,a,H4,ex,g,q3⟩=> ?_) hs
 subst ex
 obtain rfl:u=Value.ref a:=rx
 exact z5F hu I3 g ry rv fun s4 I4=>⟨σ,H4,I4,q3⟩
end
theorem z7i{P:Program}{w:World}{H:Hp}(h:Heap)(hb:sysModules<h.objs.size):z0C P w H (h.push {cls:= .type "dict",data:= .dict #[]}) h.objs.size (.dT []):=
 ⟨Nat.zero_le _,beq_eq_false_iff_ne.mpr (Ne.symm (Nat.ne_of_lt hb)),[], .nil,_, #[],0,Heap.get?_push_size _ rfl,⟨rfl,rfl,rfl⟩,rfl,rfl,List.nodup_nil⟩
noncomputable def zau:TE:=fun _ H Q=> ∀p,H p=none→Q (.ref p) (upd H p (.dT []))
section
variable{X:Cx}{pos:Pos}
theorem z7j:PE X (.Dict [] [] pos) zau:=fun pins s σ H Q I h=>
 wpAny_Dict_empty ⟨.ref s.heap.objs.size,_,I.laid (a:=s.heap.objs.size) (o:= .dT []) (t':=s.toks) (fun _ _ q=>Heap.get?_push_of_some _ q) (Nat.le_refl _) (z7i s.heap I.big),rfl,h _ (I.hok.fresh (Nat.le_refl _))⟩
end
structure M1(X:Cx)(o:Expr)(m:Str)(apos:Pos)(e:Expr)(cpos:Pos):Prop where
 base:attributeBase o m X.env (eval o X.env)=eval o X.env
 few:((backTo cpos (starEach [e] X.env)).all (fun x=> !x.1)&&(backToKw cpos (keywordEach [] X.env)).all (fun x=>x.1.isSome)
  &&decide (([e]:List Expr).length+([]:List Keyword).length+(if([]:List Keyword).isEmpty then 0 else 1)<30))=true
 line:(apos.endLine==cpos.line)=true
 trees:backTo cpos (starEach [e] X.env)=[(false,eval e X.env)]
structure M2(X:Cx)(o:Expr)(m:Str)(apos:Pos)(e f:Expr)(cpos:Pos):Prop where
 base:attributeBase o m X.env (eval o X.env)=eval o X.env
 few:((backTo cpos (starEach [e,f] X.env)).all (fun x=> !x.1)&&(backToKw cpos (keywordEach [] X.env)).all (fun x=>x.1.isSome)
  &&decide (([e,f]:List Expr).length+([]:List Keyword).length+(if([]:List Keyword).isEmpty then 0 else 1)<30))=true
 line:(apos.endLine==cpos.line)=true
 trees:backTo cpos (starEach [e,f] X.env)=[(false,eval e X.env),(false,eval f X.env)]
section
variable{X:Cx}{pins:List (Addr×Obj)}{σ:St}{H:Hp}{s:Shared}{a:Addr}{y d:V}{u r:Value}{o:Option V}{A:Around}{E:Value→Shared→Prop}
end
section
variable{X:Cx}{o e f:Expr}{apos cpos:Pos}{td ty tx:TE}
end
section
variable{X:Cx}{pins:List (Addr×Obj)}{σ:St}{H:Hp}{s:Shared}{a:Addr}{kvs:List (Key×V)}{A:Around}{E:Value→Shared→Prop}
end
section
variable{X:Cx}{pins:List (Addr×Obj)}{σ:St}{H:Hp}{s:Shared}{a:Addr}{y:V}{u:Value}{A:Around}{E:Value→Shared→Prop}
end
end L2
namespace Att
open PySem PySem.W PySem.Calls PyProof.Rows
theorem z25{P:Params}{h:Heap}: ∀(ns:List Int) (vs:List Value),WellAll P h vs (ns.map WData.int)→IntsAre vs ns:=by
 intro ns
 induction ns with
 |nil=>
  intro vs w
  rw[List.map_nil] at w
  cases w
  exact .nil
 |cons n ns ih=>
  intro vs w
  rw[List.map_cons] at w
  cases w with
  |cons a b=>
   cases a
   exact .cons _ _ (ih _ b)
theorem z5G{l:OpenLaw}{n:Nat}(hn:l.most=some n){P:Params}{h:Heap}{args:List WData}{vals:List Value}
 (hpre:l.row.toRowW.claim.pre args=true) (hwl:WellAll P h vals args):
 ∃a vs ns,vals=[Value.ref a]∧args=[WData.list (ns.map WData.int)]∧h.get? a=some {cls:= .type "list",data:= .seq vs.toArray}∧IntsAre vs ns∧ns.length≤n:=by
 have hsh:WShape.hasAll [] args [.list .int]=true:=(pre_splitW hpre).1
 have hc:l.pre.holds [] {args:=args}=true:=(pre_splitW hpre).2
 obtain⟨d,r,rfl,h1,h2⟩:=hasAllW_cons hsh
 obtain rfl:=hasAllW_nil h2
 obtain⟨xs,rfl,h3⟩:=hasW_list h1
 obtain⟨ns,rfl⟩:=items_int h3
 have hlen:ns.length≤n:=by
  unfold OpenLaw.pre at hc
  have h4:(WTm.not (.lt (.lit (.int (n:Int))) (.len (.arg 0)))).holds [] {args:=[.list (ns.map .int)]}=true:=by
   have h4:=(holds_andW hc).1
   rw[hn] at h4
   exact h4
  have h5:=condW_of h4 (w_not (w_lt w_lit (w_len_list (w_arg rfl))))
  rw[List.length_map] at h5
  refine Nat.le_of_not_lt fun q=> ?_
  have q':(n:Int)<((ns.length:Nat):Int):=by omega
  first
   |(rw[decide_eq_true q'] at h5;exact absurd h5 (by decide))
   |(simp at h5;omega)
 cases hwl with
 |cons w1 w2=>
  cases w2
  cases w1 with
  |list ho hall=>exact⟨_,_,ns,rfl,rfl,ho,z25 ns _ hall,hlen⟩
theorem z5H(l:OpenLaw)(args:List WData):l.row.toRowW.claim.post args (.bool true) args=true:=
 postW_of (r:=l.row.toRowW) (X:=(true==true))
  (show WShape.has [] (.bool true) .bool=true by first|rfl|decide|simp[WShape.has,WShape.arms,WShape.armsAll])
  (show(WTm.eq .res (.lit (.bool true))).value [] {args:=args,res:=some (.bool true),after:=args}=some (.bool (true==true)) from w_eq_bool (w_res rfl) w_lit) rfl
theorem attach_call{l:OpenLaw}{n:Nat}{q:Program}{loose:List Str}{XP:(Str→Option Value)→Heap→Prop}{YP:World→Heap→Prop}{d:DefRec}
 (hn:l.most=some n) (hdf:d.params.defaults=[])
 (call: ∀(w:World) (s₀ s₁:Shared) (mg mb:Str→Option Value) (fa:Addr) (o:Obj) (pm cd doc:Value) (a:Addr) (vs:List Value) (ns:List Int),
  Ground q loose [] XP w s₀ mg mb s₁.heap→YP w s₁.heap→
  s₁.heap.get? fa=some o→o.data= .func (docDef d.name d.params d.body d.scope pm cd doc)→s₁.heap.CodeRec cd d.name→mg d.name=some (.ref fa)→
  s₁.heap.get? a=some {cls:= .type "list",data:= .seq vs.toArray}→IntsAre vs ns→ns.length≤n→s₁.gens= #[]→
  codeAny (model l.prog w) callerA (.call (.ref fa) ⟨[.ref a],[]⟩) (fun r s'=>r= .ok (.ret (.bool true))∧OldK s₁.heap s'.heap∧s'.os=s₁.os∧AllBare s'.gens) s₁):
 WalkO q loose XP YP l.row.toRowW d [] (fun f vs=>PySem.call f vs):=by
 intro w s₀ s₁ mg mb G Y fa o pm cd doc dV kV ho hd hcd hD hmg hg args vals as hpre hlay hrd hwl hlo
 obtain rfl:dV= .none:=Dflts.none hD hdf
 obtain rfl:kV= .none:=Dflts.noKw hD
 obtain⟨a,vs,ns,rfl,rfl,hobj,hints,hlen⟩:=z5G hn hpre hwl
 refine enter_call (codeAny_mono (call w s₀ s₁ mg mb fa o pm cd doc a vs ns G Y ho (fd_plain hd) hcd hmg hobj hints hlen hg) fun r s' hq=> ?_)
 obtain⟨rfl,h2,h3,h4⟩:=hq
 exact⟨.inl ⟨.bool true, .bool true,[],rfl,fun _=>rfl, .bool true,z5H l _,fun _=>⟨List.Pairwise.nil,fun _ hm=>(nomatch hm)⟩⟩,h2,h3,h4⟩
section
variable{prog:Program}{w:World}{A:Around}{E:Value→Shared→Prop}{s:Shared}{K:Frag}
end
end Att
namespace L2
open PySem PySem.Spec PyProof.Rows
theorem z3k: ∀{vs:List Value} {ns:List Int},IntsAre vs ns→Vals (ns.map V.int) vs
 |_,_, .nil=> .nil
 |_,_, .cons n t h=> .cons ⟨t,rfl⟩ (z3k h)
noncomputable def Only(H:Hp):Prop:= ∀b,H b=none∨∃o xs,H b=some (.frz o (.lst xs))
theorem z7k{P:Program}{w:World}{K:PySem.W.Frag}{mg mb:Str→Option Value}{CX:CXT}{k:Nat}{fa a:Addr}{fd:FuncData}{x:Str}{sp:Sp}{s₁:Shared}{vs:List Value}{ns:List Int}
 (KX:K.In s₁.heap) (hns:s₁.heap.Ns mainGlobals mg) (hb:s₁.heap.Ns builtinsNs mb) (hbb: ∀x:Str,x≠ "__name__" →mb x=bootBuiltins x) (hlim:s₁.heap.NoLimit) (hg:s₁.gens= #[])
 (ha:s₁.heap.get? a=some {cls:= .type "list",data:= .seq vs.toArray}) (hi:IntsAre vs ns) (hl:ns.length≤sizeLine) (hr:Room k callerA)
 (F: ∀base:Heap,K.In base→base.Ns mainGlobals mg→FnOk P w K mg base CX k fa fd [x] sp) (hbind: ∀(s:Shared) (u:Value),BindsTo s fd ⟨[u],[]⟩ [(x,u)])
 (hsp: ∀H:Hp,Only H→SqL K H a (ns.map V.int)→sp [.ref a] H (fun v _=>v= .bl true) fun _ _ _=>False)
 (hCX: ∀H e s',CX [] H s₁ (fun _ _ _=>False) e s'→False):
 codeAny (model P w) callerA (.call (.ref fa) ⟨[.ref a],[]⟩) (fun r s'=>r= .ok (.ret (.bool true))∧OldK s₁.heap s'.heap∧s'.os=s₁.os∧AllBare s'.gens) s₁:=by
 have rv:=z3k hi
 have lenV:=hi.length
 have core: ∀H:Hp,Only H→SqL K H a (ns.map V.int)→HOk P w H s₁.heap→(∀b,H b≠none→b=a)→(H a≠none→K.lookup a=none)→
  codeAny (model P w) callerA (.call (.ref fa) ⟨[.ref a],[]⟩) (fun r s'=>r= .ok (.ret (.bool true))∧OldK s₁.heap s'.heap∧s'.os=s₁.os∧AllBare s'.gens) s₁:=by
  intro H hO hS hok hA hK
  have base_of: ∀{b:Addr} {o:Obj},s₁.heap.get? b=some o→H b=none→(hidT s₁.heap H).get? b=some o:=fun e n=>z77 e n
  have noA: ∀{b:Addr} {o:Obj} {es:Array DictEntry} {ep:Nat},s₁.heap.get? b=some o→o.data= .dict es ep→H b=none:=fun{b o es ep} e d=>by
   cases q:H b with
   |none=>rfl
   |some u=>
    have e':b=a:=hA b (by rw[q];simp)
    subst e'
    rw[ha] at e;cases e
    have d':Data.seq vs.toArray _=Data.dict es ep:=d
    cases d'
  have nsK: ∀{b:Addr} {m:Str→Option Value},s₁.heap.Ns b m→(hidT s₁.heap H).Ns b m:=fun{b m} ⟨o,es,ep,e,d,r⟩=>⟨o,es,ep,base_of e (noA e d),d,r⟩
  have hKb:K.In (hidT s₁.heap H):=fun b o e=>base_of (KX b o e) (by
   cases q:H b with
   |none=>rfl
   |some u=>
    have e':b=a:=hA b (by rw[q];simp)
    subst e'
    rw[hK (by rw[q];simp)] at e;cases e)
  have hM:Mod K mg (hidT s₁.heap H):=⟨hKb,nsK hns,⟨mb,nsK hb,hbb⟩,let⟨mc,h1,h2⟩:=hlim;⟨mc,nsK h1,h2⟩⟩
  have e0:Env0 P w K mg (hidT s₁.heap H) callerA [] s₁ H:=⟨rfl,hM,fun b o e=>z8f e,Nat.le_of_eq (z5p _ _),trivial,fun b hb=>absurd (show b∈([]:List Addr) from hb) (by simp),hok, .of_eq hg⟩
  refine codeAny_mono ((F _ hKb (nsK hns)).run callerA [] s₁ H ⟨[.ref a],[]⟩ [.ref a] [.ref a] _ _ hr e0 (hbind s₁ (.ref a)) (.cons rfl .nil) (hsp H hO hS)) fun r s' h=> ?_
  cases r with
  |error e=>exact(hCX H e s' h).elim
  |ok fl=>
   cases fl with
   |next=>exact False.elim h
   |brk=>exact False.elim h
   |cont=>exact False.elim h
   |ret u=>
    obtain⟨v,H',os,bare,un,hok',r',q⟩:=h
    have q':v= .bl true:=q
    subst q'
    obtain rfl:u=Value.bool true:=r'
    refine⟨rfl,OldK.of_keep fun b o e=> ?_,os,bare⟩
    cases q:H b with
    |none=>exact un.keep b o e q (by intro z;exact absurd (show b∈([]:List Addr) from z) (by simp)) (by simp)
    |some u=>
     rcases hO b with z|⟨ob,xs,z⟩
     ·rw[q] at z;cases z
     ·have z2:=un.frzs b ob _ z
      obtain⟨e1,_⟩:=hok b _ z
      obtain⟨e2,_⟩:=hok' b _ z2
      rw[e] at e1;cases e1
      exact e2
 cases hk:K.lookup a with
 |some o=>
  have e:=KX a o hk
  rw[ha] at e
  cases e
  refine core (fun _=>none) (fun _=> .inl rfl) (.inr ⟨_,vs.toArray,_,hk,rfl,rfl,rfl,by rw[List.size_toArray,lenV];exact hl,by simpa using rv⟩) (fun b u z=>by have z':(none:Option HO)=some u:=z;cases z') (fun b z=>absurd rfl z) fun z=>absurd rfl z
 |none=>
  refine core (fun b=>if b=a then some (.frz {cls:= .type "list",data:= .seq vs.toArray} (.lst (ns.map V.int))) else none) (fun b=> ?_) (.inl (.inr ⟨{cls:= .type "list",data:= .seq vs.toArray},if_pos rfl⟩)) (fun b u z=> ?_) (fun b z=> ?_) fun _=>hk
  ·by_cases hb:b=a
   ·exact .inr ⟨_,_,if_pos hb⟩
   ·exact .inl (if_neg hb)
  ·by_cases hb:b=a
   ·have z':=(if_pos hb).symm.trans z
    cases z'
    subst hb
    exact⟨ha,by rw[List.length_map];exact hl,vs,_,rv,ha⟩
   ·have z':=(if_neg hb).symm.trans z
    cases z'
  ·by_cases hb:b=a
   ·exact hb
   ·exact absurd (if_neg hb) z
end L2
namespace L2
open PySem PySem.Spec PyProof.Rows
theorem z8x{l:PySem.W.OpenLaw}{n k:Nat}{q:Program}{loose:List Str}{XP:(Str→Option Value)→Heap→Prop}{YP:World→Heap→Prop}{d:DefRec}{K:Params→PySem.W.Frag}{CX:World→CXT}{sp:World→Sp}{x:Str}
 (hn:l.most=some n) (hn2:n≤sizeLine) (hdf:d.params.defaults=[]) (hr:Room k callerA)
 (hY: ∀(w:World) (h:Heap),YP w h→(K w.params).In h)
 (F: ∀(w:World) (mg:Str→Option Value) (fa:Addr) (h:Heap),(K w.params).In h→h.Ns mainGlobals mg→mg d.name=some (.ref fa)→
  ∃fd:FuncData,(∀(s:Shared) (u:Value),BindsTo s fd ⟨[u],[]⟩ [(x,u)])∧
   ∀base:Heap,(K w.params).In base→base.Ns mainGlobals mg→FnOk l.prog w (K w.params) mg base (CX w) k fa fd [x] (sp w))
 (hsp: ∀(w:World) (H:Hp) (a:Addr) (ns:List Int),ns.length≤n→Only H→SqL (K w.params) H a (ns.map V.int)→sp w [.ref a] H (fun v _=>v= .bl true) fun _ _ _=>False)
 (hCX: ∀(w:World) (H:Hp) (s:Shared) (e:Value) (s':Shared),CX w [] H s (fun _ _ _=>False) e s'→False):
 PySem.W.WalkO q loose XP YP l.row.toRowW d [] (fun f vs=>PySem.call f vs):=by
 refine Att.attach_call hn hdf fun w s₀ s₁ mg mb fa o pm cd doc a vs ns G Y ho hd hcd hmg hobj hints hlen hg=> ?_
 have KX:=hY w _ Y
 obtain⟨fd,hb,hF⟩:=F w mg fa _ KX G.T.g hmg
 exact z7k KX G.T.g G.T.b G.T.builtins G.T.nolimit hg hobj hints (Nat.le_trans hlen hn2) hr hF hb (fun H hO hS=>hsp w H a ns hlen hO hS) fun H e s'=>hCX w H s₁ e s'
end L2
namespace L2
open PySem PySem.Spec PyProof.Rows
noncomputable def z0G(s:Stmt):Arguments:=match s with
 | .FunctionDef _ a _ _ _ _ _ _ _ _=>a
 |_=>{posonlyargs:=[],args:=[],vararg:=none,kwonlyargs:=[],kw_defaults:=[],kwarg:=none,defaults:=[]}
noncomputable def z0m(s:Stmt):List Stmt:=match s with
 | .FunctionDef _ _ b _ _ _ _ _ _ _=>b
 |_=>[]
noncomputable def z01(s:Stmt):Scope:=match s with
 | .FunctionDef _ _ _ _ _ _ sc _ _ _=>sc
 |_=>{kind:= .function,names:=[],isGenerator:=false,isCoroutine:=false}
noncomputable abbrev CX0:CXT:=fun _ _ _ _ _ _=>False
noncomputable abbrev E0:XK:=fun _ _ _=>False
theorem z2w{X:Cx}:z2C CX0 X E0:=fun _ _ _ _ _ _ _ h=>h.elim
structure Fun(K:PySem.W.Frag)(x qual:Str)(st:Stmt)(f:Addr)(fd:FuncData):Prop where
 ex: ∃(oc:Value) (od:Option Addr) (kV doc pm:Value) (an:Option Addr) (cdv ct:Value) (osl:Array (Option Value)),
  fd=PySem.W.fnOf x qual (z0G st) (z0m st) (z01 st) .none kV doc pm an cdv ct∧K.lookup f=some ⟨oc,od, .func fd,osl⟩∧PySem.W.codeIn K cdv qual=true
 kp:PySem.W.keepIn K (.ref f)=true
section
variable{P:Program}{w:World}{K:PySem.W.Frag}{mg:Str→Option Value}{base:Heap}
theorem Fun.ok{x qual:Str}{st:Stmt}{f:Addr}{fd:FuncData}{N ps:List Str}{k:Nat}{sp:Sp}(F:Fun K x qual st f fd)(S:z0w N ps (z01 st))(len: ∀vs H Q E,sp vs H Q E→vs.length=ps.length)
 (hbody: ∀(cdv:Value) (A:Around) (outer:List Env) (s:Shared) (H:Hp) (vs:List V) (Q:VK) (E:XK),Room k (A.deeper (envOfC qual (z01 st) s.heap.objs.size f cdv))→sp vs H Q E→
  ∃t,PSs (cxOf CX0 P w K mg base N qual (z01 st) f cdv A outer s H E).nox (z0m st) t∧t {nx:=fun _ H'=>Q .non H',rt:=Q} (z3e N vs) H):FnOk P w K mg base CX0 (k+1) f fd ps sp:=by
 obtain⟨oc,od,kV,doc,pm,an,cdv,ct,osl,rfl,lk,hcd⟩:=F.ex
 refine zal lk hcd S len fun A outer s H vs Q E hr hsp=> ?_
 obtain⟨t,h,q⟩:=hbody cdv A outer s H vs Q E hr hsp
 exact⟨t,h.nox,q⟩
theorem Fun.binds{x qual:Str}{st:Stmt}{f:Addr}{fd:FuncData}{ps:List Str}(F:Fun K x qual st f fd)
 (h: ∀(kV doc pm:Value) (an:Option Addr) (cdv ct:Value) (us:List Value),us.length=ps.length→bindArgs (PySem.W.fnOf x qual (z0G st) (z0m st) (z01 st) .none kV doc pm an cdv ct) ⟨us,[]⟩=pure (ps.zip us)):z1S K fd ps []:=by
 obtain⟨oc,od,kV,doc,pm,an,cdv,ct,osl,rfl,lk,hcd⟩:=F.ex
 exact .all (h kV doc pm an cdv ct)
theorem z26{x qual:Str}{st:Stmt}{f:Addr}{oc:Value}{od an:Option Addr}{osl:Array (Option Value)}{kV doc pm cdv ct:Value}(l:K.lookup f=some ⟨oc,od, .func (PySem.W.fnOf x qual (z0G st) (z0m st) (z01 st) .none kV doc pm an cdv ct),osl⟩)
 (c:PySem.W.codeIn K cdv qual=true) (k:PySem.W.keepIn K (.ref f)=true):Fun K x qual st f (PySem.W.fnOf x qual (z0G st) (z0m st) (z01 st) .none kV doc pm an cdv ct):=⟨⟨oc,od,kV,doc,pm,an,cdv,ct,osl,rfl,l,c⟩,k⟩
end
section
variable{X:Cx}
theorem pv(i:Nat){x:Str}{pos:Pos}(hN:X.N[i]? =some x:=by rfl)(hv:Vis X.env.scope x:=by first|exact Or.inl rfl|exact Or.inr (Or.inl rfl)|exact Or.inr (Or.inr rfl))(hd:(x==("__debug__" :Str))=false:=by decide)
 (hcd:(x==("__classdict__" :Str))=false:=by decide):PE X (.Name x pos) (tVar i):=z9Z hN hv hd hcd
end
noncomputable def Same(H H':Hp):Prop:= ∀b o,H b=some o→H' b=some o
theorem Same.refl(H:Hp):Same H H:=fun _ _ h=>h
end L2
namespace L2
open PySem PySem.Spec PyProof.Rows
section
variable{X:Cx}
end
section
variable{κ:Type}[DecidableEq κ]
end
end L2
set_option maxHeartbeats 4000000
namespace L2
open PySem PySem.Spec PyProof.Rows
mutual
noncomputable def Dp(K:PySem.W.Frag)(H:Hp):PyData→V→Prop
 | .none,v=>v= .non
 | .bool b,v=>v= .bl b
 | .int i,v=>v= .int i
 | .str x,v=>v= .str x
 | .list ds,v=> ∃a xs,v= .ref a∧SqL K H a xs∧z1B K H ds xs
 | .tuple ds,v=> ∃a xs,v= .ref a∧SqT K H a xs∧z1B K H ds xs
 | .dict _,_=>False
noncomputable def z1B(K:PySem.W.Frag)(H:Hp):List PyData→List V→Prop
 |[],xs=>xs=[]
 |d::ds,xs=> ∃x r,xs=x::r∧Dp K H d x∧z1B K H ds r
end
section
variable{X:Cx}{pins:List (Addr×Obj)}{σ:St}{H:Hp}{s:Shared}
mutual
theorem Dp.reads(I:Inv X pins σ H s): ∀(d:PyData) (v:V) (u:Value),Dp X.K H d v→RelV v u→∃as,Reads s.heap u d as
 | .none,v,u,h,r=>by
  simp only[Dp] at h;subst h;cases r;exact⟨_, .none⟩
 | .bool b,v,u,h,r=>by
  simp only[Dp] at h;subst h;cases r;exact⟨_, .bool b⟩
 | .int i,v,u,h,r=>by
  simp only[Dp] at h;subst h;obtain⟨t,rfl⟩:=r;exact⟨_, .int i t⟩
 | .str x,v,u,h,r=>by
  simp only[Dp] at h;subst h;obtain⟨t,rfl⟩:=r;exact⟨_, .str x t⟩
 | .list ds,v,u,h,r=>by
  simp only[Dp] at h
  obtain⟨a,xs,rfl,hs,hd⟩:=h
  cases r
  obtain⟨its,rv,⟨o,n,e,c,_,dd⟩,_⟩:=I.list hs
  obtain⟨as,ra⟩:=z1B.reads I ds xs its hd rv
  exact⟨_, .list e c dd (by simpa using ra)⟩
 | .tuple ds,v,u,h,r=>by
  simp only[Dp] at h
  obtain⟨a,xs,rfl,hs,hd⟩:=h
  cases r
  obtain⟨its,rv,⟨o,e,c,n,dd⟩,_⟩:=I.tuple hs
  obtain⟨as,ra⟩:=z1B.reads I ds xs its hd rv
  exact⟨_, .tuple e c dd (by simpa using ra)⟩
 | .dict _,v,u,h,r=>by
  simp only[Dp] at h
theorem z1B.reads(I:Inv X pins σ H s): ∀(ds:List PyData) (vs:List V) (us:List Value),z1B X.K H ds vs→Vals vs us→∃as,ReadsAll s.heap us ds as
 |[],vs,us,h,r=>by
  simp only[z1B] at h;subst h
  cases r
  exact⟨_, .nil⟩
 |d::ds,vs,us,h,r=>by
  simp only[z1B] at h
  obtain⟨x,q,rfl,h1,h2⟩:=h
  cases r with
  |cons r1 r2=>
   obtain⟨as,ra⟩:=Dp.reads I d _ _ h1 r1
   obtain⟨bs,rb⟩:=z1B.reads I ds _ _ h2 r2
   exact⟨_, .cons ra rb⟩
end
noncomputable def rEqD(K:PySem.W.Frag)(neg:Bool):R2:=fun x y H Q=> ∃d e,Dp K H d x∧Dp K H e y∧d.canLay0=true∧e.canLay0=true∧min d.depth e.depth≤60∧
 Q (.bl (if neg then !PyData.eqv d e else PyData.eqv d e)) H
theorem zav(hu:X.A.units+64<cLine):OpR X (compareOp .NotEq) (rEqD X.K true):=by
 intro pins s σ H x y v u Q I rx ry h
 obtain⟨d,e,hx,hy,c1,c2,hd,q⟩:=h
 obtain⟨as,ra⟩:=hx.reads I _ _ _ rx
 obtain⟨bs,rb⟩:=hy.reads I _ _ _ ry
 exact SeqAt.compareNe_reads ra rb c1 c2 (by omega) ⟨.bl _,H,I,rfl,q⟩
noncomputable def isiV(K:PySem.W.Frag)(H:Hp)(T:String)(r:Bool):V→Prop
 | .non=>r=false
 | .bl _=>r=(T== "int" ||T== "bool")
 | .int _=>r=(T== "int")
 | .str _=>r=(T== "str")
 | .ref a=>(∃xs,SqT K H a xs∧r=(T== "tuple"))∨(∃xs,SqL K H a xs∧r=(T== "list"))
 |_=>False
noncomputable def rIsi(K:PySem.W.Frag):List V→Hp→VK→Prop:=fun xs H Q=> ∃x T r,xs=[x, .ty T]∧(T= "int" ∨T= "bool" ∨T= "tuple" ∨T= "list" ∨T= "str")∧isiV K H T r x∧Q (.bl r) H
theorem z7l:CallR X (.builtin "isinstance") (rIsi X.K):=by
 intro pins s σ H xs us Q I r h
 obtain⟨x,T,b,rfl,hT,hx,q⟩:=h
 obtain⟨u,u',rfl,ru,ru'⟩:=z8o r
 cases ru'
 have fin: ∀t,EP X pins σ Q (.bool b) {s with toks:=t}:=fun t=>⟨.bl b,H,I.tok t,rfl,q⟩
 have fin0:EP X pins σ Q (.bool b) s:=⟨.bl b,H,I,rfl,q⟩
 cases x with
 |non=>
  cases ru
  have hx:b=false:=hx
  subst hx
  rcases hT with rfl|rfl|rfl|rfl|rfl
  ·exact IsiPair.NoneType_int (fin _)
  ·exact IsiPair.NoneType_bool (fin _)
  ·exact IsiPair.NoneType_tuple (fin _)
  ·exact IsiPair.NoneType_list (fin _)
  ·exact IsiPair.NoneType_str (fin _)
 |bl k=>
  cases ru
  rcases hT with rfl|rfl|rfl|rfl|rfl
  ·have hx:b=true:=hx
   subst hx;exact IsiPair.bool_int fin0
  ·have hx:b=true:=hx
   subst hx;exact IsiPair.bool_bool fin0
  ·have hx:b=false:=hx
   subst hx;exact IsiPair.bool_tuple (fin _)
  ·have hx:b=false:=hx
   subst hx;exact IsiPair.bool_list (fin _)
  ·have hx:b=false:=hx
   subst hx;exact IsiPair.bool_str (fin _)
 |int k=>
  obtain⟨t,rfl⟩:=ru
  rcases hT with rfl|rfl|rfl|rfl|rfl
  ·have hx:b=true:=hx
   subst hx;exact IsiPair.int_int fin0
  ·have hx:b=false:=hx
   subst hx;exact IsiPair.int_bool (fin _)
  ·have hx:b=false:=hx
   subst hx;exact IsiPair.int_tuple (fin _)
  ·have hx:b=false:=hx
   subst hx;exact IsiPair.int_list (fin _)
  ·have hx:b=false:=hx
   subst hx;exact IsiPair.int_str (fin _)
 |str k=>
  obtain⟨t,rfl⟩:=ru
  rcases hT with rfl|rfl|rfl|rfl|rfl
  ·have hx:b=false:=hx
   subst hx;exact IsiPair.str_int (fin _)
  ·have hx:b=false:=hx
   subst hx;exact IsiPair.str_bool (fin _)
  ·have hx:b=false:=hx
   subst hx;exact IsiPair.str_tuple (fin _)
  ·have hx:b=false:=hx
   subst hx;exact IsiPair.str_list (fin _)
  ·have hx:b=true:=hx
   subst hx;exact IsiPair.str_str fin0
 |ref a=>
  cases ru
  rcases hx with⟨ys,hs,hb⟩|⟨ys,hs,hb⟩
  ·obtain⟨its,rv,⟨o,e,c,n,dd⟩,_⟩:=I.tuple hs
   rcases hT with rfl|rfl|rfl|rfl|rfl
   ·have hx:b=false:=hb
    subst hx;exact IsiPair.tuple_int e c (fin _)
   ·have hx:b=false:=hb
    subst hx;exact IsiPair.tuple_bool e c (fin _)
   ·have hx:b=true:=hb
    subst hx;exact IsiPair.tuple_tuple e c fin0
   ·have hx:b=false:=hb
    subst hx;exact IsiPair.tuple_list e c (fin _)
   ·have hx:b=false:=hb
    subst hx;exact IsiPair.tuple_str e c (fin _)
  ·obtain⟨its,rv,⟨o,n,e,c,_,dd⟩,_⟩:=I.list hs
   rcases hT with rfl|rfl|rfl|rfl|rfl
   ·have hx:b=false:=hb
    subst hx;exact IsiPair.list_int e c (fin _)
   ·have hx:b=false:=hb
    subst hx;exact IsiPair.list_bool e c (fin _)
   ·have hx:b=false:=hb
    subst hx;exact IsiPair.list_tuple e c (fin _)
   ·have hx:b=true:=hb
    subst hx;exact IsiPair.list_list e c fin0
   ·have hx:b=false:=hb
    subst hx;exact IsiPair.list_str e c (fin _)
 |byt _=>exact hx.elim
 |flt _=>exact hx.elim
 |ty _=>exact hx.elim
theorem z27: ∀{bs:List Bool} {us:List Value},Vals (bs.map V.bl) us→LSm.BoolsAre us bs
 |[],_, .nil=> .nil
 |b::bs,_, .cons r t=>by
  cases r
  exact .cons b (z27 t)
theorem z5I(hc:X.A.handled=none):CallR X (.builtin "all") (fun xs H Q=> ∃(p:Addr) (bs:List Bool),xs=[.ref p]∧SqL X.K H p (bs.map V.bl)∧Q (.bl (bs.all id)) H):=by
 intro pins s σ H xs us Q I r h
 obtain⟨p,bs,rfl,hs,q⟩:=h
 obtain⟨u,rfl,ru⟩:=z4U r
 cases ru
 obtain⟨its,rv,pl,_⟩:=I.list hs
 have hb:=z27 rv
 have hl:=pl.isList
 have hlt:p<s.heap.objs.size:=by obtain⟨_,e,_⟩:=hl;exact Heap.lt_size e
 refine call_all_walk (wpAny_pyIter_list hl ?_)
 refine⟨s.heap.objs.size,[s.heap.objs.size,p],[s.heap.objs.size],its.toArray.size,_,_,fun i=>(bs[i]?).getD true,rfl,Walks.list (A:=X.A.in1) hc _ p (Nat.ne_of_lt hlt) its.toArray,
  ⟨⟨_,Heap.get?_push_size _ rfl,rfl,rfl⟩,hl.push _⟩,fun i v s' Q' E' hP hQ=> ?_,fun h' tk hk=> ?_⟩
 ·obtain⟨b,e,rfl⟩:=hb.get i v (by simpa using hP)
  simp only[e,Option.getD_some] at hQ
  exact wpAny_truthy_bool hQ
 ·have e:((List.range its.toArray.size).all fun i=>(bs[i]?).getD true)=bs.all id:=by
   rw[List.size_toArray,hb.length];exact LSm.range_all bs
  rw[e]
  exact⟨.bl _,H,I.kept (LSm.kept_iter hk),rfl,q⟩
end
end L2
namespace HT
open PySem PyProof.Rows
section
variable{prog:Program}{w:World}{A:Around}{E:Value→Shared→Prop}{s:Shared}
theorem getItem_tuple_whole{t sl:Addr}{items:Array Value}{vl vu:Value}{lo hi:Option Int}{Q:Value→Shared→Prop}(ht:IsTup s.heap t items)(hs:s.heap.IsSliceOf sl vl vu .none)(pl:IsPart vl lo)(pu:IsPart vu hi)
 (hw:sIx items.size 0 lo=0∧sIx items.size items.size hi=items.size) (h:Q (.ref t) s):wpAny (model prog w) A (getItem (.ref t) (.ref sl)) Q E s:=by
 obtain⟨os,hos,hcs,hds⟩:=id hs
 have hTs:s.TypeIs (.ref sl) "slice" :=⟨os,hos,hcs⟩
 unfold getItem
 try with_reducible refine wpAny_holding ?_
 first|refine wpAny_bind (wpAny_pure ?_)|skip
 refine wpAny_bind (wpAny_sequenceKey ht.typeIs (by decide) ?_)
 refine wpAny_bind (wpAny_callSpecial?_slot (name:=Str.ofString "__getitem__") ht.typeIs PyProof.Rows.slot_tuple_getitem
  (wpAny_call_entry PyProof.Rows.slot_tuple_getitem ht.typeIs entry_tuple_getitem ?_ (args_tuple_getitem _ _)))
 show wpAny _ _ (Builtin.Tuple.tupleItemsOf (.ref t)>>=_) _ _ s
 refine wpAny_bind (tupleItemsOf_ ht ?_)
 refine wpAny_bind (wpAny_typeOf hTs ?_)
 rw[if_pos (by decide)]
 refine wpAny_bind (z19 hs pl pu ?_)
 have hyes:((((sIx items.size 0 lo:Nat):Int)==0&&(1:Int)==1&&(sIx items.size items.size hi -sIx items.size 0 lo)==items.size)=true):=by
  rw[hw.1,hw.2]
  simp
 show wpAny _ _ (if(((sIx items.size 0 lo:Nat):Int)==0&&(1:Int)==1&&(sIx items.size items.size hi -sIx items.size 0 lo)==items.size)=true then _ else _) _ _ s
 rw[if_pos hyes]
 obtain⟨o,ho,hc,n,hd⟩:=id ht
 have ex:Builtin.Tuple.tupleIsExact (.ref t)=(typeOf (.ref t)>>=fun T=>pure (T== .type "tuple")):=rfl
 refine wpAny_bind (m:=Builtin.Tuple.tupleIsExact (.ref t)) ?_
 rw[ex]
 refine wpAny_bind (wpAny_typeOf ht.typeIs (wpAny_pure ?_))
 rw[if_pos (by decide)]
 exact wpAny_bind (wpAny_rule (wpAny_pure ⟨_,rfl,wpAny_pure h⟩))
end
end HT
namespace L2
open PySem PySem.Spec PyProof.Rows
section
variable{X:Cx}
theorem z4Y{xs:List V}{lo hi:Option Int}(h:HT.sIx xs.length 0 lo=0∧HT.sIx xs.length xs.length hi=xs.length):cutV xs lo hi=xs:=by
 unfold cutV
 rw[h.1,h.2]
 simp
end
end L2
namespace L2
open PySem PySem.Spec PyProof.Rows
noncomputable def z1r(env:Env):List (Str×NameKind)→List (Str×Addr)→List (Str×Addr)
 |[],cs=>cs
 |(n,k)::r,cs=>z1r env r (if k== .free then(match env.cells.lookup n with|some a=>(n,a)::cs|none=>cs) else cs)
theorem z4u{env:Env}: ∀(names:List (Str×NameKind)) (cs:List (Str×Addr)),(∀y∈names,y.2= .free→∃a,env.cells.lookup y.1=some a)→
 (forIn names cs fun(x:Str×NameKind) (r:List (Str×Addr))=>if(x.2==NameKind.free)=true then cellOf env x.1>>=fun a=>pure (ForInStep.yield ((x.1,a)::r)) else pure (ForInStep.yield r))=(pure (z1r env names cs):Sem _)
 |[],cs,_=>rfl
 |(n,k)::r,cs,h=>by
  have ih:=fun cs=>z4u (env:=env) r cs fun y hy=>h y (List.mem_cons_of_mem _ hy)
  rw[List.forIn_cons]
  show((if(k==NameKind.free)=true then cellOf env n>>=fun a=>pure (ForInStep.yield ((n,a)::cs)) else pure (ForInStep.yield cs))>>=_)=pure (z1r env r (if k== .free then(match env.cells.lookup n with|some a=>(n,a)::cs|none=>cs) else cs))
  by_cases hk:(k==NameKind.free)=true
  ·obtain⟨a,e⟩:=h (n,k) List.mem_cons_self (by simpa using hk)
   have e:env.cells.lookup n=some a:=e
   rw[if_pos hk,if_pos hk,e]
   have e2:cellOf env n=pure a:=by unfold cellOf;rw[e]
   rw[e2]
   exact ih _
  ·rw[if_neg hk,if_neg hk]
   exact ih _
theorem z2O{env:Env}{scope:Scope}(h: ∀y∈scope.names,y.2= .free→∃a,env.cells.lookup y.1=some a):closureFor scope env=pure (z1r env scope.names []):=by
 have e:=z4u (env:=env) scope.names [] h
 exact congrArg (fun(m:Sem (List (Str×Addr)))=>m>>=fun cs=>pure cs) e
theorem z2P{env:Env}{x:Str}{c:Addr}: ∀(names:List (Str×NameKind)) (cs:List (Str×Addr)),(z1r env names cs).lookup x=some c→
 cs.lookup x=some c∨(env.cells.lookup x=some c∧(x,NameKind.free)∈names)
 |[],cs,h=> .inl h
 |(n,k)::r,cs,h=>by
  rcases z2P r _ h with q|⟨q,m⟩
  ·by_cases hk:(k==NameKind.free)=true
   ·rw[if_pos hk] at q
    cases e:env.cells.lookup n with
    |none=>rw[e] at q;exact .inl q
    |some a=>
     rw[e] at q
     have q:((n,a)::cs).lookup x=some c:=q
     rw[List.lookup_cons] at q
     by_cases hx:(x==n)=true
     ·rw[hx] at q
      have q:some a=some c:=q
      cases q
      have hx:x=n:=eq_of_beq hx
      subst hx
      have hk:k= .free:=eq_of_beq hk
      subst hk
      exact .inr ⟨e,List.mem_cons_self⟩
     ·have hx:(x==n)=false:=by simpa using hx
      rw[hx] at q
      exact .inl q
   ·rw[if_neg hk] at q
    exact .inl q
  ·exact .inr ⟨q,List.mem_cons_of_mem _ m⟩
theorem z28{env:Env}{x:Str}: ∀(names:List (Str×NameKind)) (cs:List (Str×Addr)),(((∃c,cs.lookup x=some c))∨((x,NameKind.free)∈names∧∃c,env.cells.lookup x=some c))→
 ∃c,(z1r env names cs).lookup x=some c
 |[],cs,h=>by
  rcases h with h|⟨m,_⟩
  ·exact h
  ·cases m
 |(n,k)::r,cs,h=>by
  refine z28 r _ ?_
  rcases h with⟨c,hc⟩|⟨m,c,hc⟩
  ·left
   by_cases hk:(k==NameKind.free)=true
   ·rw[if_pos hk]
    cases e:env.cells.lookup n with
    |none=>exact⟨c,hc⟩
    |some a=>
     by_cases hx:(x==n)=true
     ·exact⟨a,by show((n,a)::cs).lookup x=some a;rw[List.lookup_cons,hx]⟩
     ·have hx:(x==n)=false:=by simpa using hx
      exact⟨c,by show((n,a)::cs).lookup x=some c;rw[List.lookup_cons,hx];exact hc⟩
   ·rw[if_neg hk]
    exact⟨c,hc⟩
  ·rcases List.mem_cons.mp m with e|m
   ·left
    cases e
    rw[if_pos (by decide),hc]
    exact⟨c,by show((x,c)::cs).lookup x=some c;rw[List.lookup_cons,beq_self_eq_true]⟩
   ·exact .inr ⟨m,c,hc⟩
theorem z0O{env:Env}: ∀{names:List (Str×NameKind)} {x:Str},names.lookup x=some .free→
 (names.map fun(n,k)=>if(k==NameKind.free&&env.scope.kind== .function&&env.kindOf n==some .cell) then(n,NameKind.cell) else(n,k)).lookup x=some .cell∨
 (names.map fun(n,k)=>if(k==NameKind.free&&env.scope.kind== .function&&env.kindOf n==some .cell) then(n,NameKind.cell) else(n,k)).lookup x=some .free
 |[],_,h=>by simp at h
 |(n,k)::r,x,h=>by
  have ih:= @z0O env r x
  rw[List.map_cons]
  show List.lookup x ((if(k==NameKind.free&&env.scope.kind== .function&&env.kindOf n==some .cell)=true then(n,NameKind.cell) else(n,k))::_)=_∨List.lookup x ((if(k==NameKind.free&&env.scope.kind== .function&&env.kindOf n==some .cell)=true then(n,NameKind.cell) else(n,k))::_)=_
  cases hx:x==n with
  |true=>
   simp only[List.lookup_cons,hx] at h
   cases h
   by_cases hc:(NameKind.free==NameKind.free&&env.scope.kind== .function&&env.kindOf n==some .cell)=true
   ·rw[if_pos hc];left;simp only[List.lookup_cons,hx]
   ·rw[if_neg hc];right;simp only[List.lookup_cons,hx]
  |false=>
   simp only[List.lookup_cons,hx] at h
   by_cases hc:(k==NameKind.free&&env.scope.kind== .function&&env.kindOf n==some .cell)=true
   ·rw[if_pos hc];simp only[List.lookup_cons,hx];exact ih h
   ·rw[if_neg hc];simp only[List.lookup_cons,hx];exact ih h
theorem z0W{env:Env}: ∀{names:List (Str×NameKind)} {x:Str},((names.map fun(n,k)=>if(k==NameKind.free&&env.scope.kind== .function&&env.kindOf n==some .cell) then(n,NameKind.cell) else(n,k)).lookup x=some .cell∨
 (names.map fun(n,k)=>if(k==NameKind.free&&env.scope.kind== .function&&env.kindOf n==some .cell) then(n,NameKind.cell) else(n,k)).lookup x=some .free)→names.lookup x=some .free∨names.lookup x=some .cell
 |[],_,h=>by simp at h
 |(n,k)::r,x,h=>by
  have ih:= @z0W env r x
  rw[List.map_cons] at h
  have h:List.lookup x ((if(k==NameKind.free&&env.scope.kind== .function&&env.kindOf n==some .cell)=true then(n,NameKind.cell) else(n,k))::_)=_∨List.lookup x ((if(k==NameKind.free&&env.scope.kind== .function&&env.kindOf n==some .cell)=true then(n,NameKind.cell) else(n,k))::_)=_:=h
  cases hx:x==n with
  |true=>
   simp only[List.lookup_cons,hx]
   by_cases hc:(k==NameKind.free&&env.scope.kind== .function&&env.kindOf n==some .cell)=true
   ·have:k= .free:=by
     simp only[Bool.and_eq_true,beq_iff_eq] at hc
     exact hc.1.1
    subst this
    exact .inl rfl
   ·rw[if_neg hc] at h
    simp only[List.lookup_cons,hx] at h
    exact h.symm
  |false=>
   simp only[List.lookup_cons,hx]
   refine ih ?_
   by_cases hc:(k==NameKind.free&&env.scope.kind== .function&&env.kindOf n==some .cell)=true
   ·rw[if_pos hc] at h;simp only[List.lookup_cons,hx] at h;exact h
   ·rw[if_neg hc] at h;simp only[List.lookup_cons,hx] at h;exact h
structure z1d(osc sc:Scope)(own frees N:List Str)(ix:List Nat):Prop where
 kind:sc.kind= .function
 nocell: ∀y∈sc.names,y.2≠ .cell
 names: ∀y∈sc.names,y.2= .local→sc.names.lookup y.1=some .local
 fr: ∀y∈sc.names,y.2= .free→osc.names.lookup y.1=some .cell∨osc.names.lookup y.1=some .free
 nd:(own++frees).Nodup
 frl: ∀x∈frees,sc.names.lookup x=some .free
 ixs:ix.map (fun i=>N[i]?)=frees.map some
noncomputable def z0X(X:Cx)(scope:Scope)(own frees:List Str)(cl:List (Str×Addr))(C:Addr)(s₀:Shared)(H₀:Hp)(fp:List Addr)(pn:List (Addr×Obj)):Cx:=
 {X with N:=own++frees,s₀:=s₀,H₀:=H₀,env:=compEnvC scope cl C X.env,outer:=X.stack,stack:=X.stack,ex:=fp,fn:=fun _=>false,pn:=pn,xe:=fun _ _=>False}
noncomputable def z1s(k:Nat)(ix:List Nat)(σ:St):St:=List.replicate k none++ix.map fun i=>(σ[i]?).getD none
section
variable{X:Cx}{tg iter elt:Expr}{pos:Pos}{scope:Scope}{own frees:List Str}{ix:List Nat}{wi:TI}{g:TG}{te:TE}
theorem z4Z(k:Nat)(ix:List Nat)(σ:St):(z1s k ix σ).length=k+ix.length:=by
 unfold z1s
 simp
theorem z50{pins:List (Addr×Obj)}{σ:St}{H:Hp}{s s1:Shared}{fp:List Addr}(S:z1d X.env.scope scope own frees X.N ix)(I:Inv X pins σ H s)(hf: ∀b∈fp,FpOk X pins H b)(hb: ∀b∈fp,b<s.heap.objs.size)
 (ho:s1.os=s.os) (hg:s1.gens=s.gens) (hk: ∀b o,s.heap.get? b=some o→s1.heap.get? b=some o) (hn:s1.heap.Ns s.heap.objs.size (fun _=>none)):
 Inv (z0X X scope own frees (z1r X.env scope.names []) s.heap.objs.size s H fp (X.pn++pins)) [] (z1s own.length ix σ) H s1:=by
 have clos: ∀x c,(z1r X.env scope.names []).lookup x=some c→X.env.cells.lookup x=some c∧(x,NameKind.free)∈scope.names:=fun x c h=>by
  rcases z2P _ _ h with q|q
  ·exact nomatch q
  ·exact q
 have hlen:ix.length=frees.length:=by
  have:=congrArg List.length S.ixs
  simpa using this
 have cne: ∀x c,X.env.cells.lookup x=some c→c<s.heap.objs.size:=fun x c e=>by
  obtain⟨v,o,q,_⟩:=I.cell x c e
  exact Heap.lt_size q
 refine⟨⟨I.ok.mod,S.kind,I.ok.glob,I.ok.blt,Nat.le_refl _,fun x y c h1 h2=>I.ok.inj x y c (clos x c h1).1 (clos y c h2).1,fun x hx=> ?_,fun x c z=>Bool.noConfusion z,I.ok.hd,I.ok.frames, .inl rfl,fun b z=>⟨Nat.ne_of_lt (hb b z),fun x c e=>(hf b z).2.2.2.2.1 x c (clos x c e).1⟩,I.bs,
  Nat.le_trans I.ok.bsz I.sz,fun b o e z=> ?_,fun b z=> ?_,I.stack,I.stkFree⟩,ho, ?_,Un.kept hk,⟨_,hn,fun i x v h1 h2 h3=> ?_⟩,fun x c e=> ?_,I.fresh,fun x c e=>I.freeC x c (clos x c e).1,fun p hp=> ?_,I.hok.kept hk, ?_⟩
 ·have hx:(relabel scope X.env).names.lookup x=some .cell∨(relabel scope X.env).names.lookup x=some .free:=hx
  rcases z0W hx with q|q
  ·have m:(x,NameKind.free)∈scope.names:=PySem.mem_of_lookup q
   obtain⟨c,hc⟩:=I.ok.has x (S.fr _ m rfl)
   exact z28 _ _ (.inr ⟨m,c,hc⟩)
  ·exact absurd rfl (S.nocell _ (PySem.mem_of_lookup q))
 ·rcases(hf b z).2.2.2.1 with q|q
  ·exact I.ok.noex b o e q
  ·exact absurd (Heap.lt_size (I.ok.bs b o e).1) (Nat.not_lt.mpr q)
 ·intro q
  rcases List.mem_cons.mp (I.stkSub b q) with r|r
  ·exact(hf b z).2.1 r
  ·exact(hf b z).2.2.1 r
 ·rw[hg];exact I.bare
 ·have h2:(z1s own.length ix σ)[i]? =some (some v):=h2
  have h1:(own++frees)[i]? =some x:=h1
  unfold z1s at h2
  by_cases hi:i<own.length
  ·rw[List.getElem?_append_left (by simpa using hi),List.getElem?_replicate] at h2
   rw[if_pos hi] at h2
   cases h2
  ·have hi:own.length≤i:=Nat.not_lt.mp hi
   rw[List.getElem?_append_right (by simpa using hi),List.length_replicate,List.getElem?_map] at h2
   rw[List.getElem?_append_right hi] at h1
   cases e:ix[i -own.length]? with
   |none=>rw[e] at h2;cases h2
   |some j=>
    rw[e] at h2
    have h2:some ((σ[j]?).getD none)=some (some v):=h2
    have hσ:σ[j]? =some (some v):=by
     cases q:σ[j]? with
     |none=>rw[q] at h2;cases h2
     |some z=>rw[q] at h2;exact h2
    have hN:X.N[j]? =some x:=by
     have:=congrArg (fun l:List (Option Str)=>l[i -own.length]?) S.ixs
     simp only[List.getElem?_map,e,h1,Option.map_some] at this
     exact Option.some.inj this
    have mf:x∈frees:=List.mem_of_getElem? h1
    have lf:=S.frl x mf
    have m:(x,NameKind.free)∈scope.names:=PySem.mem_of_lookup lf
    have hos:=S.fr _ m rfl
    obtain⟨mm,hns,hl⟩:=I.loc
    obtain⟨u,ru,look⟩:=hl j x v hN hσ (hos.elim (fun q=> .inr (.inl q)) fun q=> .inr (.inr q))
    refine⟨u,ru, ?_⟩
    rcases look with⟨kk,_⟩|⟨kk,c,hc,ic⟩
    ·have kk:X.env.scope.names.lookup x=some .local:=kk
     have hos:X.env.scope.names.lookup x=some .cell∨X.env.scope.names.lookup x=some .free:=hos
     rw[kk] at hos
     rcases hos with q|q<;>cases q
    ·obtain⟨c',hc'⟩:=z28 (env:=X.env) scope.names [] (.inr ⟨m,c,hc⟩)
     have e2:=(clos x c' hc').1
     rw[hc] at e2
     cases e2
     refine .inr ⟨z0O lf,c,hc', ?_⟩
     obtain⟨o,q1,q2⟩:=ic
     exact⟨o,hk _ _ q1,q2⟩
 ·obtain⟨v,o,q1,q2⟩:=I.cell x c (clos x c e).1
  exact⟨v,o,hk _ _ q1,q2⟩
 ·have hp:p∈(X.pn++pins)++[]:=hp
  rw[List.append_nil] at hp
  obtain⟨e,n,ne,nf,d⟩:=I.pin p hp
  refine⟨hk _ _ e,n,Nat.ne_of_lt (Heap.lt_size e),fun q=> ?_,d⟩
  rcases List.mem_cons.mp (I.stkSub p.1 q) with r|r
  ·exact ne r
  ·exact nf r
 ·show(z1s own.length ix σ).length=(own++frees).length
  rw[z4Z,hlen,List.length_append]
theorem z7m{pins pins':List (Addr×Obj)}{σ σ':St}{H H':Hp}{s s':Shared}{h':Heap}{fp:List Addr}{cl:List (Str×Addr)}{C:Addr}(I:Inv X pins σ H s)(hf: ∀b∈fp,FpOk X pins H b)(hC:s.heap.objs.size≤C)
 (J:Inv (z0X X scope own frees cl C s H fp (X.pn++pins)) pins' σ' H' s') (hs:Heap.SameBut C s'.heap h'):Inv X pins σ H' {s' with heap:=h'}:=by
 have nC: ∀b,b<s.heap.objs.size→b≠C:=fun b q e=>by subst e;exact absurd q (Nat.not_lt.mpr hC)
 refine I.call' (ch:=fp) J.os ⟨fun b o e n hb hx=> ?_,fun b o e n hb hx=> ?_,J.base.free,fun b o e hx=> ?_,J.base.tups,J.base.frzs,J.base.tbls⟩ ?_ J.bare fun b z=>⟨(hf b z).2.2.2.1,(hf b z).2.1,(hf b z).2.2.2.2.1,(hf b z).2.2.2.2.2⟩
 ·exact(hs.2 b (nC b (Heap.lt_size e))).trans (J.base.keep b o e n hb hx)
 ·obtain⟨sl,q⟩:=J.base.slot b o e n hb hx
  exact⟨sl,(hs.2 b (nC b (Heap.lt_size e))).trans q⟩
 ·obtain⟨o',q⟩:=J.base.there b o e hx
  exact⟨o',(hs.2 b (nC b (Heap.lt_size e))).trans q⟩
 ·intro a o e
  refine(J.hok a o e).stay (fun b u hbu q=> ?_) (fun _ q=>q) fun _ _ q=>q
  refine(hs.2 b ?_).trans q
  intro eb
  subst eb
  have hfree:H' b=none:=J.free
  rcases hbu with rfl|z
  ·rw[e] at hfree;cases hfree
  ·rw[z] at hfree;cases hfree
end
end L2
namespace PySem
section
variable{prog:Program}{w:World}{A:Around}{E:Value→Shared→Prop}{s:Shared}
theorem z29{d:Addr}{o:Obj}{es:Array DictEntry}{ep:Nat}{Q:Value→Shared→Prop}(hd:(d==sysModules)=false)(ho:s.heap.get? d=some o)(hc:o.ExactDict)(hdat:o.data= .dict es ep)
 (hQ:Q (.ref s.heap.objs.size) {s with heap:=s.heap.push {cls:= .type "dict_keyiterator",data:= .fields #[.ref d, .int 0 0, .int es.size 0, .int ep 0]}}):
 wpAny (model prog w) A (pyIter (.ref d)) Q E s:=by
 have hT:s.TypeIs (.ref d) "dict" :=⟨o,ho,hc.1⟩
 refine wpAny_pyIter_slot hT F.slot_dict_iter (wpAny_call_entry F.slot_dict_iter hT F.entry_dict_iter ?_ (F.args_dict_iter_1 _))
 unfold Builtin.«dict.__iter__»
 refine wpAny_bind ?_
 unfold Builtin.Dict.dictSlotNone
 refine wpAny_bind (wpAny_notOrdered_dict hT ?_)
 show wpAny _ _ (pure (Value.ref d)) _ _ s
 refine wpAny_pure ?_
 show wpAny _ _ (Builtin.Dict.showsAll d>>=_) _ _ s
 unfold Builtin.Dict.showsAll
 rw[if_neg (by rw[hd];exact Bool.false_ne_true)]
 refine wpAny_bind (wpAny_pure ?_)
 refine wpAny_bind (wpAny_dictEntries ho hdat ?_)
 refine wpAny_bind (wpAny_dictEpoch ho hdat ?_)
 refine wpAny_bind (wpAny_newObj_type (wpAny_pure ⟨_,rfl, "dict_keyiterator",_,⟨_,Heap.get?_push_size _ rfl,rfl⟩,F.slot_dict_keyiterator_next.lookup, ?_⟩))
 simpa[rawInt] using hQ
theorem z2a{it d:Addr}{i ep:Nat}{od:Obj}{es:Array DictEntry}{en:DictEntry}{Q:Option Value→Shared→Prop}(hit:s.heap.IsKeyIter it d i es.size ep)
 (hod:s.heap.get? d=some od) (hdd:od.data= .dict es ep) (hx:es[i]? =some en)
 (hQ: ∀h',h'.IsKeyIter it d (i+1) es.size ep→Heap.SameBut it s.heap h'→Q (some en.key) {s with heap:=h'}):
 wpAny (model prog w) A (pyNext (.ref it)) Q E s:=by
 obtain⟨o,ho,hc,hd⟩:=id hit
 unfold pyNext
 refine wpAny_bind (wpAny_attempt (wpAny_callSpecial?_slot (name:=Str.ofString "__next__") hit.typeIs F.slot_dict_keyiterator_next
  (wpAny_call_entry F.slot_dict_keyiterator_next hit.typeIs F.entry_dict_keyiterator_next ?_ (F.args_dict_keyiterator_next_1 _))))
 refine wpAny_bind (wpAny_pure ?_)
 refine wpAny_bind ?_
 refine wpAny_bind ?_
 first|refine wpAny_bind (wpAny_typeNameOfWhole_keyiter hit.typeIs (wpAny_pure ?_))|refine wpAny_bind (wpAny_typeNameOf_keyiter hit.typeIs (wpAny_pure ?_))
 refine wpAny_bind (wpAny_fieldsOf ho hd ?_)
 have hown:Builtin.Dict_items.ownsTuple "dict_keyiterator" =false:=by decide
 simp only[hown,Bool.false_eq_true,if_false]
 show wpAny _ _ (if(Value.ref d==Value.none)=true then _ else _) _ _ s
 rw[if_neg (show ¬((Value.ref d==Value.none)=true) from Bool.false_ne_true)]
 refine wpAny_bind (wpAny_pure ?_)
 refine wpAny_bind (wpAny_dictEntries hod hdd ?_)
 rw[if_neg (by simp)]
 refine wpAny_bind (wpAny_pure ?_)
 refine wpAny_bind (wpAny_dictEpoch hod hdd ?_)
 rw[if_neg (by simp)]
 refine wpAny_pure ?_
 have hlt':i<es.size:=by
  rcases Nat.lt_or_ge i es.size with h|h
  ·exact h
  ·simp[Array.getElem?_eq_none h] at hx
 have hkey:es[i]=en:=by
  rw[Array.getElem?_eq_getElem hlt'] at hx
  exact Option.some.inj hx
 simp only[show ¬((i:Int)<0) from by omega,if_false,Int.toNat_natCast,Array.getElem?_eq_getElem hlt']
 refine wpAny_bind ?_
 first|refine wpAny_bind (wpAny_typeNameOfWhole_keyiter hit.typeIs (wpAny_pure ?_))|refine wpAny_bind (wpAny_typeNameOf_keyiter hit.typeIs (wpAny_pure ?_))
 refine wpAny_bind (wpAny_isOneOf_keyiter hit.typeIs ?_)
 show wpAny _ _ (setField (.ref it) 1 (rawInt ((i:Int)+1))>>=_) _ _ s
 refine wpAny_bind (wpAny_setField ho hd (by simp) ?_)
 have hit':(s.heap.update it (Obj.mapFields (·.setIfInBounds 1 (rawInt ((i:Int)+1))))).IsKeyIter it d (i+1) es.size ep:=
  ⟨_,Heap.get?_update_self _ ho (Obj.isFreed_of_fields (Obj.data_mapFields hd _)),(Obj.cls_mapFields ..).trans hc,by rw[Obj.data_mapFields hd];simp[rawInt]⟩
 refine wpAny_bind (wpAny_holding ?_)
 refine wpAny_bind (wpAny_isOneOf_keyiter (s:={s with heap:=s.heap.update it (Obj.mapFields (·.setIfInBounds 1 (rawInt ((i:Int)+1))))}) hit'.typeIs ?_)
 show wpAny _ _ (pure es[i].key) _ _ _
 rw[hkey]
 exact wpAny_pure (wpAny_pure ⟨_,rfl,wpAny_pure (hQ _ hit' (Heap.SameBut.update ..))⟩)
theorem z2x{it d:Addr}{i ep:Nat}{od:Obj}{es:Array DictEntry}{Q:Option Value→Shared→Prop}(hh:A.handled=none)(hit:s.heap.IsKeyIter it d i es.size ep)
 (hod:s.heap.get? d=some od) (hdd:od.data= .dict es ep) (hge:es.size≤i)
 (hQ: ∀h',Heap.ExtBut it s.heap h'→Q none {s with heap:=h'}):wpAny (model prog w) A (pyNext (.ref it)) Q E s:=by
 obtain⟨o,ho,hc,hd⟩:=id hit
 unfold pyNext
 refine wpAny_bind (wpAny_attempt (wpAny_callSpecial?_slot (name:=Str.ofString "__next__") hit.typeIs F.slot_dict_keyiterator_next
  (wpAny_call_entry F.slot_dict_keyiterator_next hit.typeIs F.entry_dict_keyiterator_next ?_ (F.args_dict_keyiterator_next_1 _))))
 refine wpAny_bind (wpAny_pure ?_)
 refine wpAny_bind ?_
 refine wpAny_bind ?_
 first|refine wpAny_bind (wpAny_typeNameOfWhole_keyiter hit.typeIs (wpAny_pure ?_))|refine wpAny_bind (wpAny_typeNameOf_keyiter hit.typeIs (wpAny_pure ?_))
 refine wpAny_bind (wpAny_fieldsOf ho hd ?_)
 have hown:Builtin.Dict_items.ownsTuple "dict_keyiterator" =false:=by decide
 simp only[hown,Bool.false_eq_true,if_false]
 show wpAny _ _ (if(Value.ref d==Value.none)=true then _ else _) _ _ s
 rw[if_neg (show ¬((Value.ref d==Value.none)=true) from Bool.false_ne_true)]
 refine wpAny_bind (wpAny_pure ?_)
 refine wpAny_bind (wpAny_dictEntries hod hdd ?_)
 rw[if_neg (by simp)]
 refine wpAny_bind (wpAny_pure ?_)
 refine wpAny_bind (wpAny_dictEpoch hod hdd ?_)
 rw[if_neg (by simp)]
 refine wpAny_pure ?_
 simp only[show ¬((i:Int)<0) from by omega,if_false,Int.toNat_natCast,Array.getElem?_eq_none hge]
 refine wpAny_bind ?_
 first|refine wpAny_bind (wpAny_typeNameOfWhole_keyiter hit.typeIs (wpAny_pure ?_))|refine wpAny_bind (wpAny_typeNameOf_keyiter hit.typeIs (wpAny_pure ?_))
 show wpAny _ _ (setField (.ref it) 0 .none>>=_) _ _ s
 refine wpAny_bind (wpAny_setField ho hd (by simp) ?_)
 show wpAny _ _ (newExc (.type "StopIteration") []>>=_) _ _ _
 refine wpAny_bind ?_
 simp only[newExc,newTuple]
 refine wpAny_bind (wpAny_newObj_type ?_ (by size_fits))
 refine wpAny_bind (m:=firstArgMember _ _) (wpAny_of_eq (a:=Value.none) (by first|rfl|(simp only[firstArgMember];rfl)) ?_)
 refine wpAny_newObj_type ?_ (by size_fits)
 simp only[raiseNew]
 refine wpAny_bind (wpAny_handled ?_)
 rw[show A.in1.handled=none from hh]
 refine wpAny_bind (wpAny_pure (wpAny_throw ?_))
 refine wpAny_bind (wpAny_isInstance (T:= "StopIteration") (b:=true) ⟨_,Heap.get?_push_size _ rfl,rfl⟩ isSubtype_stop ?_)
 exact wpAny_pure (hQ _ (((Heap.SameBut.update ..).extBut.push _).push _))
end
end PySem
namespace L2
open PySem PySem.Spec PyProof.Rows
section
variable{X:Cx}{tg:Expr}
end
end L2
namespace L2
open PySem PySem.Spec PyProof.Rows
section
variable{X:Cx}
end
noncomputable def z2b(osc sc:Scope)(own frees N:List Str)(ix:List Nat):Bool:=
 decide (sc.kind= .function)&&sc.names.all (fun y=>decide (y.2≠ .cell))&&sc.names.all (fun y=>decide (y.2= .local→sc.names.lookup y.1=some .local))&&
  sc.names.all (fun y=>decide (y.2= .free→osc.names.lookup y.1=some .cell∨osc.names.lookup y.1=some .free))&&decide (own++frees).Nodup&&frees.all (fun x=>decide (sc.names.lookup x=some .free))&&
  decide (ix.map (fun i=>N[i]?)=frees.map some)
theorem z2b.sc{osc sc:Scope}{own frees N:List Str}{ix:List Nat}(h:z2b osc sc own frees N ix=true):z1d osc sc own frees N ix:=by
 unfold z2b at h
 simp only[Bool.and_eq_true,List.all_eq_true,decide_eq_true_eq] at h
 obtain⟨⟨⟨⟨⟨⟨h1,h2⟩,h3⟩,h4⟩,h5⟩,h6⟩,h7⟩:=h
 exact⟨h1,h2,h3,h4,h5,h6,h7⟩
theorem Same.new{H:Hp}{p:Addr}(o:HO)(h:H p=none):Same H (upd H p o):=fun x u e=>by rw[z05 (z0p e h)];exact e
end L2
namespace L2
open PySem PySem.Spec PyProof.Rows
section
variable{X:Cx}{st:Stmt}{rest:List Stmt}{t u:TS}
end
end L2
namespace L2
open PySem PySem.Spec PyProof.Rows
noncomputable def dT(ns:List Int):PyData:= .tuple (ns.map PyData.int)
theorem Paired.snoc{α β:Type}{F:α→β→Prop}: ∀{l₁:List α} {l₂:List β} {a:α} {b:β},Paired F l₁ l₂→F a b→Paired F (l₁++[a]) (l₂++[b])
 |_,_,_,_, .nil,h=> .cons h .nil
 |_,_,_,_, .cons r t,h=> .cons r (Paired.snoc t h)
section
variable{κ:Type}[DecidableEq κ]
end
end L2
namespace L2
open PySem PySem.Spec PyProof.Rows
section
variable{X:Cx}{e st:Expr}{te:TE}{p2 pos:Pos}
end
end L2
namespace L2
open PySem PySem.Spec PyProof.Rows
noncomputable def NewX(K:PySem.W.Frag)(H:Hp)(xs:List V)(Q:VK):Prop:= ∀p H',(H'=H∧H p=some (.tup xs))∨(H p=none∧H'=upd H p (.tup xs))→Q (.ref p) H'
theorem NewX.intro{K:PySem.W.Frag}{H:Hp}{xs:List V}{Q:VK}(h: ∀p H',H' p=some (.tup xs)→Same H H'→Q (.ref p) H'):NewX K H xs Q:=by
 intro p H' e
 rcases e with⟨rfl,s⟩|⟨n,rfl⟩
 ·exact h p H' s (Same.refl _)
 ·exact h p _ z09 (Same.new _ n)
section
variable{X:Cx}
noncomputable def rSlX(K:PySem.W.Frag):V→Option Int→Option Int→Hp→VK→Prop:=fun x lo hi H Q=> ∃a xs,x= .ref a∧H a=some (.tup xs)∧NewX K H (cutV xs lo hi) Q
theorem z8y:SlR X (rSlX X.K):=by
 intro pins s σ H x v vl vu lo hi sl Q I rx hs pl pu h
 obtain⟨a,xs,rfl,hx0,q⟩:=h
 have hx:SqT X.K H a xs:=SqT.of hx0
 by_cases hw:HT.sIx xs.length 0 lo=0∧HT.sIx xs.length xs.length hi=xs.length
 ·cases rx
  obtain⟨its,r,ht,hz⟩:=I.tuple hx
  have hlen:its.toArray.size=xs.length:=by rw[List.size_toArray];exact r.length.symm
  refine⟨"tuple",_,PyProof.Rows.slot_tuple_getitem.lookup,ht.typeIs, ?_⟩
  refine HT.getItem_tuple_whole ht hs pl pu (by rw[hlen];exact hw) ⟨.ref a,H,I,rfl,q a H (.inl ⟨rfl, ?_⟩)⟩
  rw[z4Y hw]
  exact hx0
 ·exact zan pins s σ H _ v vl vu lo hi sl Q I rx hs pl pu ⟨a,xs,rfl,hx,hw,fun p hp=>q p _ (.inr ⟨hp,rfl⟩)⟩
noncomputable def z8z(K:PySem.W.Frag):R2:=fun x y H Q=> ∃a b xs ys,x= .ref a∧y= .ref b∧H a=some (.tup xs)∧H b=some (.tup ys)∧xs.length+ys.length≤sizeLine∧NewX K H (xs++ys) Q
theorem z8A:OpR X (binaryOp .Add) (z8z X.K):=by
 intro pins s σ H x y v u Q I rx ry h
 obtain⟨a,b,xs,ys,rfl,rfl,ha0,hb0,hz,q⟩:=h
 have ha:SqT X.K H a xs:=SqT.of ha0
 have hb:SqT X.K H b ys:=SqT.of hb0
 by_cases hx:xs=[]
 ·subst hx
  cases rx
  cases ry
  obtain⟨its,r1,p1,_⟩:=I.tuple ha
  obtain⟨its2,r2,p2,_⟩:=I.tuple hb
  have e0:its=[]:=(Vals.nil_iff r1).mpr rfl
  subst e0
  obtain⟨⟨cls,dd,data,sl⟩,ho,hc,n,hd⟩:=id p1
  obtain⟨⟨cls2,dd2,data2,sl2⟩,ho2,hc2,n2,hd2⟩:=id p2
  simp only at hc hd hc2 hd2
  subst hc hd hc2 hd2
  exact concat_meets ⟨_,ho,rfl⟩ ⟨_,ho2,rfl⟩ noFill_tuple_add seq_tuple_add PySem.F.slot_tuple_add PySem.F.entry_tuple_add (PySem.F.args_tuple_add_2 _ _)
   (tuple_addW0 a b _ _ n n2 dd dd2 sl sl2 (by simp)) ⟨ho,ho2, .ref b,H,I,rfl,q b H (.inl ⟨rfl,hb0⟩)⟩
 ·refine z8r pins s σ H _ _ v u Q I rx ry ⟨a,b,xs,ys,rfl,rfl,ha,hb,hx,hz,fun e=> ?_,fun _ p hp=>q p _ (.inr ⟨hp,rfl⟩)⟩
  refine q a H (.inl ⟨rfl, ?_⟩)
  rw[e,List.append_nil]
  exact ha0
theorem z5J:CallR X (.type "tuple") (fun xs H Q=> ∃(p:Addr) (ys:List V),xs=[.ref p]∧(SqL X.K H p ys∨H p=some (.tup ys))∧NewX X.K H ys Q):=by
 intro pins s σ H xs us Q I r h
 obtain⟨p,ys,rfl,hs,q⟩:=h
 refine z2N pins s σ H _ us Q I r ⟨p,ys,rfl, ?_⟩
 rcases hs with hs|hs
 ·exact .inl ⟨hs,fun l hl=>q l _ (.inr ⟨hl,rfl⟩)⟩
 ·exact .inr ⟨SqT.of hs,q p H (.inl ⟨rfl,hs⟩)⟩
end
end L2
namespace L2
open PySem PySem.Spec PyProof.Rows
theorem z1T:fillsNumberSlot (.type "tuple") "mul" =pure false:=
 PySem.fillsNumberSlot_seq (id:= "tuple.__mul__") (r:=some (.builtin "tuple.__rmul__")) F.slot_tuple_mul.lookup (by decide+kernel) F.slot_tuple_rmul.lookup (by decide+kernel)
theorem z3l:seqRepeat? (.type "tuple")=pure (some (.builtin "tuple.__mul__")):=by
 unfold seqRepeat?
 rw[PySem.seqSlot_of (T:= "tuple") (name:= "__mul__") (id:= "tuple.__mul__") F.slot_tuple_mul.lookup (by decide+kernel),PySem.seqSlot_of (T:= "tuple") (name:= "__rmul__") (id:= "tuple.__rmul__") F.slot_tuple_rmul.lookup (by decide+kernel)]
 rfl
theorem z2y(a:Int)(t:Tok)(l:Addr)(items:Array Value)(n:Nat)(dd:Option Addr)(sl:Array (Option Value)):
 Meets (Builtin.«int.__rmul__» ⟨[.int a t, .ref l],[]⟩) (fun _ R s=>s.heap.get? l=some {cls:= .type "tuple",dict:=dd,data:= .seq items n,slots:=sl}∧R (.ok (.ret Value.notImplemented)) s):=
 .of_wp fun prog w A R s h=>by obtain⟨hp,g,d,tk,os⟩:=s;obtain⟨hl,h⟩:=h;wp_walk;exact⟨_,rfl,h⟩
theorem z51(l:Addr)(items:Array Value)(n:Nat)(dd:Option Addr)(sl:Array (Option Value))(x:Int)(u:Tok)(hc0: ¬(decide (x< -(2^63))||decide (x≥2^63))=true)(hc1: ¬(items.isEmpty||x==1)=true)(hc2: ¬(decide (x≤0)||items.isEmpty)=true)(hc3: ¬((items.size:Int)*x>(2^63 - 1)/8))(hc4: ¬Builtin.Tuple.tupleTooMany ((items.size:Int)*x)=true)(hsz:(List.foldl (fun x1 x2=>x1++x2) #[] (List.replicate x.toNat items)).size≤sizeLine):
 Meets (Builtin.«tuple.__mul__» ⟨[.ref l, .int x u],[]⟩) (fun _ R s=>s.heap.get? l=some {cls:= .type "tuple",dict:=dd,data:= .seq items n,slots:=sl}∧R (.ok (.ret (Value.ref s.heap.objs.size))) {s with heap:=s.heap.push {cls:=Value.type "tuple",data:=Data.seq (List.foldl (fun x1 x2=>x1++x2) #[] (List.replicate x.toNat items))},toks:=s.toks}):=
 .of_wp fun prog w A R s h=>by
  obtain⟨hp,g,d,tk,os⟩:=s;obtain⟨hl,h⟩:=h
  have f1:=AutoSeq1.idx_int;have f2:=AutoSeq1.sub_tuple_tuple
  wp_walk using AutoSeq1.wpAny_loadPart' hl
  rw[if_neg hc0]
  wp_walk using AutoSeq1.wpAny_loadPart' hl
  rw[if_neg hc3]
  wp_walk using AutoSeq1.wpAny_loadPart' hl
  exact⟨_,rfl,h⟩
section
variable{X:Cx}
noncomputable def z8B(K:PySem.W.Frag):R2:=fun x y H Q=> ∃a k xs,x= .ref a∧y= .int k∧SqT K H a xs∧0<xs.length∧2≤k∧k<2^63∧xs.length*k.toNat≤sizeLine∧
 ∀p,H p=none→Q (.ref p) (upd H p (.tup (List.replicate k.toNat xs).flatten))
theorem z8C:OpR X (binaryOp .Mult) (z8B X.K):=by
 intro pins s σ H x y v u Q I rx ry h
 obtain⟨a,k,xs,rfl,rfl,ha,h0,h1,h2,hz,q⟩:=h
 cases rx
 obtain⟨t,rfl⟩:=ry
 obtain⟨its,r,p1,_⟩:=I.tuple ha
 obtain⟨⟨cls,dd,data,sl⟩,e,hc,n,hd⟩:=id p1
 simp only at hc hd
 subst hc hd
 have hlen:its.length=xs.length:=r.length.symm
 have hne:its.toArray.isEmpty=false:=by
  cases its with
  |nil=>simp at hlen;omega
  |cons a r=>simp
 have hnew:List.foldl (fun x1 x2=>x1++x2) #[] (List.replicate k.toNat its.toArray)=(List.replicate k.toNat its).flatten.toArray:=by
  have:=z23 its k.toNat []
  rw[List.nil_append] at this
  exact this
 have hl2:((its.toArray.size:Nat):Int)*k=((xs.length*k.toNat:Nat):Int):=by
  rw[List.size_toArray,hlen,Int.natCast_mul,Int.toNat_of_nonneg (by omega)]
 have hs:(sizeLine:Nat)=16777216:=rfl
 refine wpAny_binaryOp_repeat_ref (T:= "tuple") (U:= "int") (by decide) ⟨_,e,rfl⟩ (fun s'=>typeIs_int s' k t) z1T F.fills_int_mul F.slot_int_rmul z3l F.slot_int_index.lookup
  (call_meets F.slot_int_rmul (typeIs_int s k t) F.entry_int_rmul (F.args_int_rmul_2 _ _) (z2y k t a its.toArray n dd sl)
   ⟨e,rfl,⟨_,e,rfl⟩,call_meets F.slot_tuple_mul ⟨_,e,rfl⟩ F.entry_tuple_mul (F.args_tuple_mul_2 _ _) (z51 a its.toArray n dd sl k t (by simp;omega) (by rw[hne];simp;omega) (by rw[hne];simp;omega) (by rw[hl2];clear hl2;generalize xs.length*k.toNat=m at hz⊢;omega) (by rw[hl2];clear hl2;generalize xs.length*k.toNat=m at hz⊢;unfold Builtin.Tuple.tupleTooMany;rw[decide_eq_true_eq];omega) (by rw[hnew,List.size_toArray,z3L,hlen,Nat.mul_comm];exact hz)) ⟨e, ?_⟩⟩)
 rw[hnew]
 refine⟨.ref s.heap.objs.size,_,I.laid (t':=s.toks) (o:= .tup (List.replicate k.toNat xs).flatten) (fun b ob q=>Heap.get?_push_of_some _ q) (Nat.le_refl _) ?_,rfl,q _ (I.hok.fresh (Nat.le_refl _))⟩
 exact⟨by rw[z3L,Nat.mul_comm];exact hz,_,r.rep k.toNat,IsTup.new _ _⟩
end
end L2
namespace Mi
open PySem L2
inductive D where
 |non|bool (b:Bool)|int (i:Int)|str (x:Str)
 |tup (ds:List D)|ro (ds:List D)|lst (l:Nat) (ds:List D)
 |dct (l:Nat) (ks vs:List D)|obj (l:Nat) (c:Str) (ns:List Str) (vs:List D)
 |exc (c:Str)|fn (c:Str)|fdc (ks vs:List D)
deriving Inhabited
mutual
noncomputable def labs:D→List Nat
 | .tup ds=>z00 ds
 | .ro ds=>z00 ds
 | .fdc _ vs=>z00 vs
 | .lst l ds=>l::z00 ds
 | .dct l ks vs=>l::(z00 ks++z00 vs)
 | .obj l _ _ vs=>l::z00 vs
 | .non=>[]| .bool _=>[]| .int _=>[]| .str _=>[]| .exc _=>[]| .fn _=>[]
noncomputable def z00:List D→List Nat
 |[]=>[]
 |d::ds=>labs d++z00 ds
end
noncomputable def z06:List (Option D)→List Nat
 |[]=>[]
 |none::r=>z06 r
 |some d::r=>labs d++z06 r
structure Gx where
 K:PySem.W.Frag
 cl:Str→Option Addr
 ci: ∀c c' a,cl c=some a→cl c'=some a→c=c'
 ck: ∀c a,cl c=some a→∃o,K.lookup a=some o∧∀its n,o.data≠ .seq its n
noncomputable def keyD:Key→D
 | .inl i=> .int i
 | .inr x=> .str x
noncomputable def dkD(ks:List Key):D:= .tup (ks.map keyD)
noncomputable def RoL(K:PySem.W.Frag)(H:Hp)(a:Addr)(xs:List V):Prop:=
 (∃o,H a=some (.frz o (.lst xs)))∨∃(o:Obj) (its:Array Value) (n:Nat),K.lookup a=some o∧o.cls= .type "list" ∧o.dict=none∧o.data= .seq its n∧its.size≤sizeLine∧Vals xs its.toList
theorem RoL.sq{K:PySem.W.Frag}{H:Hp}{a:Addr}{xs:List V}(h:RoL K H a xs):SqL K H a xs:=by
 rcases h with⟨o,h⟩|h
 ·exact .inl (.inr ⟨o,h⟩)
 ·exact .inr h
mutual
noncomputable def RD(G:Gx)(ρ:Nat→Addr)(H:Hp):D→V→Prop
 | .non,v=>v= .non
 | .bool b,v=>v= .bl b
 | .int i,v=>v= .int i
 | .str x,v=>v= .str x
 | .exc c,v=> ∃a o C,v= .ref a∧G.cl c=some C∧o.cls= .ref C∧(∃vs,o.data= .fields vs)∧H a=some (.frz o (.ext fun _=>True))
 | .fn c,v=> ∃a,v= .ref a∧G.cl c=some a
 | .tup ds,v=> ∃a xs,v= .ref a∧H a=some (.tup xs)∧RDs G ρ H ds xs
 | .ro ds,v=> ∃a xs,v= .ref a∧RoL G.K H a xs∧RDs G ρ H ds xs
 | .fdc ks vs,v=> ∃(a:Addr) (o:Obj) (kvs:List (List Key×V)),v= .ref a∧H a=some (.frz o (.dT kvs))∧ks=kvs.map (fun p=>dkD p.1)∧RDs G ρ H vs (kvs.map (·.2))
 | .lst l ds,v=>v= .ref (ρ l)∧∃xs,H (ρ l)=some (.lst xs)∧RDs G ρ H ds xs
 | .dct l ks vs,v=>v= .ref (ρ l)∧((∃kvs:List (Key×V),H (ρ l)=some (.dK kvs)∧ks=D.non::kvs.map (fun p=>keyD p.1)∧RDs G ρ H vs (kvs.map (·.2)))∨
  (∃kvs:List (List Key×V),H (ρ l)=some (.dT kvs)∧ks=kvs.map (fun p=>dkD p.1)∧RDs G ρ H vs (kvs.map (·.2))))
 | .obj l c ns vs,v=>v= .ref (ρ l)∧∃C dx fs,G.cl c=some C∧H (ρ l)=some (.ins C dx fs)∧ns=fs.map (·.1)∧RDs G ρ H vs (fs.map (·.2))
noncomputable def RDs(G:Gx)(ρ:Nat→Addr)(H:Hp):List D→List V→Prop
 |[],xs=>xs=[]
 |d::ds,xs=> ∃x r,xs=x::r∧RD G ρ H d x∧RDs G ρ H ds r
end
structure z0H(H H':Hp):Prop where
 t: ∀b xs,H b=some (.tup xs)→H' b=some (.tup xs)
 f: ∀b o u,H b=some (.frz o u)→H' b=some (.frz o u)
theorem z0H.refl(H:Hp):z0H H H:=⟨fun _ _ h=>h,fun _ _ _ h=>h⟩
theorem z0H.of{H H':Hp}(h:Same H H'):z0H H H':=⟨fun _ _ e=>h _ _ e,fun _ _ _ e=>h _ _ e⟩
theorem z0H.ro{K:PySem.W.Frag}{H H':Hp}(t:z0H H H'){a:Addr}{xs:List V}(h:RoL K H a xs):RoL K H' a xs:=by
 rcases h with⟨o,h⟩|h
 ·exact .inl ⟨o,t.f _ _ _ h⟩
 ·exact .inr h
section
variable{G:Gx}{ρ ρ':Nat→Addr}{H H':Hp}
mutual
theorem RD.stay(ts:z0H H H'): ∀(t:D) (v:V),RD G ρ H t v→(∀l∈labs t,ρ' l=ρ l∧∀o,H (ρ l)=some o→H' (ρ l)=some o)→RD G ρ' H' t v
 | .non,v,h,_=>by simp only[RD] at h⊢;exact h
 | .bool b,v,h,_=>by simp only[RD] at h⊢;exact h
 | .int b,v,h,_=>by simp only[RD] at h⊢;exact h
 | .str b,v,h,_=>by simp only[RD] at h⊢;exact h
 | .exc b,v,h,_=>by
  simp only[RD] at h⊢
  obtain⟨a,o,C,e,h1,h2,h3,h5⟩:=h
  exact⟨a,o,C,e,h1,h2,h3,ts.f _ _ _ h5⟩
 | .fn b,v,h,_=>by simp only[RD] at h⊢;exact h
 | .tup ds,v,h,hl=>by
  simp only[RD,labs] at h hl⊢
  obtain⟨a,xs,e,s,r⟩:=h
  exact⟨a,xs,e,ts.t _ _ s,RDs.stay ts ds xs r hl⟩
 | .ro ds,v,h,hl=>by
  simp only[RD,labs] at h hl⊢
  obtain⟨a,xs,e,s,r⟩:=h
  exact⟨a,xs,e,ts.ro s,RDs.stay ts ds xs r hl⟩
 | .fdc ks vs,v,h,hl=>by
  simp only[RD,labs] at h hl⊢
  obtain⟨a,o,kvs,e,s,s2,r⟩:=h
  exact⟨a,o,kvs,e,ts.f _ _ _ s,s2,RDs.stay ts vs _ r hl⟩
 | .lst l ds,v,h,hl=>by
  simp only[RD,labs] at h hl⊢
  obtain⟨e,xs,s,r⟩:=h
  obtain⟨e1,e2⟩:=hl l (List.mem_cons_self ..)
  rw[e1]
  exact⟨e,xs,e2 _ s,RDs.stay ts ds xs r fun k hk=>hl k (List.mem_cons_of_mem _ hk)⟩
 | .dct l ks vs,v,h,hl=>by
  simp only[RD,labs] at h hl⊢
  obtain⟨e,s⟩:=h
  obtain⟨e1,e2⟩:=hl l (List.mem_cons_self ..)
  rw[e1]
  refine⟨e, ?_⟩
  rcases s with⟨kvs,s,s2,r⟩|⟨kvs,s,s2,r⟩
  ·exact .inl ⟨kvs,e2 _ s,s2,RDs.stay ts vs _ r fun k hk=>hl k (List.mem_cons_of_mem _ (List.mem_append_right _ hk))⟩
  ·exact .inr ⟨kvs,e2 _ s,s2,RDs.stay ts vs _ r fun k hk=>hl k (List.mem_cons_of_mem _ (List.mem_append_right _ hk))⟩
 | .obj l c ns vs,v,h,hl=>by
  simp only[RD,labs] at h hl⊢
  obtain⟨e,C,dx,fs,hC,s,s2,r⟩:=h
  obtain⟨e1,e2⟩:=hl l (List.mem_cons_self ..)
  rw[e1]
  exact⟨e,C,dx,fs,hC,e2 _ s,s2,RDs.stay ts vs _ r fun k hk=>hl k (List.mem_cons_of_mem _ hk)⟩
theorem RDs.stay(ts:z0H H H'): ∀(t:List D) (v:List V),RDs G ρ H t v→(∀l∈z00 t,ρ' l=ρ l∧∀o,H (ρ l)=some o→H' (ρ l)=some o)→RDs G ρ' H' t v
 |[],v,h,_=>by simp only[RDs] at h⊢;exact h
 |d::ds,v,h,hl=>by
  simp only[RDs,z00] at h hl⊢
  obtain⟨x,r,e,h1,h2⟩:=h
  exact⟨x,r,e,RD.stay ts d x h1 fun l hk=>hl l (List.mem_append_left _ hk),RDs.stay ts ds r h2 fun l hk=>hl l (List.mem_append_right _ hk)⟩
end
end
mutual
noncomputable def rp(f:Nat→Option D):D→D
 | .tup ds=> .tup (rpL f ds)
 | .ro ds=> .ro (rpL f ds)
 | .fdc ks vs=> .fdc ks (rpL f vs)
 | .lst l ds=>match f l with|some d=>d|none=> .lst l (rpL f ds)
 | .dct l ks vs=>match f l with|some d=>d|none=> .dct l ks (rpL f vs)
 | .obj l c ns vs=>match f l with|some d=>d|none=> .obj l c ns (rpL f vs)
 | .non=> .non| .bool b=> .bool b| .int i=> .int i| .str x=> .str x| .exc x=> .exc x| .fn x=> .fn x
noncomputable def rpL(f:Nat→Option D):List D→List D
 |[]=>[]
 |d::ds=>rp f d::rpL f ds
end
noncomputable def rpO(f:Nat→Option D):List (Option D)→List (Option D)
 |[]=>[]
 |none::r=>none::rpO f r
 |some d::r=>some (rp f d)::rpO f r
section
variable{f:Nat→Option D}
mutual
theorem z8D: ∀t:D,(∀l∈labs t,f l=none)→rp f t=t
 | .non,_=>rfl
 | .bool b,_=>rfl
 | .int b,_=>rfl
 | .str b,_=>rfl
 | .exc b,_=>rfl
 | .fn b,_=>rfl
 | .tup ds,h=>by simp only[rp,labs] at h⊢;rw[z1P ds h]
 | .ro ds,h=>by simp only[rp,labs] at h⊢;rw[z1P ds h]
 | .fdc ks vs,h=>by simp only[rp,labs] at h⊢;rw[z1P vs h]
 | .lst l ds,h=>by
  simp only[rp,labs] at h⊢
  rw[h l (List.mem_cons_self ..),z1P ds fun k hk=>h k (List.mem_cons_of_mem _ hk)]
 | .dct l ks vs,h=>by
  simp only[rp,labs] at h⊢
  rw[h l (List.mem_cons_self ..),z1P vs fun k hk=>h k (List.mem_cons_of_mem _ (List.mem_append_right _ hk))]
 | .obj l c ns vs,h=>by
  simp only[rp,labs] at h⊢
  rw[h l (List.mem_cons_self ..),z1P vs fun k hk=>h k (List.mem_cons_of_mem _ hk)]
theorem z1P: ∀t:List D,(∀l∈z00 t,f l=none)→rpL f t=t
 |[],_=>rfl
 |d::ds,h=>by
  simp only[rpL,z00] at h⊢
  rw[z8D d fun l hk=>h l (List.mem_append_left _ hk),z1P ds fun l hk=>h l (List.mem_append_right _ hk)]
end
theorem z5K: ∀t:List (Option D),(∀l∈z06 t,f l=none)→rpO f t=t
 |[],_=>rfl
 |none::r,h=>by simp only[rpO,z06] at h⊢;rw[z5K r h]
 |some d::r,h=>by
  simp only[rpO,z06] at h⊢
  rw[z8D d fun l hk=>h l (List.mem_append_left _ hk),z5K r fun l hk=>h l (List.mem_append_right _ hk)]
end
section
variable{G:Gx}{ρ ρ':Nat→Addr}{H H':Hp}{f:Nat→Option D}
mutual
theorem RD.rp(ts:z0H H H'): ∀(t:D) (v:V),RD G ρ H t v→(∀l∈labs t,ρ' l=ρ l∧(match f l with|some d=>RD G ρ' H' d (.ref (ρ l))|none=> ∀o,H (ρ l)=some o→H' (ρ l)=some o))→RD G ρ' H' (rp f t) v
 | .non,v,h,_=>by simp only[Mi.rp,RD] at h⊢;exact h
 | .bool b,v,h,_=>by simp only[Mi.rp,RD] at h⊢;exact h
 | .int b,v,h,_=>by simp only[Mi.rp,RD] at h⊢;exact h
 | .str b,v,h,_=>by simp only[Mi.rp,RD] at h⊢;exact h
 | .exc b,v,h,_=>by
  simp only[Mi.rp,RD] at h⊢
  obtain⟨a,o,C,e,h1,h2,h3,h5⟩:=h
  exact⟨a,o,C,e,h1,h2,h3,ts.f _ _ _ h5⟩
 | .fn b,v,h,_=>by simp only[Mi.rp,RD] at h⊢;exact h
 | .tup ds,v,h,hl=>by
  simp only[Mi.rp,RD,labs] at h hl⊢
  obtain⟨a,xs,e,s,r⟩:=h
  exact⟨a,xs,e,ts.t _ _ s,RDs.rp ts ds xs r hl⟩
 | .ro ds,v,h,hl=>by
  simp only[Mi.rp,RD,labs] at h hl⊢
  obtain⟨a,xs,e,s,r⟩:=h
  exact⟨a,xs,e,ts.ro s,RDs.rp ts ds xs r hl⟩
 | .fdc ks vs,v,h,hl=>by
  simp only[Mi.rp,RD,labs] at h hl⊢
  obtain⟨a,o,kvs,e,s,s2,r⟩:=h
  exact⟨a,o,kvs,e,ts.f _ _ _ s,s2,RDs.rp ts vs _ r hl⟩
 | .lst l ds,v,h,hl=>by
  simp only[Mi.rp,RD,labs] at h hl⊢
  obtain⟨e,xs,s,r⟩:=h
  obtain⟨e1,e2⟩:=hl l (List.mem_cons_self ..)
  cases ef:f l with
  |some d=>rw[ef] at e2;subst e;exact e2
  |none=>
   rw[ef] at e2
   simp only[RD]
   rw[e1]
   exact⟨e,xs,e2 _ s,RDs.rp ts ds xs r fun k hk=>hl k (List.mem_cons_of_mem _ hk)⟩
 | .dct l ks vs,v,h,hl=>by
  simp only[Mi.rp,RD,labs] at h hl⊢
  obtain⟨e,s⟩:=h
  obtain⟨e1,e2⟩:=hl l (List.mem_cons_self ..)
  cases ef:f l with
  |some d=>rw[ef] at e2;subst e;exact e2
  |none=>
   rw[ef] at e2
   simp only[RD]
   rw[e1]
   refine⟨e, ?_⟩
   rcases s with⟨kvs,s,s2,r⟩|⟨kvs,s,s2,r⟩
   ·exact .inl ⟨kvs,e2 _ s,s2,RDs.rp ts vs _ r fun k hk=>hl k (List.mem_cons_of_mem _ (List.mem_append_right _ hk))⟩
   ·exact .inr ⟨kvs,e2 _ s,s2,RDs.rp ts vs _ r fun k hk=>hl k (List.mem_cons_of_mem _ (List.mem_append_right _ hk))⟩
 | .obj l c ns vs,v,h,hl=>by
  simp only[Mi.rp,RD,labs] at h hl⊢
  obtain⟨e,C,dx,fs,hC,s,s2,r⟩:=h
  obtain⟨e1,e2⟩:=hl l (List.mem_cons_self ..)
  cases ef:f l with
  |some d=>rw[ef] at e2;subst e;exact e2
  |none=>
   rw[ef] at e2
   simp only[RD]
   rw[e1]
   exact⟨e,C,dx,fs,hC,e2 _ s,s2,RDs.rp ts vs _ r fun k hk=>hl k (List.mem_cons_of_mem _ hk)⟩
theorem RDs.rp(ts:z0H H H'): ∀(t:List D) (v:List V),RDs G ρ H t v→(∀l∈z00 t,ρ' l=ρ l∧(match f l with|some d=>RD G ρ' H' d (.ref (ρ l))|none=> ∀o,H (ρ l)=some o→H' (ρ l)=some o))→RDs G ρ' H' (rpL f t) v
 |[],v,h,_=>by simp only[rpL,RDs] at h⊢;exact h
 |d::ds,v,h,hl=>by
  simp only[rpL,RDs,z00] at h hl⊢
  obtain⟨x,r,e,h1,h2⟩:=h
  exact⟨x,r,e,RD.rp ts d x h1 fun l hk=>hl l (List.mem_append_left _ hk),RDs.rp ts ds r h2 fun l hk=>hl l (List.mem_append_right _ hk)⟩
end
end
section
variable{f:Nat→Option D}
mutual
theorem z5L(l:Nat): ∀t:D,l∈labs (rp f t)→l∈labs t∨∃k d,k∈labs t∧f k=some d∧l∈labs d
 | .non,h=>by simp only[rp,labs] at h;cases h
 | .bool b,h=>by simp only[rp,labs] at h;cases h
 | .int b,h=>by simp only[rp,labs] at h;cases h
 | .str b,h=>by simp only[rp,labs] at h;cases h
 | .exc b,h=>by simp only[rp,labs] at h;cases h
 | .fn b,h=>by simp only[rp,labs] at h;cases h
 | .tup ds,h=>by
  simp only[rp,labs] at h⊢
  exact z16 l ds h
 | .ro ds,h=>by
  simp only[rp,labs] at h⊢
  exact z16 l ds h
 | .fdc ks vs,h=>by
  simp only[rp,labs] at h⊢
  exact z16 l vs h
 | .lst k ds,h=>by
  simp only[rp] at h
  cases e:f k with
  |some d=>rw[e] at h;exact .inr ⟨k,d,by simp only[labs];exact List.mem_cons_self ..,e,h⟩
  |none=>
   rw[e] at h
   simp only[labs] at h⊢
   rcases List.mem_cons.mp h with h|h
   ·exact .inl (List.mem_cons.mpr (.inl h))
   ·rcases z16 l ds h with q|⟨k',d,q1,q2,q3⟩
    ·exact .inl (List.mem_cons_of_mem _ q)
    ·exact .inr ⟨k',d,List.mem_cons_of_mem _ q1,q2,q3⟩
 | .dct k ks vs,h=>by
  simp only[rp] at h
  cases e:f k with
  |some d=>rw[e] at h;exact .inr ⟨k,d,by simp only[labs];exact List.mem_cons_self ..,e,h⟩
  |none=>
   rw[e] at h
   simp only[labs] at h⊢
   rcases List.mem_cons.mp h with h|h
   ·exact .inl (List.mem_cons.mpr (.inl h))
   ·rcases List.mem_append.mp h with h|h
    ·exact .inl (List.mem_cons_of_mem _ (List.mem_append_left _ h))
    ·rcases z16 l vs h with q|⟨k',d,q1,q2,q3⟩
     ·exact .inl (List.mem_cons_of_mem _ (List.mem_append_right _ q))
     ·exact .inr ⟨k',d,List.mem_cons_of_mem _ (List.mem_append_right _ q1),q2,q3⟩
 | .obj k c ns vs,h=>by
  simp only[rp] at h
  cases e:f k with
  |some d=>rw[e] at h;exact .inr ⟨k,d,by simp only[labs];exact List.mem_cons_self ..,e,h⟩
  |none=>
   rw[e] at h
   simp only[labs] at h⊢
   rcases List.mem_cons.mp h with h|h
   ·exact .inl (List.mem_cons.mpr (.inl h))
   ·rcases z16 l vs h with q|⟨k',d,q1,q2,q3⟩
    ·exact .inl (List.mem_cons_of_mem _ q)
    ·exact .inr ⟨k',d,List.mem_cons_of_mem _ q1,q2,q3⟩
theorem z16(l:Nat): ∀t:List D,l∈z00 (rpL f t)→l∈z00 t∨∃k d,k∈z00 t∧f k=some d∧l∈labs d
 |[],h=>by simp only[rpL,z00] at h;cases h
 |d::ds,h=>by
  simp only[rpL,z00] at h⊢
  rcases List.mem_append.mp h with h|h
  ·rcases z5L l d h with q|⟨k',d,q1,q2,q3⟩
   ·exact .inl (List.mem_append_left _ q)
   ·exact .inr ⟨k',d,List.mem_append_left _ q1,q2,q3⟩
  ·rcases z16 l ds h with q|⟨k',d,q1,q2,q3⟩
   ·exact .inl (List.mem_append_right _ q)
   ·exact .inr ⟨k',d,List.mem_append_right _ q1,q2,q3⟩
end
theorem z1W(l:Nat): ∀t:List (Option D),l∈z06 (rpO f t)→l∈z06 t∨∃k d,k∈z06 t∧f k=some d∧l∈labs d
 |[],h=>by simp only[rpO,z06] at h;cases h
 |none::r,h=>by simp only[rpO,z06] at h⊢;exact z1W l r h
 |some d::ds,h=>by
  simp only[rpO,z06] at h⊢
  rcases List.mem_append.mp h with h|h
  ·rcases z5L l d h with q|⟨k',d,q1,q2,q3⟩
   ·exact .inl (List.mem_append_left _ q)
   ·exact .inr ⟨k',d,List.mem_append_left _ q1,q2,q3⟩
  ·rcases z1W l ds h with q|⟨k',d,q1,q2,q3⟩
   ·exact .inl (List.mem_append_right _ q)
   ·exact .inr ⟨k',d,List.mem_append_right _ q1,q2,q3⟩
end
end Mi
namespace Mi
open PySem L2
structure Stt where
 σ:List (Option D)
 tm:List (Option D)
 n:Nat
structure Fx where
 A0:Addr→Prop
 H0:Hp
 Z:Addr→Prop
 zA: ∀a,Z a→(∃o,H0 a=some o)∧¬A0 a
 aH: ∀a,A0 a→∃o,H0 a=some o
 n0:Nat
 ρ0:Nat→Addr
noncomputable def KD(K:PySem.W.Frag)(H:Hp):Prop:= ∀a o,K.lookup a=some o→H a=none
section
variable(G:Gx)(ρ:Nat→Addr)(H:Hp)
noncomputable def Sl:List (Option D)→List (Option V)→Prop
 |[],vs=>vs=[]
 |none::r,vs=> ∃o q,vs=o::q∧Sl r q
 |some d::r,vs=> ∃v q,vs=some v::q∧RD G ρ H d v∧Sl r q
end
noncomputable def z0v(s:Stt):List Nat:=z06 s.σ++z06 s.tm
structure MR(G:Gx)(F:Fx)(ρ:Nat→Addr)(H:Hp)(σv tv:List (Option V))(s:Stt):Prop where
 sl:Sl G ρ H s.σ σv
 tm:Sl G ρ H s.tm tv
 inj: ∀i j,i<s.n→j<s.n→ρ i=ρ j→i=j
 dom: ∀l,l<s.n→∃o,H (ρ l)=some o
 lab: ∀l∈z0v s,l<s.n
 own: ∀l∈z0v s,F.A0 (ρ l)∨F.H0 (ρ l)=none
 frm: ∀a o,F.H0 a=some o→(∃o',H a=some o')∧(¬F.A0 a→H a=some o)
 kd:KD G.K H
 frb: ∀l,l<s.n→¬F.Z (ρ l)
 bas:F.n0≤s.n∧∀l,l<F.n0→ρ l=F.ρ0 l
noncomputable def Stt.psh(s:Stt)(t:D):Stt:={s with tm:=some t::s.tm}
noncomputable def Stt.nxt(s:Stt):Stt:={s with n:=s.n+1}
section
variable{G:Gx}{F:Fx}{ρ ρ':Nat→Addr}{H H':Hp}{σv tv:List (Option V)}{s:Stt}{t:D}{v:V}
theorem Sl.stay(ts:z0H H H'): ∀{σ:List (Option D)} {σv:List (Option V)},Sl G ρ H σ σv→(∀l∈z06 σ,ρ' l=ρ l∧∀o,H (ρ l)=some o→H' (ρ l)=some o)→Sl G ρ' H' σ σv
 |[],_,h,_=>h
 |none::r,_,h,hl=>by
  simp only[Sl,z06] at h hl⊢
  obtain⟨o,q,e,h⟩:=h
  exact⟨o,q,e,Sl.stay ts h hl⟩
 |some d::r,_,h,hl=>by
  simp only[Sl,z06] at h hl⊢
  obtain⟨o,q,e,h1,h⟩:=h
  exact⟨o,q,e,RD.stay ts d o h1 fun l hk=>hl l (List.mem_append_left _ hk),Sl.stay ts h fun l hk=>hl l (List.mem_append_right _ hk)⟩
theorem Sl.rp{f:Nat→Option D}(ts:z0H H H'): ∀{σ:List (Option D)} {σv:List (Option V)},Sl G ρ H σ σv→
 (∀l∈z06 σ,ρ' l=ρ l∧(match f l with|some d=>RD G ρ' H' d (.ref (ρ l))|none=> ∀o,H (ρ l)=some o→H' (ρ l)=some o))→Sl G ρ' H' (rpO f σ) σv
 |[],_,h,_=>h
 |none::r,_,h,hl=>by
  simp only[Sl,z06,rpO] at h hl⊢
  obtain⟨o,q,e,h⟩:=h
  exact⟨o,q,e,Sl.rp ts h hl⟩
 |some d::r,_,h,hl=>by
  simp only[Sl,z06,rpO] at h hl⊢
  obtain⟨o,q,e,h1,h⟩:=h
  exact⟨o,q,e,RD.rp ts d o h1 fun l hk=>hl l (List.mem_append_left _ hk),Sl.rp ts h fun l hk=>hl l (List.mem_append_right _ hk)⟩
theorem Sl.get: ∀{σ:List (Option D)} {σv:List (Option V)},Sl G ρ H σ σv→∀(i:Nat) (d:D),σ[i]? =some (some d)→∃v,σv[i]? =some (some v)∧RD G ρ H d v
 |[],_,_,i,d,e=>by simp at e
 |none::r,_,h,i,d,e=>by
  simp only[Sl] at h
  obtain⟨o,q,rfl,h⟩:=h
  cases i with
  |zero=>simp at e
  |succ i=>simpa using Sl.get h i d (by simpa using e)
 |some d'::r,_,h,i,d,e=>by
  simp only[Sl] at h
  obtain⟨v,q,rfl,h1,h⟩:=h
  cases i with
  |zero=>simp at e;subst e;exact⟨v,rfl,h1⟩
  |succ i=>simpa using Sl.get h i d (by simpa using e)
theorem Sl.length: ∀{σ:List (Option D)} {σv:List (Option V)},Sl G ρ H σ σv→σ.length=σv.length
 |[],_,h=>by simp only[Sl] at h;subst h;rfl
 |none::r,_,h=>by
  simp only[Sl] at h
  obtain⟨o,q,rfl,h⟩:=h
  simp[Sl.length h]
 |some d'::r,_,h=>by
  simp only[Sl] at h
  obtain⟨v,q,rfl,h1,h⟩:=h
  simp[Sl.length h]
theorem Sl.set: ∀{σ:List (Option D)} {σv:List (Option V)} (i:Nat),Sl G ρ H σ σv→RD G ρ H t v→Sl G ρ H (σ.set i (some t)) (σv.set i (some v))
 |[],_,i,h,_=>by simp only[Sl] at h;subst h;simp[Sl]
 |none::r,_,i,h,ht=>by
  simp only[Sl] at h
  obtain⟨o,q,rfl,h⟩:=h
  cases i with
  |zero=>simp only[List.set_cons_zero,Sl];exact⟨_,_,rfl,ht,h⟩
  |succ i=>simp only[List.set_cons_succ,Sl];exact⟨_,_,rfl,Sl.set i h ht⟩
 |some d'::r,_,i,h,ht=>by
  simp only[Sl] at h
  obtain⟨v',q,rfl,h1,h⟩:=h
  cases i with
  |zero=>simp only[List.set_cons_zero,Sl];exact⟨_,_,rfl,ht,h⟩
  |succ i=>simp only[List.set_cons_succ,Sl];exact⟨_,_,rfl,h1,Sl.set i h ht⟩
theorem Sl.append: ∀{σ σ':List (Option D)} {σv σv':List (Option V)},Sl G ρ H σ σv→Sl G ρ H σ' σv'→Sl G ρ H (σ++σ') (σv++σv')
 |[],_,_,_,h,h'=>by simp only[Sl] at h;subst h;exact h'
 |none::r,_,_,_,h,h'=>by
  simp only[Sl] at h
  obtain⟨o,q,rfl,h⟩:=h
  simp only[List.cons_append,Sl];exact⟨_,_,rfl,Sl.append h h'⟩
 |some d'::r,_,_,_,h,h'=>by
  simp only[Sl] at h
  obtain⟨v,q,rfl,h1,h⟩:=h
  simp only[List.cons_append,Sl];exact⟨_,_,rfl,h1,Sl.append h h'⟩
theorem Sl.split: ∀(σv:List (Option V)) {σ:List (Option D)} {tv:List (Option V)},Sl G ρ H σ (σv++tv)→Sl G ρ H (σ.take σv.length) σv∧Sl G ρ H (σ.drop σv.length) tv
 |[],σ,tv,h=>⟨by simp[Sl],by simpa using h⟩
 |o::σv,[],tv,h=>by simp[Sl] at h
 |o::σv,none::r,tv,h=>by
  simp only[List.cons_append,Sl] at h
  obtain⟨o',q,e,h⟩:=h
  cases e
  obtain⟨h1,h2⟩:=Sl.split σv h
  simp only[List.length_cons,List.take_succ_cons,List.drop_succ_cons,Sl]
  exact⟨⟨_,_,rfl,h1⟩,h2⟩
 |o::σv,some d::r,tv,h=>by
  simp only[List.cons_append,Sl] at h
  obtain⟨o',q,e,h0,h⟩:=h
  cases e
  obtain⟨h1,h2⟩:=Sl.split σv h
  simp only[List.length_cons,List.take_succ_cons,List.drop_succ_cons,Sl]
  exact⟨⟨_,_,rfl,h0,h1⟩,h2⟩
theorem z1t: ∀{σ:List (Option D)} {i:Nat} {d:D},σ[i]? =some (some d)→∀l∈labs d,l∈z06 σ
 |[],i,d,e,l,h=>by simp at e
 |none::r,i,d,e,l,h=>by
  simp only[z06]
  cases i with
  |zero=>simp at e
  |succ i=>exact z1t (i:=i) (by simpa using e) l h
 |some d'::r,i,d,e,l,h=>by
  simp only[z06]
  cases i with
  |zero=>simp at e;subst e;exact List.mem_append_left _ h
  |succ i=>exact List.mem_append_right _ (z1t (i:=i) (by simpa using e) l h)
theorem z2c: ∀{σ:List (Option D)} {i:Nat} {d:D} (l:Nat),l∈z06 (σ.set i (some d))→l∈z06 σ∨l∈labs d
 |[],i,d,l,h=>by simp[z06] at h
 |none::r,i,d,l,h=>by
  cases i with
  |zero=>
   simp only[List.set_cons_zero,z06] at h⊢
   rcases List.mem_append.mp h with h|h
   ·exact .inr h
   ·exact .inl h
  |succ i=>
   simp only[List.set_cons_succ,z06] at h⊢
   exact z2c l h
 |some d'::r,i,d,l,h=>by
  cases i with
  |zero=>
   simp only[List.set_cons_zero,z06] at h⊢
   rcases List.mem_append.mp h with h|h
   ·exact .inr h
   ·exact .inl (List.mem_append_right _ h)
  |succ i=>
   simp only[List.set_cons_succ,z06] at h⊢
   rcases List.mem_append.mp h with h|h
   ·exact .inl (List.mem_append_left _ h)
   ·rcases z2c l h with q|q
    ·exact .inl (List.mem_append_right _ q)
    ·exact .inr q
theorem z08: ∀(σ σ':List (Option D)),z06 (σ++σ')=z06 σ++z06 σ'
 |[],_=>rfl
 |none::r,σ'=>by simp only[List.cons_append,z06,z08 r σ']
 |some d::r,σ'=>by simp only[List.cons_append,z06,z08 r σ',List.append_assoc]
theorem z0n: ∀(σ σ':List D),z00 (σ++σ')=z00 σ++z00 σ'
 |[],_=>rfl
 |d::r,σ'=>by simp only[List.cons_append,z00,z0n r σ',List.append_assoc]
theorem labsL_mem: ∀{ds:List D} {d:D},d∈ds→∀l∈labs d,l∈z00 ds
 |_::ds,d,h,l,hl=>by
  simp only[z00]
  rcases List.mem_cons.mp h with rfl|h
  ·exact List.mem_append_left _ hl
  ·exact List.mem_append_right _ (labsL_mem h l hl)
theorem z0I: ∀{ds:List D} {l:Nat},l∈z00 ds→∃d∈ds,l∈labs d
 |d::ds,l,h=>by
  simp only[z00] at h
  rcases List.mem_append.mp h with h|h
  ·exact⟨d,List.mem_cons_self ..,h⟩
  ·obtain⟨x,h1,h2⟩:=z0I h
   exact⟨x,List.mem_cons_of_mem _ h1,h2⟩
theorem RDs.get: ∀{ds:List D} {xs:List V},RDs G ρ H ds xs→∀(i:Nat) (d:D),ds[i]? =some d→∃x,xs[i]? =some x∧RD G ρ H d x
 |[],_,_,i,d,e=>by simp at e
 |d'::r,_,h,i,d,e=>by
  simp only[RDs] at h
  obtain⟨x,q,rfl,h1,h2⟩:=h
  cases i with
  |zero=>simp at e;subst e;exact⟨x,rfl,h1⟩
  |succ i=>simpa using RDs.get h2 i d (by simpa using e)
theorem RDs.length: ∀{ds:List D} {xs:List V},RDs G ρ H ds xs→ds.length=xs.length
 |[],_,h=>by simp only[RDs] at h;subst h;rfl
 |d'::r,_,h=>by
  simp only[RDs] at h
  obtain⟨x,q,rfl,h1,h2⟩:=h
  simp[RDs.length h2]
theorem RDs.append: ∀{ds es:List D} {xs ys:List V},RDs G ρ H ds xs→RDs G ρ H es ys→RDs G ρ H (ds++es) (xs++ys)
 |[],_,_,_,h,h'=>by simp only[RDs] at h;subst h;exact h'
 |d'::r,_,_,_,h,h'=>by
  simp only[RDs] at h
  obtain⟨x,q,rfl,h1,h2⟩:=h
  simp only[List.cons_append,RDs]
  exact⟨_,_,rfl,h1,RDs.append h2 h'⟩
theorem RDs.one{d:D}{x:V}(h:RD G ρ H d x):RDs G ρ H [d] [x]:=by simp only[RDs];exact⟨_,_,rfl,h,rfl⟩
theorem RDs.take: ∀{ds:List D} {xs:List V} (k:Nat),RDs G ρ H ds xs→RDs G ρ H (ds.take k) (xs.take k)
 |_,_,0,_=>by simp[RDs]
 |[],_,k+1,h=>by simp only[RDs] at h;subst h;simp[RDs]
 |d'::r,_,k+1,h=>by
  simp only[RDs] at h
  obtain⟨x,q,rfl,h1,h2⟩:=h
  simp only[List.take_succ_cons,RDs]
  exact⟨_,_,rfl,h1,RDs.take k h2⟩
theorem RDs.drop: ∀{ds:List D} {xs:List V} (k:Nat),RDs G ρ H ds xs→RDs G ρ H (ds.drop k) (xs.drop k)
 |_,_,0,h=>h
 |[],_,k+1,h=>by simp only[RDs] at h;subst h;simp[RDs]
 |d'::r,_,k+1,h=>by
  simp only[RDs] at h
  obtain⟨x,q,rfl,h1,h2⟩:=h
  simp only[List.drop_succ_cons]
  exact RDs.drop k h2
theorem RDs.set: ∀{ds:List D} {xs:List V} (k:Nat),RDs G ρ H ds xs→RD G ρ H t v→RDs G ρ H (ds.set k t) (xs.set k v)
 |[],_,k,h,_=>by simp only[RDs] at h;subst h;simp[RDs]
 |d'::r,_,0,h,ht=>by
  simp only[RDs] at h
  obtain⟨x,q,rfl,h1,h2⟩:=h
  simp only[List.set_cons_zero,RDs];exact⟨_,_,rfl,ht,h2⟩
 |d'::r,_,k+1,h,ht=>by
  simp only[RDs] at h
  obtain⟨x,q,rfl,h1,h2⟩:=h
  simp only[List.set_cons_succ,RDs];exact⟨_,_,rfl,h1,RDs.set k h2 ht⟩
theorem MR.pop{o:Option V}{r:Option D}(M:MR G F ρ H σv (o::tv) {s with tm:=r::s.tm}):MR G F ρ H σv tv s where
 sl:=M.sl
 tm:=by
  have h:=M.tm
  cases r with
  |none=>simp only[Sl] at h;obtain⟨_,_,e,h⟩:=h;cases e;exact h
  |some t=>simp only[Sl] at h;obtain⟨_,_,e,_,h⟩:=h;cases e;exact h
 inj:=M.inj
 dom:=M.dom
 lab:=fun l h=>M.lab l (by
  rcases List.mem_append.mp h with h|h
  ·exact List.mem_append_left _ h
  ·refine List.mem_append_right _ ?_
   cases r with
   |none=>exact h
   |some t=>exact List.mem_append_right _ h)
 own:=fun l h=>M.own l (by
  rcases List.mem_append.mp h with h|h
  ·exact List.mem_append_left _ h
  ·refine List.mem_append_right _ ?_
   cases r with
   |none=>exact h
   |some t=>exact List.mem_append_right _ h)
 frm:=M.frm
 kd:=M.kd
 frb:=M.frb
 bas:=M.bas
theorem MR.top(M:MR G F ρ H σv (some v::tv) (s.psh t)):RD G ρ H t v:=by
 have h:=M.tm
 have h:Sl G ρ H (some t::s.tm) (some v::tv):=h
 simp only[Sl] at h
 obtain⟨_,_,e,h,_⟩:=h
 cases e
 exact h
theorem MR.topl(M:MR G F ρ H σv tv (s.psh t)): ∀l∈labs t,l<s.n∧(F.A0 (ρ l)∨F.H0 (ρ l)=none):=fun l h=>
 have m:l∈z0v (s.psh t):=List.mem_append_right _ (List.mem_append_left _ h)
 ⟨M.lab l m,M.own l m⟩
theorem MR.same(M:MR G F ρ H σv tv s)(h:Same H H')(k:KD G.K H'):MR G F ρ H' σv tv s where
 sl:=Sl.stay (z0H.of h) M.sl fun l _=>⟨rfl,fun o e=>h _ _ e⟩
 tm:=Sl.stay (z0H.of h) M.tm fun l _=>⟨rfl,fun o e=>h _ _ e⟩
 inj:=M.inj
 dom:=fun l hl=>let⟨o,e⟩:=M.dom l hl;⟨o,h _ _ e⟩
 lab:=M.lab
 own:=M.own
 frm:=fun a o e=>let⟨⟨o',e1⟩,e2⟩:=M.frm a o e;⟨⟨o',h _ _ e1⟩,fun n=>h _ _ (e2 n)⟩
 kd:=k
 frb:=M.frb
 bas:=M.bas
theorem RDs.same{ts:List D}{vs:List V}(h:Same H H')(r:RDs G ρ H ts vs):RDs G ρ H' ts vs:=RDs.stay (z0H.of h) ts vs r fun l _=>⟨rfl,fun o e=>h _ _ e⟩
noncomputable def ext(ρ:Nat→Addr)(n:Nat)(p:Addr):Nat→Addr:=fun l=>if l=n then p else ρ l
theorem z0d{n l:Nat}{p:Addr}(h:l<n):ext ρ n p l=ρ l:=by unfold ext;rw[if_neg (by omega)]
theorem z0x{n:Nat}{p:Addr}:ext ρ n p n=p:=by unfold ext;rw[if_pos rfl]
theorem MR.new{p:Addr}{o:HO}(M:MR G F ρ H σv tv s)(hp:H p=none)(k:KD G.K (upd H p o)):MR G F (ext ρ s.n p) (upd H p o) σv tv s.nxt where
 sl:=Sl.stay (z0H.of (Same.new o hp)) M.sl fun l hl=>⟨z0d (M.lab l (List.mem_append_left _ hl)),fun o e=>Same.new _ hp _ _ e⟩
 tm:=Sl.stay (z0H.of (Same.new o hp)) M.tm fun l hl=>⟨z0d (M.lab l (List.mem_append_right _ hl)),fun o e=>Same.new _ hp _ _ e⟩
 inj:=fun i j hi hj e=>by
  have hi:i<s.n+1:=hi
  have hj:j<s.n+1:=hj
  have nn: ∀i,i<s.n→ρ i≠p:=fun i h e=>by
   obtain⟨o,q⟩:=M.dom i h
   rw[e,hp] at q;cases q
  by_cases h1:i=s.n
  ·by_cases h2:j=s.n
   ·omega
   ·rw[h1,z0x,z0d (by omega)] at e
    exact absurd e.symm (nn j (by omega))
  ·by_cases h2:j=s.n
   ·rw[h2,z0x,z0d (by omega)] at e
    exact absurd e (nn i (by omega))
   ·rw[z0d (by omega),z0d (by omega)] at e
    exact M.inj i j (by omega) (by omega) e
 dom:=fun l hl=>by
  have hl:l<s.n+1:=hl
  by_cases h1:l=s.n
  ·subst h1;rw[z0x];exact⟨o,z09⟩
  ·rw[z0d (by omega)]
   obtain⟨o',e⟩:=M.dom l (by omega)
   exact⟨o',Same.new _ hp _ _ e⟩
 lab:=fun l h=>Nat.lt_succ_of_lt (M.lab l h)
 own:=fun l h=>by rw[z0d (M.lab l h)];exact M.own l h
 frm:=fun a o e=>let⟨⟨o',e1⟩,e2⟩:=M.frm a o e;⟨⟨o',Same.new _ hp _ _ e1⟩,fun n=>Same.new _ hp _ _ (e2 n)⟩
 kd:=k
 frb:=fun l hl=>by
  have hl:l<s.n+1:=hl
  by_cases h1:l=s.n
  ·subst h1;rw[z0x]
   intro z
   obtain⟨⟨o,e⟩,_⟩:=F.zA p z
   obtain⟨⟨o',e'⟩,_⟩:=M.frm p o e
   rw[hp] at e';cases e'
  ·rw[z0d (by omega)]
   exact M.frb l (by omega)
 bas:=⟨Nat.le_succ_of_le M.bas.1,fun l hl=>by rw[z0d (Nat.lt_of_lt_of_le hl M.bas.1)];exact M.bas.2 l hl⟩
theorem MR.fresh0{p:Addr}(M:MR G F ρ H σv tv s)(hp:H p=none):F.H0 p=none:=by
 cases q:F.H0 p with
 |none=>rfl
 |some o=>
  obtain⟨⟨o',e⟩,_⟩:=M.frm p o q
  rw[hp] at e;cases e
noncomputable def Stt.put(s:Stt)(l:Nat)(d:D):Stt:={s with σ:=rpO (fun k=>if k=l then some d else none) s.σ,tm:=rpO (fun k=>if k=l then some d else none) s.tm}
end
end Mi
namespace Mi
open PySem L2
inductive Res(α:Type) where
 |ok (a:α) (s:Stt)|ex (d:D) (s:Stt)|no
noncomputable abbrev M(α:Type):=Stt→Res α
noncomputable def bd{α β:Type}(m:M α)(f:α→M β):M β:=fun s=>match m s with
 | .ok a s'=>f a s'
 | .ex d s'=> .ex d s'
 | .no=> .no
noncomputable def rt{α:Type}(a:α):M α:=fun s=> .ok a s
noncomputable def fl{α:Type}:M α:=fun _=> .no
noncomputable def psh(t:D):M Unit:=fun s=> .ok () (s.psh t)
noncomputable def pop:M D:=fun s=>match s.tm with
 |some t::r=> .ok t {s with tm:=r}
 |_=> .no
structure Fy extends Fx where
 tv0:List (Option V)
 xw:D→Stt→Prop
structure MRL(G:Gx)(F:Fx)(ρ:Nat→Addr)(H:Hp)(σv tv:List (Option V))(s:Stt)(ts:List D)(vs:List V):Prop where
 m:MR G F ρ H σv tv s
 rd:RDs G ρ H ts vs
 lb: ∀l∈z00 ts,l<s.n∧(F.A0 (ρ l)∨F.H0 (ρ l)=none)
section
variable{G:Gx}{F:Fy}{ρ ρ':Nat→Addr}{H H':Hp}{σv tv:List (Option V)}{s:Stt}{t t':D}{v u:V}{ts:List D}{vs:List V}{Q:VK}
theorem MRL.rd1(M:MRL G F.toFx ρ H σv tv s [t] [v]):RD G ρ H t v:=by
 have h:=M.rd
 simp only[RDs] at h
 obtain⟨_,_,e,h,_⟩:=h
 cases e;exact h
theorem MRL.rd2(M:MRL G F.toFx ρ H σv tv s [t,t'] [v,u]):RD G ρ H t v∧RD G ρ H t' u:=by
 have h:=M.rd
 simp only[RDs] at h
 obtain⟨_,_,e,h,_,_,e',h',_⟩:=h
 cases e;cases e';exact⟨h,h'⟩
theorem MRL.push(M:MRL G F.toFx ρ H σv tv s [t] [v]):MR G F.toFx ρ H σv (some v::tv) (s.psh t):=by
 have hl: ∀l∈labs t,l<s.n∧(F.A0 (ρ l)∨F.H0 (ρ l)=none):=fun l h=>M.lb l (by simp only[z00,List.append_nil];exact h)
 refine⟨M.m.sl, ?_,M.m.inj,M.m.dom,fun l h=> ?_,fun l h=> ?_,M.m.frm,M.m.kd,M.m.frb,M.m.bas⟩
 ·show Sl G ρ H (some t::s.tm) _
  simp only[Sl]
  exact⟨v,tv,rfl,M.rd1,M.m.tm⟩
 ·have h:l∈z06 s.σ++(labs t++z06 s.tm):=h
  rcases List.mem_append.mp h with h|h
  ·exact M.m.lab l (List.mem_append_left _ h)
  ·rcases List.mem_append.mp h with h|h
   ·exact(hl l h).1
   ·exact M.m.lab l (List.mem_append_right _ h)
 ·have h:l∈z06 s.σ++(labs t++z06 s.tm):=h
  rcases List.mem_append.mp h with h|h
  ·exact M.m.own l (List.mem_append_left _ h)
  ·rcases List.mem_append.mp h with h|h
   ·exact(hl l h).2
   ·exact M.m.own l (List.mem_append_right _ h)
theorem MRL.down{s':Stt}{r:List (Option D)}(M:MRL G F.toFx ρ H σv (some v::tv) s' ts vs)(e:s'.tm=some t::r):MRL G F.toFx ρ H σv tv {s' with tm:=r} (t::ts) (v::vs):=by
 obtain⟨σ,tm,n⟩:=s'
 have e:tm=some t::r:=e
 subst e
 refine⟨MR.pop (s:=⟨σ,r,n⟩) M.m, ?_,fun l h=> ?_⟩
 ·simp only[RDs]
  exact⟨v,vs,rfl,MR.top (s:=⟨σ,r,n⟩) M.m,M.rd⟩
 ·simp only[z00] at h
  rcases List.mem_append.mp h with h|h
  ·exact MR.topl (s:=⟨σ,r,n⟩) M.m l h
  ·exact M.lb l h
noncomputable def wM(G:Gx)(F:Fy)(σv tv:List (Option V))(r:Res D)(Q:VK):Prop:=match r with
 | .ok t s'=> ∀ρ' v H',MRL G F.toFx ρ' H' σv tv s' [t] [v]→Q v H'
 | .ex d s'=>F.xw d s'
 | .no=>False
noncomputable def wL(G:Gx)(F:Fy)(σv tv:List (Option V))(r:Res (List D))(Q:List V→Hp→Prop):Prop:=match r with
 | .ok ts s'=> ∀ρ' vs H',MRL G F.toFx ρ' H' σv tv s' ts vs→Q vs H'
 | .ex d s'=>F.xw d s'
 | .no=>False
noncomputable def wB(G:Gx)(F:Fy)(σv tv:List (Option V))(r:Res Bool)(Q:Bool→Hp→Prop):Prop:=match r with
 | .ok b s'=> ∀ρ' H',MR G F.toFx ρ' H' σv tv s'→Q b H'
 | .ex d s'=>F.xw d s'
 | .no=>False
noncomputable def tMv(G:Gx)(F:Fy)(m:M D)(σv tv:List (Option V))(H:Hp)(Q:VK):Prop:=F.tv0<:+tv∧∃ρ s,MR G F.toFx ρ H σv tv s∧wM G F σv tv (m s) Q
noncomputable def tLv(G:Gx)(F:Fy)(m:M (List D))(σv tv:List (Option V))(H:Hp)(Q:List V→Hp→Prop):Prop:=F.tv0<:+tv∧∃ρ s,MR G F.toFx ρ H σv tv s∧wL G F σv tv (m s) Q
noncomputable def tBv(G:Gx)(F:Fy)(m:M Bool)(σv tv:List (Option V))(H:Hp)(Q:Bool→Hp→Prop):Prop:=F.tv0<:+tv∧∃ρ s,MR G F.toFx ρ H σv tv s∧wB G F σv tv (m s) Q
noncomputable def tM(G:Gx)(F:Fy)(m:M D):TE:=fun σv H Q=> ∃tv,tMv G F m σv tv H Q
noncomputable def tML(G:Gx)(F:Fy)(m:M (List D)):TA:=fun σv H Q=> ∃tv,tLv G F m σv tv H Q
noncomputable def tMB(G:Gx)(F:Fy)(m:M Bool):TT:=fun σv H Q=> ∃tv,tBv G F m σv tv H Q
noncomputable def SE(X:Cx)(G:Gx)(F:Fy)(e:Expr)(m:M D):Prop:=PE X e (tM G F m)
noncomputable def SA(X:Cx)(G:Gx)(F:Fy)(es:List Expr)(m:M (List D)):Prop:=PA X es (tML G F m)
noncomputable def SB(X:Cx)(G:Gx)(F:Fy)(e:Expr)(m:M Bool):Prop:=PT X e (tMB G F m)
theorem suf1{o:Option V}(h:F.tv0<:+tv):F.tv0<:+o::tv:=h.trans (List.suffix_cons _ _)
theorem z3m{m:M D}{f:D→M D}(h:tMv G F (bd m f) σv tv H Q):tMv G F m σv tv H (fun v H1=> ∃ρ1 s1 t,MRL G F.toFx ρ1 H1 σv tv s1 [t] [v]∧wM G F σv tv (f t s1) Q):=by
 obtain⟨hs,ρ,s,M,W⟩:=h
 refine⟨hs,ρ,s,M, ?_⟩
 unfold bd at W
 cases e:m s with
 |ok t s1=>rw[e] at W;exact fun ρ1 v H1 M1=>⟨ρ1,s1,t,M1,W⟩
 |ex d s1=>rw[e] at W;exact W
 |no=>rw[e] at W;exact W
noncomputable def mBin(ma mb:M D)(g:D→D→M D):M D:=bd ma fun x=>bd (psh x) fun _=>bd mb fun y=>bd pop fun x'=>g x' y
theorem z4v{ma mb:M D}{g:D→D→M D}(h:tMv G F (mBin ma mb g) σv tv H Q):
 tMv G F ma σv tv H (fun v H1=>tMv G F mb σv (some v::tv) H1 (fun u H2=> ∃ρ2 s2 t t',MRL G F.toFx ρ2 H2 σv tv s2 [t,t'] [v,u]∧wM G F σv tv (g t t' s2) Q)):=by
 have h':=z3m h
 obtain⟨hs,ρ,s,M,W⟩:=h'
 refine⟨hs,ρ,s,M, ?_⟩
 cases e:ma s with
 |ok t s1=>
  rw[e] at W
  intro ρ1 v H1 M1
  obtain⟨ρ1,s1,t,M1,W⟩:=W ρ1 v H1 M1
  refine⟨suf1 hs,ρ1,s1.psh t,M1.push, ?_⟩
  simp only[bd,psh] at W
  cases e2:mb (s1.psh t) with
  |ok y s2=>
   rw[e2] at W
   intro ρ2 u H2 M2
   simp only[pop] at W
   cases e3:s2.tm with
   |nil=>rw[e3] at W;exact W.elim
   |cons o r=>
    cases o with
    |none=>rw[e3] at W;exact W.elim
    |some t'=>
     rw[e3] at W
     exact⟨ρ2,{s2 with tm:=r},t',y,M2.down e3,W⟩
  |ex d s2=>rw[e2] at W;exact W
  |no=>rw[e2] at W;exact W
 |ex d s1=>rw[e] at W;exact W
 |no=>rw[e] at W;exact W
noncomputable def mArgs:List (M D)→M (List D)
 |[]=>rt []
 |m::ms=>bd m fun x=>bd (psh x) fun _=>bd (mArgs ms) fun ys=>bd pop fun x'=>rt (x'::ys)
end
section
variable{X:Cx}{G:Gx}{F:Fy}{e a b c:Expr}{pos:Pos}
theorem Inv.kd{pins:List (Addr×Obj)}{σ:St}{H:Hp}{s:Shared}(I:Inv X pins σ H s):KD X.K H:=fun a o e=>(I.bs a o (I.ok.mod.kin a o e)).2
theorem PE.imp{t t':TE}(hk:X.K=G.K)(h:PE X e t)(hi: ∀σ H Q,t' σ H Q→t σ H (fun v H'=>KD G.K H'→Q v H')):PE X e t':=fun pins s σ H Q I q=>
 thn (h pins s σ H _ I (hi σ H Q q)) fun u s' ⟨v,H',I',r,k⟩=>⟨v,H',I',r,k (hk▸Inv.kd I')⟩
theorem PT.imp{t t':TT}(hk:X.K=G.K)(h:PT X e t)(hi: ∀σ H Q,t' σ H Q→t σ H (fun v H'=>KD G.K H'→Q v H')):PT X e t':=fun pins s σ H Q I q=>
 thn (h pins s σ H _ I (hi σ H Q q)) fun u s' ⟨H',I',k⟩=>⟨H',I',k (hk▸Inv.kd I')⟩
theorem PA.imp{es:List Expr}{t t':TA}(hk:X.K=G.K)(h:PA X es t)(hi: ∀σ H Q,t' σ H Q→t σ H (fun v H'=>KD G.K H'→Q v H')):PA X es t':=fun pos pins s σ H Q I q=>
 thn (h pos pins s σ H _ I (hi σ H Q q)) fun u s' ⟨v,H',I',r,k⟩=>⟨v,H',I',r,k (hk▸Inv.kd I')⟩
noncomputable def OpOK(G:Gx)(F:Fy)(r:R2)(g:D→D→M D):Prop:= ∀ρ s t t' v u H σv tv Q,MRL G F.toFx ρ H σv tv s [t,t'] [v,u]→wM G F σv tv (g t t' s) Q→r v u H (fun w H'=>KD G.K H'→Q w H')
noncomputable def z2d(G:Gx)(F:Fy)(r:R2)(g:D→D→M D):Prop:= ∀ρ s t t' v u H σv tv Q,MRL G F.toFx ρ H σv tv s [t,t'] [v,u]→wM G F σv tv (g t t' s) Q→r v u H Q
noncomputable def UnOK(G:Gx)(F:Fy)(r:V→Hp→VK→Prop)(g:D→M D):Prop:= ∀ρ s t v H σv tv Q,MRL G F.toFx ρ H σv tv s [t] [v]→wM G F σv tv (g t s) Q→r v H (fun w H'=>KD G.K H'→Q w H')
noncomputable def z0R(G:Gx)(F:Fy)(r:List V→Hp→VK→Prop)(g:List D→M D):Prop:= ∀ρ s ts vs H σv tv Q,MRL G F.toFx ρ H σv tv s ts vs→wM G F σv tv (g ts s) Q→r vs H (fun w H'=>KD G.K H'→Q w H')
theorem z52{op:Operator}{r:R2}{ma mb:M D}{g:D→D→M D}(hk:X.K=G.K)(ho:OpR X (binaryOp op) r)(hg:OpOK G F r g)(ha:SE X G F a ma)(hb:SE X G F b mb):SE X G F (.BinOp a op b pos) (mBin ma mb g):=by
 refine PE.imp hk (zbJ ho ha hb) fun σ H Q ⟨tv,h⟩=>⟨tv, ?_⟩
 obtain⟨hs,ρ,s,M,W⟩:=z4v h
 refine⟨hs,ρ,s,M, ?_⟩
 cases e:ma s with
 |ok t s1=>
  rw[e] at W
  intro ρ1 v H1 M1
  refine⟨some v::tv, ?_⟩
  obtain⟨hs2,ρ2,s2,M2,W2⟩:=W ρ1 v H1 M1
  refine⟨hs2,ρ2,s2,M2, ?_⟩
  cases e2:mb s2 with
  |ok t2 s3=>
   rw[e2] at W2
   intro ρ3 u H3 M3
   obtain⟨ρ4,s4,x,y,M4,W4⟩:=W2 ρ3 u H3 M3
   exact hg _ _ _ _ _ _ _ _ _ _ M4 W4
  |ex d s3=>rw[e2] at W2;exact W2
  |no=>rw[e2] at W2;exact W2
 |ex d s1=>rw[e] at W;exact W
 |no=>rw[e] at W;exact W
theorem wM.mono{σv tv:List (Option V)}{r:Res D}{Q Q':VK}(h:wM G F σv tv r Q)(k: ∀v H,Q v H→Q' v H):wM G F σv tv r Q':=by
 cases r with
 |ok t s=>exact fun ρ v H M=>k _ _ (h ρ v H M)
 |ex d s=>exact h
 |no=>exact h
theorem tMv.mono{m:M D}{σv tv:List (Option V)}{H:Hp}{Q Q':VK}(h:tMv G F m σv tv H Q)(k: ∀v H,Q v H→Q' v H):tMv G F m σv tv H Q':=by
 obtain⟨hs,ρ,s,M,W⟩:=h
 exact⟨hs,ρ,s,M,W.mono k⟩
theorem z8E{ma mb:M D}{g:D→D→M D}{R:V→V→Hp→VK→Prop}{σv:St}{H:Hp}{Q:VK}(hg:OpOK G F R g)(h:tM G F (mBin ma mb g) σv H Q):
 tM G F ma σv H fun x H1=>tM G F mb σv H1 fun y H2=>R x y H2 fun w H'=>KD G.K H'→Q w H':=by
 obtain⟨tv,h⟩:=h
 exact⟨tv,(z4v h).mono fun v H1 h1=>⟨_,h1.mono fun u H2 ⟨ρ,s,t,t',M,W⟩=>hg _ _ _ _ _ _ _ _ _ _ M W⟩⟩
theorem zaw{ma:M D}{g:D→M D}{R:V→Hp→VK→Prop}{σv:St}{H:Hp}{Q:VK}(hg:UnOK G F R g)(h:tM G F (bd ma g) σv H Q):
 tM G F ma σv H fun x H1=>R x H1 fun w H'=>KD G.K H'→Q w H':=by
 obtain⟨tv,h⟩:=h
 exact⟨tv,(z3m h).mono fun v H1 ⟨ρ,s,t,M,W⟩=>hg _ _ _ _ _ _ _ _ M W⟩
theorem zc0{op:UnaryOp}{r:V→Hp→VK→Prop}{ma:M D}{g:D→M D}(hk:X.K=G.K)(ho:UnR X (unaryOp op) r)(hg:UnOK G F r g)(ha:SE X G F a ma):SE X G F (.UnaryOp op a pos) (bd ma g):=
 PE.imp hk (zbK ho ha) fun _ _ _ h=>zaw hg h
theorem z7n{ma mb:M D}{g:D→D→M D}{R:V→V→Hp→VK→Prop}{σv:St}{H:Hp}{Q:VK}(hg:z2d G F R g)(h:tM G F (mBin ma mb g) σv H Q):
 tM G F ma σv H fun x H1=>tM G F mb σv H1 fun y H2=>R x y H2 Q:=by
 obtain⟨tv,h⟩:=h
 exact⟨tv,(z4v h).mono fun v H1 h1=>⟨_,h1.mono fun u H2 ⟨ρ,s,t,t',M,W⟩=>hg _ _ _ _ _ _ _ _ _ _ M W⟩⟩
theorem PE.imp0{t t':TE}(h:PE X e t)(hi: ∀σ H Q,t' σ H Q→t σ H Q):PE X e t':=fun pins s σ H Q I q=>h pins s σ H _ I (hi σ H Q q)
theorem PT.imp0{t t':TT}(h:PT X e t)(hi: ∀σ H Q,t' σ H Q→t σ H Q):PT X e t':=fun pins s σ H Q I q=>h pins s σ H _ I (hi σ H Q q)
theorem zc1{r:R2}{ma mb:M D}{g:D→D→M D}(hk:X.K=G.K)(ho:IxR X r)(hg:OpOK G F r g)(ha:SE X G F a ma)(hb:SE X G F b mb)(hs:z2L b):SE X G F (.Subscript a b pos) (mBin ma mb g):=
 PE.imp hk (zbT ho ha hb hs) fun _ _ _ h=>z8E hg h
theorem zax(hk:X.K=G.K):SA X G F [] (mArgs []):=by
 refine PA.imp hk z1O fun σ H Q ⟨tv,hs,ρ,s,M,W⟩ _=>W ρ [] H ⟨M,rfl,fun l h=>by simp[z00] at h⟩
noncomputable def nst:Expr→Bool
 | .Starred _ _=>false
 |_=>true
theorem z5M{es:List Expr}{env:Env}(h:nst e=true):starEach (e::es) env=(false,eval e env)::starEach es env:=by
 cases e<;>first|rfl|exact Bool.noConfusion h
theorem z8F{es:List Expr}{m:M D}{ms:List (M D)}(hk:X.K=G.K)(ha:SE X G F e m)(hr:SA X G F es (mArgs ms))(hs:nst e=true:=by rfl):SA X G F (e::es) (mArgs (m::ms)):=by
 refine PA.imp hk (z0a ha hr (z5M hs)) fun σ H Q ⟨tv,hs,ρ,s,M,W⟩=>⟨tv,hs,ρ,s,M, ?_⟩
 unfold mArgs at W
 simp only[bd,psh] at W
 cases e:m s with
 |ok t s1=>
  rw[e] at W
  intro ρ1 v H1 M1
  refine⟨some v::tv,suf1 hs,ρ1,s1.psh t,M1.push, ?_⟩
  dsimp only at W
  cases e2:mArgs ms (s1.psh t) with
  |ok ys s2=>
   rw[e2] at W
   intro ρ2 us H2 M2 _
   simp only[pop,rt] at W
   cases e3:s2.tm with
   |nil=>rw[e3] at W;exact W.elim
   |cons o r=>
    cases o with
    |none=>rw[e3] at W;exact W.elim
    |some t'=>
     rw[e3] at W
     exact W ρ2 (v::us) H2 (M2.down e3)
  |ex d s2=>rw[e2] at W;exact W
  |no=>rw[e2] at W;exact W
 |ex d s1=>rw[e] at W;exact W
 |no=>rw[e] at W;exact W
noncomputable def mCB(ms:List (M D))(g:List D→M D):M D:=bd (mArgs ms) g
theorem z1X{ma:M (List D)}{g:List D→M D}{R:List V→Hp→VK→Prop}{σv:St}{H:Hp}{Q:VK}(hg:z0R G F R g)(h:tM G F (bd ma g) σv H Q):
 tML G F ma σv H fun xs H1=>R xs H1 fun w H'=>KD G.K H'→Q w H':=by
 obtain⟨tv,hs,ρ,s,M,W⟩:=h
 refine⟨tv,hs,ρ,s,M, ?_⟩
 unfold bd at W
 cases e:ma s with
 |ok ts s1=>rw[e] at W;exact fun ρ1 vs H1 M1=>hg _ _ _ _ _ _ _ _ M1 W
 |ex d s1=>rw[e] at W;exact W
 |no=>rw[e] at W;exact W
theorem z7o{x:Str}{p:Pos}{es:List Expr}{ms:List (M D)}{g:List D→M D}{id:String}{r:List V→Hp→VK→Prop}(hk:X.K=G.K)(hc:CallR X (.builtin id) r)(hg:z0R G F r g)(hgl:Gl X x)(hm:X.mg x=none)(hv:bootBuiltins x=some (.builtin id))(ha:SA X G F (e::es) (mArgs ms))(hn:x≠ "__name__" :=by decide)(hdb:(x==("__debug__" :Str))=false:=by decide)
 (he:starEach (e::es) X.env=(false,eval e X.env)::starEach es X.env:=by rfl) (hpl:(backTo pos (starEach es X.env)).any (·.1)=false:=by rfl):SE X G F (.Call (.Name x p) (e::es) [] pos) (mCB ms g):=
 PE.imp hk (z1V hc hgl hm hv ha hn hdb he hpl) fun _ _ _ h=>z1X hg h
theorem z5N{x:Str}{p:Pos}{es:List Expr}{ms:List (M D)}{g:List D→M D}{T:String}{r:List V→Hp→VK→Prop}(hk:X.K=G.K)(hc:CallR X (.type T) r)(hg:z0R G F r g)(hgl:Gl X x)(hm:X.mg x=none)(hv:bootBuiltins x=some (.type T))(ha:SA X G F (e::es) (mArgs ms))(hn:x≠ "__name__" :=by decide)(hdb:(x==("__debug__" :Str))=false:=by decide)
 (he:starEach (e::es) X.env=(false,eval e X.env)::starEach es X.env:=by rfl) (hpl:(backTo pos (starEach es X.env)).any (·.1)=false:=by rfl):SE X G F (.Call (.Name x p) (e::es) [] pos) (mCB ms g):=
 PE.imp hk (z5z hc hgl hm hv ha hn hdb he hpl) fun _ _ _ h=>z1X hg h
noncomputable def mVar(i:Nat):M D:=fun s=>match s.σ[i]? with
 |some (some t)=> .ok t s
 |_=> .no
theorem se_var(i:Nat){x:Str}(hk:X.K=G.K)(h:PE X (.Name x pos) (tVar i)):SE X G F (.Name x pos) (mVar i):=by
 refine PE.imp hk h fun σ H Q ⟨tv,hs,ρ,s,M,W⟩=> ?_
 unfold mVar at W
 cases e:s.σ[i]? with
 |none=>rw[e] at W;exact W.elim
 |some o=>
  cases o with
  |none=>rw[e] at W;exact W.elim
  |some t=>
   rw[e] at W
   obtain⟨v,h1,h2⟩:=M.sl.get i t e
   refine⟨v,h1,fun _=>W ρ v H ⟨M,RDs.one h2,fun l hl=> ?_⟩⟩
   simp only[z00,List.append_nil] at hl
   have:=z1t e l hl
   exact⟨M.lab l (List.mem_append_left _ this),M.own l (List.mem_append_left _ this)⟩
noncomputable def cV:D→Option V
 | .non=>some .non| .bool b=>some (.bl b)| .int i=>some (.int i)| .str x=>some (.str x)|_=>none
theorem z53{d:D}{v:V}{ρ:Nat→Addr}{H:Hp}(h:cV d=some v):RD G ρ H d v∧labs d=[]:=by
 cases d<;>simp only[cV,Option.some.injEq] at h<;>first|(subst h;exact⟨by simp only[RD],by simp only[labs]⟩)|cases h
noncomputable def mC(d:D):M D:=rt d
theorem se_c{d:D}{v:V}(hk:X.K=G.K)(h:PE X e (tC v))(hd:cV d=some v:=by rfl):SE X G F e (mC d):=by
 refine PE.imp hk h fun σ H Q ⟨tv,hs,ρ,s,M,W⟩ _=>W ρ v H ⟨M,RDs.one (z53 hd).1,fun l hl=> ?_⟩
 simp only[z00,(z53 (G:=G) (ρ:=ρ) (H:=H) hd).2] at hl
 cases hl
theorem wM.out{σv tv:List (Option V)}{s:Stt}{t:D}{v:V}{ρ:Nat→Addr}{H:Hp}{Q:VK}(W:wM G F σv tv (.ok t s) Q)(M:MR G F.toFx ρ H σv tv s)(h:RD G ρ H t v)(hl: ∀l∈labs t,l<s.n∧(F.A0 (ρ l)∨F.H0 (ρ l)=none)):Q v H:=
 W ρ v H ⟨M,RDs.one h,fun l q=>hl l (by simpa only[z00,List.append_nil] using q)⟩
theorem wM.flat{σv tv:List (Option V)}{s:Stt}{t:D}{v:V}{ρ:Nat→Addr}{H:Hp}{Q:VK}(W:wM G F σv tv (.ok t s) Q)(M:MR G F.toFx ρ H σv tv s)(h:cV t=some v):Q v H:=
 W.out M (z53 h).1 fun l q=>by rw[(z53 (G:=G) (ρ:=ρ) (H:=H) h).2] at q;cases q
end
end Mi
namespace Mi
open PySem L2
mutual
noncomputable def er:D→PyData
 | .non=> .none| .bool b=> .bool b| .int i=> .int i| .str x=> .str x
 | .tup ds=> .tuple (erL ds)
 | .ro ds=> .list (erL ds)
 | .lst _ ds=> .list (erL ds)
 | .dct _ _ _=> .none
 | .obj _ _ _ _=> .none
 | .exc _=> .none| .fn _=> .none| .fdc _ _=> .none
noncomputable def erL:List D→List PyData
 |[]=>[]
 |d::ds=>er d::erL ds
end
mutual
noncomputable def plain:D→Bool
 | .non=>true| .bool _=>true| .int _=>true| .str _=>true
 | .tup ds=>z1Q ds
 | .ro ds=>z1Q ds
 | .lst _ ds=>z1Q ds
 | .dct _ _ _=>false
 | .obj _ _ _ _=>false
 | .exc _=>false| .fn _=>false| .fdc _ _=>false
noncomputable def z1Q:List D→Bool
 |[]=>true
 |d::ds=>plain d&&z1Q ds
end
noncomputable def seqD:D→Option (List D)
 | .tup ds=>some ds| .ro ds=>some ds| .lst _ ds=>some ds|_=>none
noncomputable def lstD:D→Option (List D)
 | .ro ds=>some ds| .lst _ ds=>some ds|_=>none
section
variable{G:Gx}{F:Fy}{ρ:Nat→Addr}{H H':Hp}{σv tv:List (Option V)}{s:Stt}{t t':D}{v u:V}{ts ds:List D}{vs xs:List V}{Q:VK}
mutual
theorem RD.dp: ∀(t:D) (v:V),RD G ρ H t v→plain t=true→Dp G.K H (er t) v
 | .non,v,h,_=>by simp only[RD,er,Dp] at h⊢;exact h
 | .bool b,v,h,_=>by simp only[RD,er,Dp] at h⊢;exact h
 | .int b,v,h,_=>by simp only[RD,er,Dp] at h⊢;exact h
 | .str b,v,h,_=>by simp only[RD,er,Dp] at h⊢;exact h
 | .tup ds,v,h,p=>by
  simp only[RD,er,Dp,plain] at h p⊢
  obtain⟨a,xs,e,s,r⟩:=h
  exact⟨a,xs,e,SqT.of s,RDs.dp ds xs r p⟩
 | .ro ds,v,h,p=>by
  simp only[RD,er,Dp,plain] at h p⊢
  obtain⟨a,xs,e,s,r⟩:=h
  exact⟨a,xs,e,s.sq,RDs.dp ds xs r p⟩
 | .lst l ds,v,h,p=>by
  simp only[RD,er,Dp,plain] at h p⊢
  obtain⟨e,xs,s,r⟩:=h
  exact⟨_,xs,e,SqL.of s,RDs.dp ds xs r p⟩
 | .dct l ks vs,v,h,p=>by simp only[plain] at p;cases p
 | .fdc ks vs,v,h,p=>by simp only[plain] at p;cases p
 | .obj l c ns vs,v,h,p=>by simp only[plain] at p;cases p
 | .exc c,v,h,p=>by simp only[plain] at p;cases p
 | .fn c,v,h,p=>by simp only[plain] at p;cases p
theorem RDs.dp: ∀(t:List D) (v:List V),RDs G ρ H t v→z1Q t=true→z1B G.K H (erL t) v
 |[],v,h,_=>by simp only[RDs,erL,z1B] at h⊢;exact h
 |d::ds,v,h,p=>by
  simp only[RDs,erL,z1B,z1Q,Bool.and_eq_true] at h p⊢
  obtain⟨x,r,e,h1,h2⟩:=h
  exact⟨x,r,e,RD.dp d x h1 p.1,RDs.dp ds r h2 p.2⟩
end
theorem RD.seq(h:RD G ρ H t v)(e:seqD t=some ds): ∃a xs,v= .ref a∧(SqL G.K H a xs∨SqT G.K H a xs)∧RDs G ρ H ds xs∧∀l∈z00 ds,l∈labs t:=by
 cases t<;>simp only[seqD,Option.some.injEq] at e<;>try cases e
 ·simp only[RD] at h
  obtain⟨a,xs,e,s,r⟩:=h
  exact⟨a,xs,e, .inr (SqT.of s),r,fun l hl=>by simp only[labs];exact hl⟩
 ·simp only[RD] at h
  obtain⟨a,xs,e,s,r⟩:=h
  exact⟨a,xs,e, .inl s.sq,r,fun l hl=>by simp only[labs];exact hl⟩
 ·simp only[RD] at h
  obtain⟨e,xs,s,r⟩:=h
  exact⟨_,xs,e, .inl (SqL.of s),r,fun l hl=>by simp only[labs];exact List.mem_cons_of_mem _ hl⟩
theorem RD.lstq(h:RD G ρ H t v)(e:lstD t=some ds): ∃a xs,v= .ref a∧SqL G.K H a xs∧RDs G ρ H ds xs∧∀l∈z00 ds,l∈labs t:=by
 cases t<;>simp only[lstD,Option.some.injEq] at e<;>try cases e
 ·simp only[RD] at h
  obtain⟨a,xs,e,s,r⟩:=h
  exact⟨a,xs,e,s.sq,r,fun l hl=>by simp only[labs];exact hl⟩
 ·simp only[RD] at h
  obtain⟨e,xs,s,r⟩:=h
  exact⟨_,xs,e,SqL.of s,r,fun l hl=>by simp only[labs];exact List.mem_cons_of_mem _ hl⟩
theorem RD.tupx(h:RD G ρ H (.tup ds) v): ∃a xs,v= .ref a∧H a=some (.tup xs)∧RDs G ρ H ds xs:=by
 simp only[RD] at h;exact h
theorem RD.tupq(h:RD G ρ H (.tup ds) v): ∃a xs,v= .ref a∧SqT G.K H a xs∧RDs G ρ H ds xs:=by
 obtain⟨a,xs,e,s,r⟩:=h.tupx
 exact⟨a,xs,e,SqT.of s,r⟩
theorem RD.seqx(h:RD G ρ H t v)(e:seqD t=some ds): ∃a xs,v= .ref a∧(SqL G.K H a xs∨H a=some (.tup xs))∧RDs G ρ H ds xs∧∀l∈z00 ds,l∈labs t:=by
 cases t<;>simp only[seqD,Option.some.injEq] at e<;>try cases e
 ·simp only[RD] at h
  obtain⟨a,xs,e,s,r⟩:=h
  exact⟨a,xs,e, .inr s,r,fun l hl=>by simp only[labs];exact hl⟩
 ·simp only[RD] at h
  obtain⟨a,xs,e,s,r⟩:=h
  exact⟨a,xs,e, .inl s.sq,r,fun l hl=>by simp only[labs];exact hl⟩
 ·simp only[RD] at h
  obtain⟨e,xs,s,r⟩:=h
  exact⟨_,xs,e, .inl (SqL.of s),r,fun l hl=>by simp only[labs];exact List.mem_cons_of_mem _ hl⟩
theorem MRL.lb1(M:MRL G F.toFx ρ H σv tv s [t] [v]): ∀l∈labs t,l<s.n∧(F.A0 (ρ l)∨F.H0 (ρ l)=none):=fun l h=>M.lb l (by simp only[z00,List.append_nil];exact h)
theorem MRL.lb2(M:MRL G F.toFx ρ H σv tv s [t,t'] [v,u]):(∀l∈labs t,l<s.n∧(F.A0 (ρ l)∨F.H0 (ρ l)=none))∧(∀l∈labs t',l<s.n∧(F.A0 (ρ l)∨F.H0 (ρ l)=none)):=
 ⟨fun l h=>M.lb l (by simp only[z00,List.append_nil];exact List.mem_append_left _ h),fun l h=>M.lb l (by simp only[z00,List.append_nil];exact List.mem_append_right _ h)⟩
noncomputable abbrev LB(F:Fx)(ρ:Nat→Addr)(n:Nat)(ls:List Nat):Prop:= ∀l∈ls,l<n∧(F.A0 (ρ l)∨F.H0 (ρ l)=none)
theorem z2Q(W:wM G F σv tv (.ok (.tup ds) s) Q)(M:MR G F.toFx ρ H σv tv s)(r:RDs G ρ H ds xs)(lb:LB F.toFx ρ s.n (z00 ds)):NewX G.K H xs (fun w H'=>KD G.K H'→Q w H'):=by
 refine NewX.intro fun p H' sq sm k=> ?_
 exact W.out (M.same sm k) (by simp only[RD];exact⟨p,xs,rfl,sq,r.same sm⟩) (by simp only[labs];exact lb)
theorem z5O{p:Addr}(W:wM G F σv tv (.ok (.tup ds) s) Q)(M:MR G F.toFx ρ H σv tv s)(r:RDs G ρ H ds xs)(lb:LB F.toFx ρ s.n (z00 ds))(hp:H p=none)(k:KD G.K (upd H p (.tup xs))):Q (.ref p) (upd H p (.tup xs)):=by
 have sm:=Same.new (.tup xs) hp
 exact W.out (M.same sm k) (by simp only[RD];exact⟨p,xs,rfl,z09,r.same sm⟩) (by simp only[labs];exact lb)
theorem RDs.ext{p:Addr}{o:HO}(M:MR G F.toFx ρ H σv tv s)(r:RDs G ρ H ds xs)(lb:LB F.toFx ρ s.n (z00 ds))(hp:H p=none):RDs G (ext ρ s.n p) (upd H p o) ds xs:=
 RDs.stay (z0H.of (Same.new o hp)) ds xs r fun l hl=>⟨z0d (lb l hl).1,fun o e=>Same.new _ hp _ _ e⟩
theorem z1e{p:Addr}(W:wM G F σv tv (.ok (.lst s.n ds) s.nxt) Q)(M:MR G F.toFx ρ H σv tv s)(r:RDs G ρ H ds xs)(lb:LB F.toFx ρ s.n (z00 ds))(hp:H p=none)(k:KD G.K (upd H p (.lst xs))):Q (.ref p) (upd H p (.lst xs)):=by
 refine W.out (M.new hp k) ?_ fun l hl=> ?_
 ·simp only[RD]
  rw[z0x]
  exact⟨rfl,xs,z09,RDs.ext M r lb hp⟩
 ·simp only[labs] at hl
  rcases List.mem_cons.mp hl with q|q
  ·rw[q]
   exact⟨Nat.lt_succ_self _,by rw[z0x];exact .inr (M.fresh0 hp)⟩
  ·obtain⟨h1,h2⟩:=lb l q
   exact⟨Nat.lt_succ_of_lt h1,by rw[z0d h1];exact h2⟩
end
noncomputable def newL(ds:List D):M D:=fun s=> .ok (.lst s.n ds) s.nxt
noncomputable def addD:D→D→M D
 | .int i, .int j=>rt (.int (i+j))
 | .tup a, .tup b=>if a.length+b.length≤sizeLine then rt (.tup (a++b)) else fl
 | .lst _ a, .lst _ b=>if a.length+b.length≤sizeLine then newL (a++b) else fl
 | .str a, .str b=>if a.length+b.length≤sizeLine then rt (.str (a++b)) else fl
 |_,_=>fl
noncomputable def subD:D→D→M D
 | .int i, .int j=>rt (.int (i -j))
 |_,_=>fl
instance(i j:Int):Decidable (CMul i j):=by unfold CMul;infer_instance
instance(i j:Int):Decidable (CDiv i j):=by unfold CDiv;infer_instance
instance(i j:Int):Decidable (CPow i j):=by unfold CPow;infer_instance
noncomputable def mulD:D→D→M D
 | .int i, .int j=>if CMul i j then rt (.int (i*j)) else fl
 | .lst _ a, .int k=>if -(2^63)≤k∧k<2^63∧a.length*k.toNat≤sizeLine then newL (List.flatten (List.replicate k.toNat a)) else fl
 | .tup a, .int k=>if 0<a.length∧2≤k∧k<2^63∧a.length*k.toNat≤sizeLine then rt (.tup (List.flatten (List.replicate k.toNat a))) else fl
 |_,_=>fl
noncomputable def z1u:D→D→M D
 | .int i, .int j=>if CDiv i j then rt (.int (i/j)) else fl
 |_,_=>fl
noncomputable def modD:D→D→M D
 | .int i, .int j=>if 0<j then rt (.int (i %j)) else fl
 |_,_=>fl
noncomputable def powD:D→D→M D
 | .int i, .int j=>if CPow i j then rt (.int (i^j.toNat)) else fl
 |_,_=>fl
noncomputable def ltD:D→D→M D
 | .int i, .int j=>rt (.bool (decide (i<j)))
 |_,_=>fl
noncomputable def leD:D→D→M D
 | .int i, .int j=>rt (.bool (decide (i≤j)))
 |_,_=>fl
noncomputable def gtD:D→D→M D
 | .int i, .int j=>rt (.bool (decide (j<i)))
 |_,_=>fl
noncomputable def geD:D→D→M D
 | .int i, .int j=>rt (.bool (decide (j≤i)))
 |_,_=>fl
noncomputable def eqC(t t':D):Bool:=plain t&&plain t'&&(er t).canLay0&&(er t').canLay0&&decide (min (er t).depth (er t').depth≤60)
noncomputable def eqD(t t':D):M D:=if eqC t t'=true then rt (.bool (PyData.eqv (er t) (er t'))) else fl
noncomputable def neD(t t':D):M D:=if eqC t t'=true then rt (.bool (!PyData.eqv (er t) (er t'))) else fl
noncomputable def optM:Option D→M D
 |some d=>rt d
 |none=>fl
noncomputable def ixG:Option (List D)→D→M D
 |some ds, .int i=>optM (atI ds i)
 |_,_=>fl
noncomputable def ixD(t t':D):M D:=ixG (seqD t) t'
noncomputable def negD:D→M D
 | .int i=>rt (.int (-i))
 |_=>fl
section
variable{G:Gx}{F:Fy}
theorem wfl{σv tv:List (Option V)}{s:Stt}{Q:VK}{A:Prop}(h:wM G F σv tv ((fl:M D) s) Q):A:=False.elim h
theorem z2R{ρ:Nat→Addr}{H:Hp}{σv tv:List (Option V)}{s:Stt}{i j:Int}{v u:V}(M:MRL G F.toFx ρ H σv tv s [.int i, .int j] [v,u]):v= .int i∧u= .int j:=by
 obtain⟨h1,h2⟩:=M.rd2
 simp only[RD] at h1 h2
 exact⟨h1,h2⟩
theorem zay:OpOK G F (fun x y H Q=>rI0 (fun i j=> .int (i+j)) x y H Q∨z8z G.K x y H Q∨rCat x y H Q∨∃i j,x= .str i∧y= .str j∧i.length+j.length≤sizeLine∧Q (.str (i++j)) H) addD:=by
 intro ρ s t t' v u H σv tv Q M W
 unfold addD at W
 split at W
 ·obtain⟨rfl,rfl⟩:=z2R M
  exact .inl ⟨_,_,rfl,rfl,fun _=>W.flat M.m rfl⟩
 ·split at W
  ·rename_i a b hz
   obtain⟨h1,h2⟩:=M.rd2
   obtain⟨l1,l2⟩:=M.lb2
   obtain⟨p,xs,rfl,s1,r1⟩:=h1.tupx
   obtain⟨q,ys,rfl,s2,r2⟩:=h2.tupx
   refine .inr (.inl ⟨p,q,xs,ys,rfl,rfl,s1,s2,by rw[←r1.length,←r2.length];exact hz,z2Q W M.m (r1.append r2) ?_⟩)
   rw[z0n]
   intro l hl
   rcases List.mem_append.mp hl with q|q
   ·exact l1 l (by simpa only[labs] using q)
   ·exact l2 l (by simpa only[labs] using q)
  ·exact wfl W
 ·split at W
  ·rename_i la a lb b hz
   obtain⟨h1,h2⟩:=M.rd2
   obtain⟨l1,l2⟩:=M.lb2
   simp only[RD] at h1 h2
   obtain⟨rfl,xs,s1,r1⟩:=h1
   obtain⟨rfl,ys,s2,r2⟩:=h2
   refine .inr (.inr (.inl ⟨_,_,xs,ys,rfl,rfl,s1,s2,by rw[←r1.length,←r2.length];exact hz,fun p hp k=>z1e W M.m (r1.append r2) ?_ hp k⟩))
   rw[z0n]
   intro l hl
   rcases List.mem_append.mp hl with q|q
   ·exact l1 l (by simp only[labs];exact List.mem_cons_of_mem _ q)
   ·exact l2 l (by simp only[labs];exact List.mem_cons_of_mem _ q)
  ·exact wfl W
 ·split at W
  ·rename_i a b hz
   obtain⟨h1,h2⟩:=M.rd2
   simp only[RD] at h1 h2
   subst h1 h2
   exact .inr (.inr (.inr ⟨_,_,rfl,rfl,hz,fun _=>W.flat M.m rfl⟩))
  ·exact wfl W
 ·exact wfl W
theorem zaz:OpOK G F (rI0 fun i j=> .int (i -j)) subD:=by
 intro ρ s t t' v u H σv tv Q M W
 unfold subD at W
 split at W
 ·obtain⟨rfl,rfl⟩:=z2R M
  exact⟨_,_,rfl,rfl,fun _=>W.flat M.m rfl⟩
 ·exact wfl W
theorem z8G:OpOK G F (rI CDiv fun i j=> .int (i/j)) z1u:=by
 intro ρ s t t' v u H σv tv Q M W
 unfold z1u at W
 split at W
 ·split at W
  ·rename_i hc
   obtain⟨rfl,rfl⟩:=z2R M
   exact⟨_,_,rfl,rfl,hc,fun _=>W.flat M.m rfl⟩
  ·exact wfl W
 ·exact wfl W
theorem zaA:OpOK G F (rI (fun _ j=>0<j) fun i j=> .int (i %j)) modD:=by
 intro ρ s t t' v u H σv tv Q M W
 unfold modD at W
 split at W
 ·split at W
  ·rename_i hc
   obtain⟨rfl,rfl⟩:=z2R M
   exact⟨_,_,rfl,rfl,hc,fun _=>W.flat M.m rfl⟩
  ·exact wfl W
 ·exact wfl W
theorem zaB:OpOK G F (rI CPow fun i j=> .int (i^j.toNat)) powD:=by
 intro ρ s t t' v u H σv tv Q M W
 unfold powD at W
 split at W
 ·split at W
  ·rename_i hc
   obtain⟨rfl,rfl⟩:=z2R M
   exact⟨_,_,rfl,rfl,hc,fun _=>W.flat M.m rfl⟩
  ·exact wfl W
 ·exact wfl W
theorem zc2:z2d G F (rI0 fun i j=> .bl (decide (i<j))) ltD:=by
 intro ρ s t t' v u H σv tv Q M W
 unfold ltD at W
 split at W
 ·obtain⟨rfl,rfl⟩:=z2R M
  exact⟨_,_,rfl,rfl,W.flat M.m rfl⟩
 ·exact wfl W
theorem zc3:z2d G F (rI0 fun i j=> .bl (decide (i≤j))) leD:=by
 intro ρ s t t' v u H σv tv Q M W
 unfold leD at W
 split at W
 ·obtain⟨rfl,rfl⟩:=z2R M
  exact⟨_,_,rfl,rfl,W.flat M.m rfl⟩
 ·exact wfl W
theorem zc4:z2d G F (rI0 fun i j=> .bl (decide (j<i))) gtD:=by
 intro ρ s t t' v u H σv tv Q M W
 unfold gtD at W
 split at W
 ·obtain⟨rfl,rfl⟩:=z2R M
  exact⟨_,_,rfl,rfl,W.flat M.m rfl⟩
 ·exact wfl W
theorem zc5:z2d G F (rEqD G.K true) neD:=by
 intro ρ s t t' v u H σv tv Q M W
 unfold neD at W
 split at W
 ·rename_i hc
  simp only[eqC,Bool.and_eq_true,decide_eq_true_eq] at hc
  obtain⟨⟨⟨⟨c1,c2⟩,c3⟩,c4⟩,c5⟩:=hc
  obtain⟨h1,h2⟩:=M.rd2
  exact⟨er t,er t',RD.dp _ _ h1 c1,RD.dp _ _ h2 c2,c3,c4,c5,W.flat M.m rfl⟩
 ·exact wfl W
theorem zaC{ρ:Nat→Addr}{H:Hp}{ds:List D}{xs:List V}{i:Int}{d:D}(r:RDs G ρ H ds xs)(e:atI ds i=some d): ∃x,atI xs i=some x∧RD G ρ H d x:=by
 unfold atI at e⊢
 rw[←r.length]
 cases e1:ixN ds.length i with
 |none=>rw[e1] at e;cases e
 |some j=>
  rw[e1] at e
  exact r.get j d e
theorem z8H{α:Type}{ds:List α}{i:Int}{d:α}(e:atI ds i=some d):d∈ds:=by
 unfold atI at e
 cases e1:ixN ds.length i with
 |none=>rw[e1] at e;cases e
 |some j=>
  rw[e1] at e
  exact List.mem_of_getElem? e
theorem zc6:OpOK G F (fun x y H Q=>rIxL G.K x y H Q∨rIxT G.K x y H Q) ixD:=by
 intro ρ s t t' v u H σv tv Q M W
 obtain⟨h1,h2⟩:=M.rd2
 unfold ixD at W
 cases e:seqD t with
 |none=>rw[e] at W;exact False.elim W
 |some ds=>
  rw[e] at W
  cases t' with
  |int i=>
   have W:wM G F σv tv (optM (atI ds i) s) Q:=W
   cases ea:atI ds i with
   |some d=>
    rw[ea] at W
    obtain⟨a,xs,rfl,sq,r,sub⟩:=h1.seq e
    obtain⟨x,ex,rx⟩:=zaC r ea
    simp only[RD] at h2
    subst h2
    have fin:KD G.K H→Q x H:=fun _=>W.out M.m rx fun l hl=>M.lb2.1 l (sub l (labsL_mem (z8H ea) l hl))
    rcases sq with sq|sq
    ·exact .inl ⟨a,xs,i,x,rfl,rfl,sq,ex,fin⟩
    ·exact .inr ⟨a,xs,i,x,rfl,rfl,sq,ex,fin⟩
   |none=>rw[ea] at W;exact False.elim W
  |_=>exact False.elim W
theorem zaD:UnOK G F (rU fun i=> .int (-i)) negD:=by
 intro ρ s t v H σv tv Q M W
 unfold negD at W
 split at W
 ·have h:=M.rd1
  simp only[RD] at h
  exact⟨_,h,fun _=>W.flat M.m rfl⟩
 ·exact wfl W
end
end Mi
namespace Mi
open PySem L2
section
variable{X:Cx}{G:Gx}{F:Fy}{e a b c:Expr}{pos:Pos}
theorem RDs.flat{ρ:Nat→Addr}{H:Hp}{ds:List D}{xs:List V}(r:RDs G ρ H ds xs): ∀k:Nat,RDs G ρ H (List.replicate k ds).flatten (List.replicate k xs).flatten
 |0=>by simp[RDs]
 |k+1=>by
  rw[List.replicate_succ,List.replicate_succ,List.flatten_cons,List.flatten_cons]
  exact r.append (RDs.flat r k)
theorem z1C{ds:List D}{l:Nat}: ∀k:Nat,l∈z00 (List.replicate k ds).flatten→l∈z00 ds
 |0,h=>by simp[z00] at h
 |k+1,h=>by
  rw[List.replicate_succ,List.flatten_cons,z0n] at h
  rcases List.mem_append.mp h with h|h
  ·exact h
  ·exact z1C k h
theorem zaE:OpOK G F (fun x y H Q=>rI CMul (fun i j=> .int (i*j)) x y H Q∨(rRep x y H Q∨z8B G.K x y H Q)) mulD:=by
 intro ρ s t t' v u H σv tv Q M W
 unfold mulD at W
 split at W
 ·split at W
  ·rename_i hc
   obtain⟨rfl,rfl⟩:=z2R M
   exact .inl ⟨_,_,rfl,rfl,hc,fun _=>W.flat M.m rfl⟩
  ·exact wfl W
 ·split at W
  ·rename_i la a k hc
   obtain⟨h1,h2⟩:=M.rd2
   obtain⟨l1,l2⟩:=M.lb2
   simp only[RD] at h1 h2
   obtain⟨rfl,xs,s1,r1⟩:=h1
   subst h2
   refine .inr (.inl ⟨_,k,xs,rfl,rfl,s1,hc.1,hc.2.1,by rw[←r1.length];exact hc.2.2,fun p hp kd=>z1e W M.m (r1.flat _) (fun l hl=> ?_) hp kd⟩)
   exact l1 l (by simp only[labs];exact List.mem_cons_of_mem _ (z1C _ hl))
  ·exact wfl W
 ·split at W
  ·rename_i a k hc
   obtain⟨h1,h2⟩:=M.rd2
   obtain⟨l1,l2⟩:=M.lb2
   simp only[RD] at h1 h2
   obtain⟨a',xs,rfl,s1,r1⟩:=h1
   subst h2
   refine .inr (.inr ⟨_,k,xs,rfl,rfl,SqT.of s1,by rw[←r1.length];exact hc.1,hc.2.1,hc.2.2.1,by rw[←r1.length];exact hc.2.2.2,fun p hp kd=>z5O W M.m (r1.flat _) (fun l hl=> ?_) hp kd⟩)
   exact l1 l (by simp only[labs];exact z1C _ hl)
  ·exact wfl W
 ·exact wfl W
noncomputable def cutA{α:Type}(xs:List α)(lo hi:Option Int):List α:=(xs.drop (HT.sIx xs.length 0 lo)).take (HT.sIx xs.length xs.length hi -HT.sIx xs.length 0 lo)
noncomputable def slD:D→Option Int→Option Int→M D
 | .tup ds,lo,hi=>rt (.tup (cutA ds lo hi))
 | .lst _ ds,lo,hi=>newL (cutA ds lo hi)
 | .ro ds,lo,hi=>newL (cutA ds lo hi)
 |_,_,_=>fl
theorem RDs.cut{ρ:Nat→Addr}{H:Hp}{ds:List D}{xs:List V}(r:RDs G ρ H ds xs)(lo hi:Option Int):RDs G ρ H (cutA ds lo hi) (cutV xs lo hi):=by
 unfold cutA cutV
 rw[r.length]
 exact(r.drop _).take _
theorem z2e{ds:List D}{lo hi:Option Int}{l:Nat}(h:l∈z00 (cutA ds lo hi)):l∈z00 ds:=by
 obtain⟨d,h1,h2⟩:=z0I h
 exact labsL_mem (List.mem_of_mem_drop (List.mem_of_mem_take h1)) l h2
noncomputable def mInt(d:D):Option Int:=match d with| .int i=>some i|_=>none
noncomputable def z2z:Option (M D)→M (Option Int)
 |none=>rt none
 |some m=>bd m fun d=>match mInt d with|some i=>rt (some i)|none=>fl
noncomputable def tP(G:Gx)(F:Fy)(m:M (Option Int)):TO:=fun σv H Q=> ∃tv,F.tv0<:+tv∧∃ρ s,MR G F.toFx ρ H σv tv s∧(match m s with
 | .ok o s'=> ∀ρ' H',MR G F.toFx ρ' H' σv tv s'→Q o H'
 | .ex d s'=>F.xw d s'
 | .no=>False)
noncomputable def SO(X:Cx)(G:Gx)(F:Fy)(e:Option Expr)(m:Option (M D)):Prop:=PO X e (tP G F (z2z m))
theorem so_some{m:M D}(h:SE X G F e m):SO X G F (some e) (some m):=by
 intro pins s σ H Q I ⟨tv,hs,ρ,ms,M,W⟩
 refine z8q h pins s σ H Q I ⟨tv,hs,ρ,ms,M, ?_⟩
 simp only[z2z,bd] at W
 cases e1:m ms with
 |ok d s1=>
  rw[e1] at W
  intro ρ' v H' M'
  cases d with
  |int i=>
   have h:=M'.rd1
   simp only[RD] at h
   exact⟨i,h,W ρ' H' M'.m⟩
  |_=>exact False.elim W
 |ex d s1=>rw[e1] at W;exact W
 |no=>rw[e1] at W;exact W
noncomputable def mSl(m:M D)(lo hi:Option (M D)):M D:=bd m fun x=>bd (psh x) fun _=>bd (z2z lo) fun l=>bd (z2z hi) fun h=>bd pop fun x'=>slD x' l h
theorem zc7{ρ:Nat→Addr}{s:Stt}{t:D}{v:V}{H:Hp}{σv tv:List (Option V)}{lo hi:Option Int}{Q:VK}(M:MRL G F.toFx ρ H σv tv s [t] [v])(W:wM G F σv tv (slD t lo hi s) Q):
 rSlX G.K v lo hi H (fun w H'=>KD G.K H'→Q w H')∨rSlL G.K v lo hi H (fun w H'=>KD G.K H'→Q w H'):=by
 have h:=M.rd1
 cases t with
 |tup ds=>
  obtain⟨p,xs,rfl,s1,r1⟩:=h.tupx
  exact .inl ⟨p,xs,rfl,s1,z2Q W M.m (r1.cut lo hi) fun l hl=>M.lb1 l (by simp only[labs];exact z2e hl)⟩
 |lst n ds=>
  obtain⟨p,xs,rfl,s1,r1,_⟩:=h.lstq (ds:=ds) rfl
  exact .inr ⟨p,xs,rfl,s1,fun q hq k=>z1e W M.m (r1.cut lo hi) (fun l hl=>M.lb1 l (by simp only[labs];exact List.mem_cons_of_mem _ (z2e hl))) hq k⟩
 |ro ds=>
  obtain⟨p,xs,rfl,s1,r1,_⟩:=h.lstq (ds:=ds) rfl
  exact .inr ⟨p,xs,rfl,s1,fun q hq k=>z1e W M.m (r1.cut lo hi) (fun l hl=>M.lb1 l (by simp only[labs];exact z2e hl)) hq k⟩
 |_=>exact False.elim W
theorem se_slice{lo hi:Option Expr}{p2:Pos}{m:M D}{ml mh:Option (M D)}(hk:X.K=G.K)(he:SE X G F e m)(hl:SO X G F lo ml)(hh:SO X G F hi mh):SE X G F (.Subscript e (.Slice lo hi none p2) pos) (mSl m ml mh):=by
 refine PE.imp hk (z7f (r:=fun x lo hi H Q=>rSlX X.K x lo hi H Q∨rSlL X.K x lo hi H Q) (SlR.or z8y z8u) he hl hh) fun σ H Q ⟨tv,h⟩=>⟨tv, ?_⟩
 obtain⟨hs,ρ,s,M,W⟩:=z3m h
 refine⟨hs,ρ,s,M,W.mono fun v H1 ⟨ρ1,s1,t,M1,W1⟩=>⟨some v::tv,suf1 hs,ρ1,s1.psh t,M1.push, ?_⟩⟩
 simp only[bd,psh] at W1
 cases e1:z2z ml (s1.psh t) with
 |ex d s2=>rw[e1] at W1;exact W1
 |no=>rw[e1] at W1;exact W1
 |ok l s2=>
  rw[e1] at W1
  intro ρ2 H2 M2
  refine⟨some v::tv,suf1 hs,ρ2,s2,M2, ?_⟩
  dsimp only at W1
  cases e2:z2z mh s2 with
  |ex d s3=>rw[e2] at W1;exact W1
  |no=>rw[e2] at W1;exact W1
  |ok h s3=>
   rw[e2] at W1
   intro ρ3 H3 M3
   simp only[pop] at W1
   cases e3:s3.tm with
   |nil=>rw[e3] at W1;exact W1.elim
   |cons o r=>
    cases o with
    |none=>rw[e3] at W1;exact W1.elim
    |some t'=>
     rw[e3] at W1
     have M4:MRL G F.toFx ρ3 H3 σ tv {s3 with tm:=r} [t'] [v]:=MRL.down (ts:=[]) (vs:=[]) ⟨M3,rfl,fun l h=>by simp[z00] at h⟩ e3
     rw[hk]
     exact zc7 M4 W1
noncomputable def tupD(ts:List D):M D:=if ts.length≤sizeLine then rt (.tup ts) else fl
noncomputable def lstM(ts:List D):M D:=if ts.length≤sizeLine then newL ts else fl
theorem zaF:z0R G F (fun xs H1 Q=>xs.length≤sizeLine∧∀p,H1 p=none→Q (.ref p) (upd H1 p (.tup xs))) tupD:=by
 intro ρ s ts vs H σv tv Q M W
 unfold tupD at W
 split at W
 ·rename_i hz
  exact⟨by rw[←M.rd.length];exact hz,fun p hp k=>z5O W M.m M.rd M.lb hp k⟩
 ·exact wfl W
theorem zaG:z0R G F (fun xs H1 Q=>xs.length≤sizeLine∧∀p,H1 p=none→Q (.ref p) (upd H1 p (.lst xs))) lstM:=by
 intro ρ s ts vs H σv tv Q M W
 unfold lstM at W
 split at W
 ·rename_i hz
  exact⟨by rw[←M.rd.length];exact hz,fun p hp k=>z1e W M.m M.rd M.lb hp k⟩
 ·exact wfl W
theorem se_tup{es:List Expr}{ms:List (M D)}{x1}(hk:X.K=G.K)(h:SA X G F es (mArgs ms)):SE X G F (.Tuple es x1 pos) (mCB ms tupD):=
 PE.imp hk (zai h) fun _ _ _ h=>z1X zaF h
theorem se_lst{es:List Expr}{ms:List (M D)}(hk:X.K=G.K)(h:SA X G F es (mArgs ms)):SE X G F (.List es pos) (mCB ms lstM):=
 PE.imp hk (zaj h) fun _ _ _ h=>z1X zaG h
noncomputable def truD:D→M Bool
 | .non=>rt false
 | .bool b=>rt b
 | .int i=>rt (i !=0)
 | .str x=>if x.length≤sizeLine then rt ((x.length:Int) !=0) else fl
 | .tup ds=>rt (!ds.isEmpty)
 | .ro ds=>rt (!ds.isEmpty)
 | .lst _ ds=>rt (!ds.isEmpty)
 |_=>fl
noncomputable def z1v(m:M D):M Bool:=bd m truD
theorem z1D{ρ:Nat→Addr}{H:Hp}{ds:List D}{xs:List V}(r:RDs G ρ H ds xs):(!ds.isEmpty)= !xs.isEmpty:=by
 have:=r.length
 cases ds<;>cases xs<;>simp at this⊢
theorem zaH{ρ:Nat→Addr}{s:Stt}{t:D}{v:V}{H:Hp}{σv tv:List (Option V)}{Q:Bool→Hp→Prop}(M:MRL G F.toFx ρ H σv tv s [t] [v])(W:wB G F σv tv (truD t s) Q): ∃k,TruV G.K v H k∧Q k H:=by
 have h:=M.rd1
 cases t with
 |non=>simp only[RD] at h;subst h;exact⟨false,rfl,W ρ H M.m⟩
 |bool b=>simp only[RD] at h;subst h;exact⟨b,rfl,W ρ H M.m⟩
 |int i=>simp only[RD] at h;subst h;exact⟨_,rfl,W ρ H M.m⟩
 |str x=>
  simp only[RD] at h;subst h
  unfold truD at W
  by_cases hz:x.length≤sizeLine
  ·simp only[if_pos hz] at W;exact⟨_,⟨hz,rfl⟩,W ρ H M.m⟩
  ·simp only[if_neg hz] at W;exact False.elim W
 |tup ds=>
  obtain⟨p,xs,rfl,s1,r1⟩:=h.tupq
  exact⟨_, .inr (.inl ⟨xs,s1,z1D r1⟩),W ρ H M.m⟩
 |ro ds=>
  obtain⟨p,xs,rfl,s1,r1,_⟩:=h.lstq (ds:=ds) rfl
  exact⟨_, .inl ⟨xs,s1,z1D r1⟩,W ρ H M.m⟩
 |lst n ds=>
  obtain⟨p,xs,rfl,s1,r1,_⟩:=h.lstq (ds:=ds) rfl
  exact⟨_, .inl ⟨xs,s1,z1D r1⟩,W ρ H M.m⟩
 |dct _ _ _=>exact False.elim W
 |fdc _ _=>exact False.elim W
 |obj _ _ _ _=>exact False.elim W
 |exc _=>exact False.elim W
 |fn _=>exact False.elim W
theorem z7p{m:M D}{σ:St}{H:Hp}{Q:Bool→Hp→Prop}(h:tMB G F (z1v m) σ H Q):tM G F m σ H fun x H'=> ∃k,TruV G.K x H' k∧Q k H':=by
 obtain⟨tv,hs,ρ,s,M,W⟩:=h
 refine⟨tv,hs,ρ,s,M, ?_⟩
 unfold z1v bd at W
 cases e:m s with
 |ok t s1=>rw[e] at W;exact fun ρ1 v H1 M1=>zaH M1 W
 |ex d s1=>rw[e] at W;exact W
 |no=>rw[e] at W;exact W
theorem sb_truth{m:M D}(hk:X.K=G.K)(ha:SE X G F a m)(he: ∀whole,isTrue a X.env whole=(do let v←whole;standAt a.pos;holding [v] (truthy v)):=by intro _;rfl):SB X G F a (z1v m):=by
 refine PT.imp hk (z7c ha he) fun σ H Q h=> ?_
 rw[hk]
 obtain⟨tv,h'⟩:=z7p h
 exact⟨tv,h'.mono fun v H1 ⟨k,q1,q2⟩=>⟨k,q1,fun _=>q2⟩⟩
noncomputable def booD:D→M Bool
 | .bool b=>rt b
 |_=>fl
noncomputable def mBoo(m:M D):M Bool:=bd m booD
theorem z5P{m:M D}{σ:St}{H:Hp}{Q:Bool→Hp→Prop}(h:tMB G F (mBoo m) σ H Q):tM G F m σ H fun x H'=> ∃k,x= .bl k∧Q k H':=by
 obtain⟨tv,hs,ρ,s,M,W⟩:=h
 refine⟨tv,hs,ρ,s,M, ?_⟩
 unfold mBoo bd at W
 cases e:m s with
 |ok t s1=>
  rw[e] at W
  intro ρ1 v H1 M1
  have h:=M1.rd1
  cases t with
  |bool b=>simp only[RD] at h;exact⟨b,h,W ρ1 H1 M1.m⟩
  |_=>exact False.elim W
 |ex d s1=>rw[e] at W;exact W
 |no=>rw[e] at W;exact W
theorem z8I{op:CmpOp}{r:R2}{ma mb:M D}{g:D→D→M D}(ho:OpR X (compareOp op) r)(hg:z2d G F r g)(ha:SE X G F a ma)(hb:SE X G F b mb)(hm:behindInMarks op b=false):SB X G F (.Compare a [op] [b] pos) (mBoo (mBin ma mb g)):=
 PT.imp0 (z8n ho ha hb hm) fun _ _ _ h=>z7n hg (z5P h)
theorem z8J{m:M Bool}{f:Bool→M Bool}{σ:St}{tv:List (Option V)}{H:Hp}{Q:Bool→Hp→Prop}(h:tBv G F (bd m f) σ tv H Q):tBv G F m σ tv H fun b H1=> ∃ρ1 s1,MR G F.toFx ρ1 H1 σ tv s1∧wB G F σ tv (f b s1) Q:=by
 obtain⟨hs,ρ,s,M,W⟩:=h
 refine⟨hs,ρ,s,M, ?_⟩
 unfold bd at W
 cases e:m s with
 |ok b s1=>rw[e] at W;exact fun ρ1 H1 M1=>⟨ρ1,s1,M1,W⟩
 |ex d s1=>rw[e] at W;exact W
 |no=>rw[e] at W;exact W
theorem wB.mono{σv tv:List (Option V)}{r:Res Bool}{Q Q':Bool→Hp→Prop}(h:wB G F σv tv r Q)(k: ∀v H,Q v H→Q' v H):wB G F σv tv r Q':=by
 cases r with
 |ok t s=>exact fun ρ H M=>k _ _ (h ρ H M)
 |ex d s=>exact h
 |no=>exact h
theorem tBv.mono{m:M Bool}{σv tv:List (Option V)}{H:Hp}{Q Q':Bool→Hp→Prop}(h:tBv G F m σv tv H Q)(k: ∀v H,Q v H→Q' v H):tBv G F m σv tv H Q':=by
 obtain⟨hs,ρ,s,M,W⟩:=h
 exact⟨hs,ρ,s,M,W.mono k⟩
noncomputable def iteM{α:Type}(b:Bool)(m m':M α):M α:=match b with|true=>m|false=>m'
noncomputable def mAnd(m m':M Bool):M Bool:=bd m fun b=>iteM b m' (rt false)
noncomputable def mOr(m m':M Bool):M Bool:=bd m fun b=>iteM b (rt true) m'
noncomputable def mNot(m:M Bool):M Bool:=bd m fun b=>rt (!b)
noncomputable def SW(X:Cx)(G:Gx)(F:Fy)(e:Expr)(m:M Bool):Prop:=PW X e (tMB G F m)
theorem SW.sb{m:M Bool}(h:SW X G F e m):SB X G F e m:=PW.pt h
theorem PW.imp0{t t':TT}(h:PW X e t)(hi: ∀σ H Q,t' σ H Q→t σ H Q):PW X e t':=fun wh pins s σ H Q I q=>h wh pins s σ H _ I (hi σ H Q q)
theorem sw_and1{m:M Bool}(h:SB X G F a m):SW X G F (.BoolOp .And [a] pos) m:=z8h h
theorem sw_or1{m:M Bool}(h:SB X G F a m):SW X G F (.BoolOp .Or [a] pos) m:=za0 h
theorem sw_and{rest:List Expr}{m m':M Bool}(ha:SB X G F a m)(hb:SW X G F (.BoolOp .And (b::rest) pos) m'):SW X G F (.BoolOp .And (a::b::rest) pos) (mAnd m m'):=by
 refine PW.imp0 (za1 ha hb) fun σ H Q ⟨tv,h⟩=>⟨tv,(z8J h).mono fun b H1 ⟨ρ1,s1,M1,W⟩=> ?_⟩
 cases b with
 |true=>rw[if_pos rfl];exact⟨tv,h.1,ρ1,s1,M1,W⟩
 |false=>rw[if_neg Bool.false_ne_true];exact W ρ1 H1 M1
theorem sw_or{rest:List Expr}{m m':M Bool}(ha:SB X G F a m)(hb:SW X G F (.BoolOp .Or (b::rest) pos) m'):SW X G F (.BoolOp .Or (a::b::rest) pos) (mOr m m'):=by
 refine PW.imp0 (zbz ha hb) fun σ H Q ⟨tv,h⟩=>⟨tv,(z8J h).mono fun b H1 ⟨ρ1,s1,M1,W⟩=> ?_⟩
 cases b with
 |true=>rw[if_pos rfl];exact W ρ1 H1 M1
 |false=>rw[if_neg Bool.false_ne_true];exact⟨tv,h.1,ρ1,s1,M1,W⟩
theorem sb_not{m:M Bool}(ha:SB X G F a m):SB X G F (.UnaryOp .Not a pos) (mNot m):=by
 refine PT.imp0 (za2 ha) fun σ H Q ⟨tv,h⟩=>⟨tv,(z8J h).mono fun b H1 ⟨ρ1,s1,M1,W⟩=>W ρ1 H1 M1⟩
noncomputable def z54(m m':M D):M D:=bd (mBoo m) fun b=>iteM b m' (rt (.bool false))
noncomputable def mOrV(m m':M D):M D:=bd (mBoo m) fun b=>iteM b (rt (.bool true)) m'
noncomputable def z5Q(m:M D):M D:=bd (mBoo m) fun b=>rt (.bool (!b))
theorem z5R{m:M D}{f:Bool→M D}{σ:St}{H:Hp}{Q:VK}(h:tM G F (bd (mBoo m) f) σ H Q):tM G F m σ H fun x H1=> ∃k,x= .bl k∧∃ρ1 s1 tv,F.tv0<:+tv∧MR G F.toFx ρ1 H1 σ tv s1∧wM G F σ tv (f k s1) Q:=by
 obtain⟨tv,hs,ρ,s,M,W⟩:=h
 refine⟨tv,hs,ρ,s,M, ?_⟩
 unfold mBoo bd at W
 cases e:m s with
 |ok t s1=>
  rw[e] at W
  intro ρ1 v H1 M1
  have h:=M1.rd1
  cases t with
  |bool b=>simp only[RD] at h;exact⟨b,h,ρ1,s1,tv,hs,M1.m,W⟩
  |_=>exact False.elim W
 |ex d s1=>rw[e] at W;exact W
 |no=>rw[e] at W;exact W
theorem tM.mono{m:M D}{σ:St}{H:Hp}{Q Q':VK}(h:tM G F m σ H Q)(k: ∀v H,Q v H→Q' v H):tM G F m σ H Q':=by
 obtain⟨tv,h⟩:=h
 exact⟨tv,h.mono k⟩
theorem se_one{op}{m:M D}(h:SE X G F a m):SE X G F (.BoolOp op [a] pos) m:=za3 h
theorem se_and{rest:List Expr}{m m':M D}(ha:SE X G F a m)(hb:SE X G F (.BoolOp .And (b::rest) pos) m'):SE X G F (.BoolOp .And (a::b::rest) pos) (z54 m m'):=by
 refine PE.imp0 (za4 ha hb) fun σ H Q h=>(z5R h).mono fun x H1 ⟨k,e,ρ1,s1,tv,hs,M1,W⟩=>⟨k,e, ?_⟩
 cases k with
 |true=>rw[if_pos rfl];exact⟨tv,hs,ρ1,s1,M1,W⟩
 |false=>rw[if_neg Bool.false_ne_true];exact W.flat M1 rfl
theorem se_or{rest:List Expr}{m m':M D}(ha:SE X G F a m)(hb:SE X G F (.BoolOp .Or (b::rest) pos) m'):SE X G F (.BoolOp .Or (a::b::rest) pos) (mOrV m m'):=by
 refine PE.imp0 (zbC ha hb) fun σ H Q h=>(z5R h).mono fun x H1 ⟨k,e,ρ1,s1,tv,hs,M1,W⟩=>⟨k,e, ?_⟩
 cases k with
 |true=>rw[if_pos rfl];exact W.flat M1 rfl
 |false=>rw[if_neg Bool.false_ne_true];exact⟨tv,hs,ρ1,s1,M1,W⟩
theorem se_not{m:M D}(ha:SE X G F a m):SE X G F (.UnaryOp .Not a pos) (z5Q m):=by
 refine PE.imp0 (za5 ha) fun σ H Q h=>(z5R h).mono fun x H1 ⟨k,e,ρ1,s1,tv,hs,M1,W⟩=>⟨k,e,W.flat M1 rfl⟩
noncomputable def mIf(c:M Bool)(m m':M D):M D:=bd c fun b=>iteM b m m'
noncomputable def z5S(y:D)(m:M D):M D:=match cV y with|some _=>m|none=>fl
noncomputable def z0h(ma mb mc:M D)(g g':D→D→M D):M D:=bd ma fun x=>bd (psh x) fun _=>bd mb fun y=>bd pop fun x'=>z5S y (bd (mBoo (g x' y)) fun k=>iteM k (bd mc fun z=>g' y z) (rt (.bool false)))
theorem z5T{ma mb mc:M D}{g g':D→D→M D}{r r':R2}{σ:St}{H:Hp}{Q:VK}(hg:z2d G F r g)(hg':z2d G F r' g')(h:tM G F (z0h ma mb mc g g') σ H Q):z81 r r' (tM G F ma) (tM G F mb) (tM G F mc) σ H Q:=by
 obtain⟨tv,h⟩:=h
 have hs:=h.1
 refine⟨tv,(z4v (g:=fun x' y=>z5S y (bd (mBoo (g x' y)) fun k=>iteM k (bd mc fun z=>g' y z) (rt (.bool false)))) h).mono fun v H1 h1=>⟨_,h1.mono fun u H2 ⟨ρ,s,t,t',M,W⟩=> ?_⟩⟩
 unfold z5S at W
 cases e:cV t' with
 |none=>rw[e] at W;exact False.elim W
 |some u'=>
  rw[e] at W
  have hu:u=u':=by
   have h2:=M.rd2.2
   cases t'<;>simp only[cV,Option.some.injEq] at e<;>simp only[RD] at h2<;>first|(rw[h2,e])|cases e
  subst hu
  unfold bd mBoo at W
  dsimp only at W
  refine hg ρ s t t' v u H2 σ tv _ M ?_
  unfold bd at W
  cases e2:g t t' s with
  |ok z s1=>
   rw[e2] at W
   intro ρ1 w H3 M3
   have h3:=M3.rd1
   cases z with
   |bool k=>
    simp only[RD] at h3
    refine⟨k,h3, ?_⟩
    have W:wM G F σ tv (iteM k (bd mc fun z=>g' t' z) (rt (.bool false)) s1) Q:=W
    cases k with
    |false=>rw[if_neg Bool.false_ne_true];exact W.flat M3.m rfl
    |true=>
     rw[if_pos rfl]
     have h5:tMv G F (bd mc fun z=>g' t' z) σ tv H3 Q:=⟨hs,ρ1,s1,M3.m,W⟩
     refine⟨tv,(z3m h5).mono fun w' H4 ⟨ρ4,s4,t4,M4,W4⟩=>hg' ρ4 s4 t' t4 u w' H4 σ tv Q ⟨M4.m, ?_,fun l hl=> ?_⟩ W4⟩
     ·simp only[RDs];exact⟨_,_,rfl,(z53 e).1,_,_,rfl,M4.rd1,rfl⟩
     ·simp only[z00,(z53 (G:=G) (ρ:=ρ4) (H:=H4) e).2,List.nil_append,List.append_nil] at hl
      exact M4.lb1 l hl
   |_=>exact False.elim W
  |ex d s1=>rw[e2] at W;exact W
  |no=>rw[e2] at W;exact W
theorem z7q{op op':CmpOp}{r r':R2}{ma mb mc:M D}{g g':D→D→M D}(ho:OpR X (compareOp op) r)(hg:z2d G F r g)(ho':OpR X (compareOp op') r')(hg':z2d G F r' g')(ha:SE X G F a ma)(hb:SE X G F b mb)(hc:SE X G F c mc)
 (hm:lastMarks [op,op'] [b,c]=false:=by with_unfolding_all rfl):SB X G F (.Compare a [op,op'] [b,c] pos) (mBoo (z0h ma mb mc g g')):=
 PT.imp0 (z7b ho ho' ha hb hc hm) fun _ _ _ h=>z5T hg hg' (z5P h)
end
end Mi
namespace Mi
open PySem L2
noncomputable def lenD:List D→M D
 |[.tup ds]=>rt (.int ds.length)
 |[.ro ds]=>rt (.int ds.length)
 |[.lst _ ds]=>rt (.int ds.length)
 |_=>fl
noncomputable def absD:List D→M D
 |[.int i]=>rt (.int (if i<0 then -i else i))
 |_=>fl
noncomputable def minD:List D→M D
 |[.int i, .int j]=>rt (.int (if j<i then j else i))
 |_=>fl
noncomputable def maxD:List D→M D
 |[.int i, .int j]=>rt (.int (if j>i then j else i))
 |_=>fl
noncomputable def z1f:List D→Option (List Bool)
 |[]=>some []
 | .bool b::r=>(z1f r).map (b:: ·)
 |_=>none
noncomputable def allD:List D→M D
 |[.lst _ ds]=>match z1f ds with|some bs=>rt (.bool (bs.all id))|none=>fl
 |_=>fl
noncomputable def intD:List D→M D
 |[.int i]=>rt (.int i)
 |[.bool b]=>rt (.int (if b then 1 else 0))
 |_=>fl
noncomputable def tupF:List D→M D
 |[.tup ds]=>rt (.tup ds)
 |[.ro ds]=>rt (.tup ds)
 |[.lst _ ds]=>rt (.tup ds)
 |_=>fl
noncomputable def z2S:List D→M D
 |[.tup ds]=>newL ds
 |[.ro ds]=>newL ds
 |[.lst _ ds]=>newL ds
 |_=>fl
section
variable{X:Cx}{G:Gx}{F:Fy}{e a b c:Expr}{pos:Pos}
theorem MRL.one{ρ:Nat→Addr}{H:Hp}{σv tv:List (Option V)}{s:Stt}{t:D}{vs:List V}(M:MRL G F.toFx ρ H σv tv s [t] vs): ∃v,vs=[v]∧RD G ρ H t v∧LB F.toFx ρ s.n (labs t):=by
 have h:=M.rd
 simp only[RDs] at h
 obtain⟨v,r,rfl,h,rfl⟩:=h
 exact⟨v,rfl,h,M.lb1⟩
theorem MRL.two{ρ:Nat→Addr}{H:Hp}{σv tv:List (Option V)}{s:Stt}{t t':D}{vs:List V}(M:MRL G F.toFx ρ H σv tv s [t,t'] vs): ∃v u,vs=[v,u]∧RD G ρ H t v∧RD G ρ H t' u:=by
 have h:=M.rd
 simp only[RDs] at h
 obtain⟨v,r,rfl,h,u,q,rfl,h',rfl⟩:=h
 exact⟨v,u,rfl,h,h'⟩
theorem zaI:z0R G F (fun xs H Q=> ∃p ys,xs=[.ref p]∧(SqL G.K H p ys∨SqT G.K H p ys)∧Q (.int ys.length) H) lenD:=by
 intro ρ s ts vs H σv tv Q M W
 unfold lenD at W
 split at W
 ·obtain⟨v,rfl,h,_⟩:=M.one
  obtain⟨p,xs,rfl,s1,r1,_⟩:=h.seq rfl
  exact⟨p,xs,rfl,s1,fun _=>by rw[←r1.length];exact W.flat M.m rfl⟩
 ·obtain⟨v,rfl,h,_⟩:=M.one
  obtain⟨p,xs,rfl,s1,r1,_⟩:=h.seq rfl
  exact⟨p,xs,rfl,s1,fun _=>by rw[←r1.length];exact W.flat M.m rfl⟩
 ·obtain⟨v,rfl,h,_⟩:=M.one
  obtain⟨p,xs,rfl,s1,r1,_⟩:=h.seq rfl
  exact⟨p,xs,rfl,s1,fun _=>by rw[←r1.length];exact W.flat M.m rfl⟩
 ·exact wfl W
theorem zaJ:z0R G F (fun xs H Q=> ∃i,xs=[.int i]∧Q (.int (if i<0 then -i else i)) H) absD:=by
 intro ρ s ts vs H σv tv Q M W
 unfold absD at W
 split at W
 ·obtain⟨v,rfl,h,_⟩:=M.one
  simp only[RD] at h
  subst h
  exact⟨_,rfl,fun _=>W.flat M.m rfl⟩
 ·exact wfl W
theorem zaK:z0R G F (fun xs H Q=> ∃i j,xs=[.int i, .int j]∧Q (.int (if j<i then j else i)) H) minD:=by
 intro ρ s ts vs H σv tv Q M W
 unfold minD at W
 split at W
 ·obtain⟨v,u,rfl,h,h'⟩:=M.two
  simp only[RD] at h h'
  subst h h'
  exact⟨_,_,rfl,fun _=>W.flat M.m rfl⟩
 ·exact wfl W
theorem zaL:z0R G F (fun xs H Q=> ∃i j,xs=[.int i, .int j]∧Q (.int (if j>i then j else i)) H) maxD:=by
 intro ρ s ts vs H σv tv Q M W
 unfold maxD at W
 split at W
 ·obtain⟨v,u,rfl,h,h'⟩:=M.two
  simp only[RD] at h h'
  subst h h'
  exact⟨_,_,rfl,fun _=>W.flat M.m rfl⟩
 ·exact wfl W
theorem z4w{ρ:Nat→Addr}{H:Hp}: ∀{ds:List D} {xs:List V} {bs:List Bool},RDs G ρ H ds xs→z1f ds=some bs→xs=bs.map V.bl
 |[],xs,bs,r,e=>by simp only[RDs] at r;simp only[z1f,Option.some.injEq] at e;subst r e;rfl
 |d::ds,xs,bs,r,e=>by
  simp only[RDs] at r
  obtain⟨x,q,rfl,h1,h2⟩:=r
  cases d with
  |bool b=>
   simp only[z1f] at e
   cases e1:z1f ds with
   |none=>rw[e1] at e;cases e
   |some cs=>
    rw[e1] at e
    cases e
    simp only[RD] at h1
    rw[h1,z4w h2 e1];rfl
  |_=>simp only[z1f] at e;cases e
theorem zaM:z0R G F (fun xs H Q=> ∃(p:Addr) (bs:List Bool),xs=[.ref p]∧SqL G.K H p (bs.map V.bl)∧Q (.bl (bs.all id)) H) allD:=by
 intro ρ s ts vs H σv tv Q M W
 unfold allD at W
 split at W
 ·rename_i l ds
  cases e1:z1f ds with
  |none=>rw[e1] at W;exact False.elim W
  |some bs=>
   rw[e1] at W
   obtain⟨v,rfl,h,_⟩:=M.one
   obtain⟨p,xs,rfl,s1,r1,_⟩:=h.lstq (ds:=ds) rfl
   rw[z4w r1 e1] at s1
   exact⟨p,bs,rfl,s1,fun _=>W.flat M.m rfl⟩
 ·exact wfl W
theorem z8K:z0R G F (fun xs H Q=> ∃(p:Addr) (ys:List V),xs=[.ref p]∧(SqL G.K H p ys∨H p=some (.tup ys))∧NewX G.K H ys Q) tupF:=by
 intro ρ s ts vs H σv tv Q M W
 have fin: ∀(t:D) (ds:List D),ts=[t]→seqD t=some ds→wM G F σv tv (.ok (.tup ds) s) Q→∃(p:Addr) (ys:List V),vs=[.ref p]∧(SqL G.K H p ys∨H p=some (.tup ys))∧NewX G.K H ys (fun w H'=>KD G.K H'→Q w H'):=fun t ds et es W'=>by
  subst et
  obtain⟨v,rfl,h,lb⟩:=M.one
  obtain⟨p,xs,rfl,s1,r1,sub⟩:=h.seqx es
  exact⟨p,xs,rfl,s1,z2Q W' M.m r1 fun l hl=>lb l (sub l hl)⟩
 unfold tupF at W
 split at W
 ·exact fin _ _ rfl rfl W
 ·exact fin _ _ rfl rfl W
 ·exact fin _ _ rfl rfl W
 ·exact wfl W
theorem z7r:z0R G F (fun xs H Q=> ∃p ys,xs=[.ref p]∧(SqL G.K H p ys∨SqT G.K H p ys)∧∀l,H l=none→Q (.ref l) (upd H l (.lst ys))) z2S:=by
 intro ρ s ts vs H σv tv Q M W
 have fin: ∀(t:D) (ds:List D),ts=[t]→seqD t=some ds→wM G F σv tv (.ok (.lst s.n ds) s.nxt) Q→∃p ys,vs=[.ref p]∧(SqL G.K H p ys∨SqT G.K H p ys)∧∀l,H l=none→KD G.K (upd H l (.lst ys))→Q (.ref l) (upd H l (.lst ys)):=fun t ds et es W'=>by
  subst et
  obtain⟨v,rfl,h,lb⟩:=M.one
  obtain⟨p,xs,rfl,s1,r1,sub⟩:=h.seq es
  exact⟨p,xs,rfl,s1,fun l hl k=>z1e W' M.m r1 (fun l hl=>lb l (sub l hl)) hl k⟩
 unfold z2S at W
 split at W
 ·exact fin _ _ rfl rfl W
 ·exact fin _ _ rfl rfl W
 ·exact fin _ _ rfl rfl W
 ·exact wfl W
noncomputable def isiD(T:String):D→Option Bool
 | .non=>some false
 | .bool _=>some (T== "int" ||T== "bool")
 | .int _=>some (T== "int")
 | .str _=>some (T== "str")
 | .tup _=>some (T== "tuple")
 | .ro _=>some (T== "list")
 | .lst _ _=>some (T== "list")
 |_=>none
noncomputable def mIsi(T:String)(m:M D):M D:=bd m fun d=>match isiD T d with|some b=>rt (.bool b)|none=>fl
theorem zaN{ρ:Nat→Addr}{H:Hp}{t:D}{v:V}{T:String}{b:Bool}(h:RD G ρ H t v)(e:isiD T t=some b):isiV G.K H T b v:=by
 cases t<;>simp only[isiD,Option.some.injEq] at e<;>try cases e
 ·simp only[RD] at h;subst h;exact rfl
 ·simp only[RD] at h;subst h;exact rfl
 ·simp only[RD] at h;subst h;exact rfl
 ·simp only[RD] at h;subst h;exact rfl
 ·obtain⟨p,xs,rfl,s1,r1⟩:=h.tupq
  exact .inl ⟨xs,s1,rfl⟩
 ·obtain⟨p,xs,rfl,s1,r1,_⟩:=h.lstq rfl
  exact .inr ⟨xs,s1,rfl⟩
 ·obtain⟨p,xs,rfl,s1,r1,_⟩:=h.lstq rfl
  exact .inr ⟨xs,s1,rfl⟩
theorem se_isi{p:Pos}{x y:Expr}{T:String}{m:M D}(hk:X.K=G.K)(hT:T= "int" ∨T= "bool" ∨T= "tuple" ∨T= "list" ∨T= "str")(hgl:Gl X "isinstance")(hm:X.mg "isinstance" =none)(ha:SE X G F x m)(hy:PE X y (tC (.ty T)))
 (he:starEach [x,y] X.env=(false,eval x X.env)::starEach [y] X.env:=by rfl) (he2:starEach [y] X.env=(false,eval y X.env)::starEach [] X.env:=by rfl) (hpl:(backTo pos (starEach [y] X.env)).any (·.1)=false:=by rfl):SE X G F (.Call (.Name "isinstance" p) [x,y] [] pos) (mIsi T m):=by
 refine PE.imp hk (z1V z7l hgl hm PyProof.Rows.Boot.«isinstance» (z0a ha (z0a hy z1O he2) he) (by decide) (by decide) he hpl) fun σ H Q ⟨tv,h⟩=>⟨tv,(z3m h).mono fun v H1 ⟨ρ1,s1,t,M1,W⟩=> ?_⟩
 cases e:isiD T t with
 |none=>simp only[e] at W;exact False.elim W
 |some b=>
  simp only[e] at W
  rw[hk]
  exact⟨v,T,b,rfl,hT,zaN M1.rd1 e,fun _=>W.flat M1.m rfl⟩
end
end Mi
namespace Mi
open PySem L2
inductive RS where
 |nx (s:Stt)|rt (d:D) (s:Stt)|bk (s:Stt)|ct (s:Stt)|ex (d:D) (s:Stt)|no
noncomputable abbrev MS:=Stt→RS
noncomputable def lift{α:Type}(m:M α)(f:α→MS):MS:=fun s=>match m s with
 | .ok a s'=>f a s'
 | .ex d s'=> .ex d s'
 | .no=> .no
noncomputable def seqS(m m':MS):MS:=fun s=>match m s with
 | .nx s'=>m' s'
 |r=>r
noncomputable def sNx:MS:=fun s=> .nx s
noncomputable def sBk:MS:=fun s=> .bk s
noncomputable def sCt:MS:=fun s=> .ct s
noncomputable def z2f(m:M D):MS:=lift m fun _=>sNx
noncomputable def sRet(m:M D):MS:=lift m fun d s=> .rt d s
noncomputable def zc8:MS:=fun s=> .rt .non s
noncomputable def iteS(b:Bool)(m m':MS):MS:=match b with|true=>m|false=>m'
noncomputable def sIf(c:M Bool)(m m':MS):MS:=lift c fun b=>iteS b m m'
inductive Tg where
 |nm (i:Nat)|tp (ts:List Tg)
mutual
noncomputable def asg:Tg→D→List (Option D)→Option (List (Option D))
 | .nm i,t,σ=>some (σ.set i (some t))
 | .tp ts, .tup ds,σ=>asgL ts ds σ
 | .tp _,_,_=>none
noncomputable def asgL:List Tg→List D→List (Option D)→Option (List (Option D))
 |[],[],σ=>some σ
 |t::ts,d::ds,σ=>match asg t d σ with|some σ'=>asgL ts ds σ'|none=>none
 |_,_,_=>none
end
noncomputable def sAsg(g:Tg)(m:M D):MS:=lift m fun d s=>match asg g d s.σ with
 |some σ'=> .nx {s with σ:=σ'}
 |none=> .no
section
variable{X:Cx}{G:Gx}{F:Fy}{e a b c:Expr}{st:Stmt}{sts rest:List Stmt}{pos:Pos}
noncomputable def wS(G:Gx)(F:Fy)(tv:List (Option V))(r:RS)(D:Ends):Prop:=match r with
 | .nx s'=> ∀ρ' σv' H',MR G F.toFx ρ' H' σv' tv s'→D.nx σv' H'
 | .rt t s'=> ∀ρ' σv' v H',MRL G F.toFx ρ' H' σv' tv s' [t] [v]→D.rt v H'
 | .bk s'=> ∀ρ' σv' H',MR G F.toFx ρ' H' σv' tv s'→D.bk σv' H'
 | .ct s'=> ∀ρ' σv' H',MR G F.toFx ρ' H' σv' tv s'→D.ct σv' H'
 | .ex d s'=>F.xw d s'
 | .no=>False
noncomputable def tSv(G:Gx)(F:Fy)(m:MS)(tv:List (Option V))(D:Ends)(σv:St)(H:Hp):Prop:=F.tv0<:+tv∧∃ρ s,MR G F.toFx ρ H σv tv s∧wS G F tv (m s) D
noncomputable def tS(G:Gx)(F:Fy)(m:MS):TS:=fun D σv H=> ∃tv,tSv G F m tv D σv H
noncomputable def SS(X:Cx)(G:Gx)(F:Fy)(st:Stmt)(m:MS):Prop:=PS X st (tS G F m)
noncomputable def SSs(X:Cx)(G:Gx)(F:Fy)(sts:List Stmt)(m:MS):Prop:=PSs X sts (tS G F m)
theorem PS.imp0{t t':TS}(h:PS X st t)(hi: ∀D σ H,t' D σ H→t D σ H):PS X st t':=fun pins s σ H D I q=>h pins s σ H D I (hi D σ H q)
theorem PSs.imp0{t t':TS}(h:PSs X sts t)(hi: ∀D σ H,t' D σ H→t D σ H):PSs X sts t':=fun pins s σ H D I q=>h pins s σ H D I (hi D σ H q)
theorem ss_nil:SSs X G F [] sNx:=PSs.imp0 z8i fun D σ H ⟨tv,hs,ρ,s,M,W⟩=>W ρ σ H M
theorem ss_cons{m m':MS}(h1:SS X G F st m)(h2:SSs X G F rest m'):SSs X G F (st::rest) (seqS m m'):=by
 refine PSs.imp0 (z78 h1 h2) fun D σ H ⟨tv,hs,ρ,s,M,W⟩=>⟨tv,hs,ρ,s,M, ?_⟩
 unfold seqS at W
 cases e:m s with
 |nx s'=>rw[e] at W;exact fun ρ' σv' H' M'=>⟨tv,hs,ρ',s',M',W⟩
 |rt d s'=>rw[e] at W;exact W
 |bk s'=>rw[e] at W;exact W
 |ct s'=>rw[e] at W;exact W
 |ex d s'=>rw[e] at W;exact W
 |no=>rw[e] at W;exact W
theorem ss_one{m:MS}(h1:SS X G F st m):SSs X G F [st] m:=z8j h1
theorem z1Y{m:M D}{f:D→MS}{tv:List (Option V)}{D:Ends}{σ:St}{H:Hp}(h:tSv G F (lift m f) tv D σ H):tMv G F m σ tv H fun v H1=> ∃ρ1 s1 t,MRL G F.toFx ρ1 H1 σ tv s1 [t] [v]∧wS G F tv (f t s1) D:=by
 obtain⟨hs,ρ,s,M,W⟩:=h
 refine⟨hs,ρ,s,M, ?_⟩
 unfold lift at W
 cases e:m s with
 |ok t s1=>rw[e] at W;exact fun ρ1 v H1 M1=>⟨ρ1,s1,t,M1,W⟩
 |ex d s1=>rw[e] at W;exact W
 |no=>rw[e] at W;exact W
theorem z5U{m:M Bool}{f:Bool→MS}{tv:List (Option V)}{D:Ends}{σ:St}{H:Hp}(h:tSv G F (lift m f) tv D σ H):tBv G F m σ tv H fun b H1=> ∃ρ1 s1,MR G F.toFx ρ1 H1 σ tv s1∧wS G F tv (f b s1) D:=by
 obtain⟨hs,ρ,s,M,W⟩:=h
 refine⟨hs,ρ,s,M, ?_⟩
 unfold lift at W
 cases e:m s with
 |ok t s1=>rw[e] at W;exact fun ρ1 H1 M1=>⟨ρ1,s1,M1,W⟩
 |ex d s1=>rw[e] at W;exact W
 |no=>rw[e] at W;exact W
theorem ss_expr{m:M D}(he:SE X G F e m)(hs:swapsWith e none pos.line X.env=pure false:=by rfl):SS X G F (.Expr e pos) (z2f m):=
 PS.imp0 (z8k he hs) fun D σ H ⟨tv,h⟩=>⟨tv,(z1Y h).mono fun v H1 ⟨ρ1,s1,t,M1,W⟩=>W ρ1 σ H1 M1.m⟩
theorem ss_ret{m:M D}(he:SE X G F e m):SS X G F (.Return (some e) pos) (sRet m):=
 PS.imp0 (za6 he) fun D σ H ⟨tv,h⟩=>⟨tv,(z1Y h).mono fun v H1 ⟨ρ1,s1,t,M1,W⟩=>W ρ1 σ v H1 M1⟩
theorem ss_if{x y:List Stmt}{mc:M Bool}{m m':MS}(hc:SB X G F c mc)(ha:SSs X G F x m)(hb:SSs X G F y m'):SS X G F (.If c x y pos) (sIf mc m m'):=by
 refine PS.imp0 (zbF hc ha hb) fun D σ H ⟨tv,h⟩=>⟨tv,(z5U h).mono fun k H1 ⟨ρ1,s1,M1,W⟩=> ?_⟩
 cases k with
 |true=>rw[if_pos rfl];exact⟨tv,h.1,ρ1,s1,M1,W⟩
 |false=>rw[if_neg Bool.false_ne_true];exact⟨tv,h.1,ρ1,s1,M1,W⟩
noncomputable def tGn(G:Gx)(F:Fy)(g:Tg):TG:=fun v σv H Q=> ∃tv ρ s t,MRL G F.toFx ρ H σv tv s [t] [v]∧∃σ',asg g t s.σ=some σ'∧∀σv',MR G F.toFx ρ H σv' tv {s with σ:=σ'}→Q σv' H
noncomputable def tGs(G:Gx)(F:Fy)(g:List Tg):TGs:=fun vs σv H Q=> ∃tv ρ s ts,MRL G F.toFx ρ H σv tv s ts vs∧∃σ',asgL g ts s.σ=some σ'∧∀σv',MR G F.toFx ρ H σv' tv {s with σ:=σ'}→Q σv' H
noncomputable def SG(X:Cx)(G:Gx)(F:Fy)(tg:Expr)(g:Tg):Prop:=PG X tg (tGn G F g)
noncomputable def SGs(X:Cx)(G:Gx)(F:Fy)(tgs:List Expr)(g:List Tg):Prop:=PGs X tgs (tGs G F g)
theorem MRL.setS{ρ:Nat→Addr}{H:Hp}{σv tv:List (Option V)}{s:Stt}{t:D}{v:V}{ts:List D}{vs:List V}(i:Nat)(M:MRL G F.toFx ρ H σv tv s (t::ts) (v::vs)):MRL G F.toFx ρ H (σv.set i (some v)) tv {s with σ:=s.σ.set i (some t)} ts vs:=by
 have h:=M.rd
 simp only[RDs] at h
 obtain⟨_,_,e,h1,h2⟩:=h
 cases e
 have lb1: ∀l∈labs t,l<s.n∧(F.A0 (ρ l)∨F.H0 (ρ l)=none):=fun l h=>M.lb l (by simp only[z00];exact List.mem_append_left _ h)
 have all: ∀l∈z0v {s with σ:=s.σ.set i (some t)},l<s.n∧(F.A0 (ρ l)∨F.H0 (ρ l)=none):=fun l h=>by
  rcases List.mem_append.mp h with h|h
  ·rcases z2c l h with q|q
   ·exact⟨M.m.lab l (List.mem_append_left _ q),M.m.own l (List.mem_append_left _ q)⟩
   ·exact lb1 l q
  ·exact⟨M.m.lab l (List.mem_append_right _ h),M.m.own l (List.mem_append_right _ h)⟩
 exact⟨⟨M.m.sl.set i h1,M.m.tm,M.m.inj,M.m.dom,fun l h=>(all l h).1,fun l h=>(all l h).2,M.m.frm,M.m.kd,M.m.frb,M.m.bas⟩,h2,fun l h=>M.lb l (by simp only[z00];exact List.mem_append_right _ h)⟩
theorem sg_name{i:Nat}{x:Str}{p:Pos}(h:PG X (.Name x p) (z4P i)):SG X G F (.Name x p) (.nm i):=by
 intro pins s σ H v u Q I r ⟨tv,ρ,ms,t,M,σ',e,k⟩
 simp only[asg,Option.some.injEq] at e
 subst e
 exact h pins s σ H v u Q I r (k _ (M.setS i).m)
theorem sgs_nil:SGs X G F [] []:=by
 intro pins s σ H vs us Q I r ⟨tv,ρ,ms,ts,M,σ',e,k⟩
 cases ts with
 |nil=>
  simp only[asgL,Option.some.injEq] at e
  subst e
  have h:=M.rd
  simp only[RDs] at h
  exact z8l pins s σ H vs us Q I r ⟨h,k _ M.m⟩
 |cons d ds=>simp only[asgL] at e;cases e
theorem MRL.cons_inv{ρ:Nat→Addr}{H:Hp}{σv tv:List (Option V)}{s:Stt}{t:D}{ts:List D}{vs:List V}(M:MRL G F.toFx ρ H σv tv s (t::ts) vs): ∃v r,vs=v::r∧MRL G F.toFx ρ H σv tv s [t] [v]∧RDs G ρ H ts r∧LB F.toFx ρ s.n (z00 ts):=by
 have h:=M.rd
 simp only[RDs] at h
 obtain⟨v,r,rfl,h1,h2⟩:=h
 exact⟨v,r,rfl,⟨M.m,RDs.one h1,fun l h=>M.lb l (by simp only[z00,List.append_nil] at h⊢;exact List.mem_append_left _ h)⟩,h2,fun l h=>M.lb l (by simp only[z00];exact List.mem_append_right _ h)⟩
theorem PGs.imp0{es:List Expr}{t t':TGs}(h:PGs X es t)(hi: ∀vs σ H Q,t' vs σ H Q→t vs σ H Q):PGs X es t':=fun pins s σ H vs us Q I r q=>h pins s σ H vs us Q I r (hi vs σ H Q q)
theorem PG.imp0{t t':TG}(h:PG X e t)(hi: ∀v σ H Q,t' v σ H Q→t v σ H Q):PG X e t':=fun pins s σ H v u Q I r q=>h pins s σ H v u Q I r (hi v σ H Q q)
theorem sgs_cons{es:List Expr}{g:Tg}{gs:List Tg}(h1:SG X G F e g)(h2:SGs X G F es gs)(hs:(assignEach (e::es) X.env).map (·.2)=assign e X.env::(assignEach es X.env).map (·.2):=by rfl):SGs X G F (e::es) (g::gs):=by
 refine PGs.imp0 (z79 h1 h2 hs) fun vs σv H Q ⟨tv,ρ,s,ts,M,σ',e,k⟩=> ?_
 cases ts with
 |nil=>simp only[asgL] at e;cases e
 |cons d ds=>
  simp only[asgL] at e
  cases e1:asg g d s.σ with
  |none=>rw[e1] at e;cases e
  |some σ1=>
   rw[e1] at e
   obtain⟨v,r,rfl,M1,h2,lb⟩:=M.cons_inv
   exact⟨v,r,rfl,tv,ρ,s,d,M1,σ1,e1,fun σv1 M2=>⟨tv,ρ,{s with σ:=σ1},ds,⟨M2,h2,lb⟩,σ',e,k⟩⟩
theorem sg_tup{es:List Expr}{k:Nat}{gs:List Tg}(hk:X.K=G.K)(hc:X.calm=true)(h:SGs X G F es gs)(hn:(assignEach es X.env).length=gs.length:=by rfl)(hst:(assignEach es X.env).findIdx? (·.1)=none:=by rfl):SG X G F (.Tuple es k pos) (.tp gs):=by
 refine PG.imp0 (za7 hc h hn hst) fun v σv H Q ⟨tv,ρ,s,t,M,σ',e,kk⟩=> ?_
 cases t with
 |tup ds=>
  simp only[asg] at e
  obtain⟨a,xs,rfl,sq,r⟩:=M.rd1.tupq
  have len: ∀{gs:List Tg} {ds:List D} {σ σ':List (Option D)},asgL gs ds σ=some σ'→ds.length=gs.length:=by
   intro gs
   induction gs with
   |nil=>intro ds σ σ' e;cases ds with
    |nil=>rfl
    |cons _ _=>simp only[asgL] at e;cases e
   |cons g gs ih=>intro ds σ σ' e;cases ds with
    |nil=>simp only[asgL] at e;cases e
    |cons d ds=>
     simp only[asgL] at e
     cases e1:asg g d σ with
     |none=>rw[e1] at e;cases e
     |some σ1=>rw[e1] at e;rw[List.length_cons,List.length_cons,ih e]
  refine⟨a,xs,rfl,hk▸sq,by rw[←r.length];exact len e,tv,ρ,s,ds,⟨M.m,r,fun l h=>M.lb1 l (by simp only[labs];exact h)⟩,σ',e,kk⟩
 |_=>simp only[asg] at e;cases e
theorem ss_set{i:Nat}{x:Str}{p:Pos}{m:M D}(h: ∀{te:TE},PE X e te→PS X (.Assign [.Name x p] e pos) (tAsg te (z4P i)))(he:SE X G F e m):SS X G F (.Assign [.Name x p] e pos) (sAsg (.nm i) m):=by
 refine PS.imp0 (h he) fun D σ H ⟨tv,h⟩=>⟨tv,(z1Y h).mono fun v H1 ⟨ρ1,s1,t,M1,W⟩=> ?_⟩
 simp only[asg] at W
 exact W ρ1 _ H1 (M1.setS i).m
end
end Mi
namespace L2
open PySem PySem.Spec PyProof.Rows
noncomputable abbrev z5V(ifs:List Expr)(env:Env):Sem Bool:=forIn ifs true fun c r=>if r=true then do let ok←isTrue c env (eval c env);pure (ForInStep.yield ok) else pure (ForInStep.yield r)
theorem z1l{prog:Program}{w:World}{A:Around}{R:Result→Shared→Prop}{s:Shared}{elt target iter:Expr}{ifs:List Expr}{scope:Scope}{pos:Pos}{it acc:Value}{env:Env}(I:Nat→Shared→Prop)
 (turn: ∀n s,I n s→wpAny (model prog w) A (pyNext it) (fun r s₁=>match r with
  |none=>R (.ok .next) s₁
  |some v=>wpAny (model prog w) A (letOwnedTupleGo target it v) (fun _ s₁=>wpAny (model prog w) A (assign target env v) (fun _ s₂=>wpAny (model prog w) A (z5V ifs env) (fun ok s₃=>
   if ok=true then wpAny (model prog w) A (eval elt env) (fun x s₃=>
   wpAny (model prog w) A (call (.builtin "list.append") [acc,x]) (fun _ s₄=> ∃m,m<n∧I m s₄) (fun _ _=>False) s₃)
   (fun _ _=>False) s₃ else ∃m,m<n∧I m s₃) (fun _ _=>False) s₂) (fun _ _=>False) s₁) (fun _ _=>False) s₁) (fun _ _=>False) s)
 (n:Nat) (h:I n s):
 codeAny (model prog w) A (.compLoop (.ListComp elt [⟨target,iter,ifs,0⟩] scope pos) 0 it acc env) R s:=by
 refine codeAny_loop rfl I (fun n s hI=> ?_) n h
 show wpAny _ _ ((compTurn (.ListComp elt [⟨target,iter,ifs,0⟩] scope pos) 0 it acc env).onRaise (fun x=>do noteFrame x env;theTreesLotGoes x)) _ _ s
 refine wpAny_noted ?_
 rw[compTurn_list]
 refine wpAny_bind (wpAny_standAt (wpAny_bind (wpAny_mono (turn n s hI) (fun r s₁ h₁=> ?_) fun _ _ h'=>h'.elim)))
 cases r with
 |none=>exact wpAny_pure h₁
 |some v=>
  refine wpAny_bind (wpAny_mono h₁ (fun _ s₁ h₁=> ?_) fun _ _ h'=>h'.elim)
  refine wpAny_bind (wpAny_mono h₁ (fun _ s₂ h₂=>wpAny_bind (wpAny_mono h₂ (fun ok s₃ h₃=> ?_) fun _ _ h'=>h'.elim)) fun _ _ h'=>h'.elim)
  cases ok with
  |false=>exact wpAny_pure ⟨rfl,h₃⟩
  |true=>
   exact wpAny_bind (wpAny_bind (wpAny_mono h₃ (fun x s₄ h₄=>wpAny_bind (wpAny_mono h₄ (fun _ s₅ h₅=>wpAny_pure (wpAny_pure ⟨rfl,h₅⟩)) fun _ _ h'=>h'.elim)) fun _ _ h'=>h'.elim))
noncomputable def PTs(X:Cx)(ifs:List Expr)(t:TT):Prop:=
 ∀(pins:List (Addr×Obj)) (s:Shared) (σ:St) (H:Hp) (Q:Bool→Hp→Prop),Inv X pins σ H s→t σ H Q→wpAny (model X.prog X.w) X.A (z5V ifs X.env) (TP X pins σ Q) X.xe s
theorem z8L{X:Cx}:PTs X [] (fun _ H Q=>Q true H):=fun pins s σ H Q I h=>wpAny_tests_nil ⟨H,I,h⟩
section
variable{X:Cx}{tg iter elt:Expr}{ifs:List Expr}{pos:Pos}{scope:Scope}{own frees:List Str}{ix:List Nat}{wi:TI}{g:TG}{tt:TT}{te:TE}
noncomputable def z83(K:PySem.W.Frag)(wi:TI)(g:TG)(tt:TT)(te:TE)(k:Nat)(ix:List Nat):TE:=fun σ H Q=>wi σ H fun J H1=> ∀D,H1 D=none→(∀a o,K.lookup a=some o→upd H1 D (.lst []) a=none)→
 ∃W:Nat→Nat→List V→St→Hp→Prop,(∃m,W 0 m [] (z1s k ix σ) (upd H1 D (.lst [])))∧
  ∀i m ys σ' H',W i m ys σ' H'→H' D=some (.lst ys)∧((J.stop i H'∧Q (.ref D) H')∨
   (J.go i H'∧∀x H2,J.yld i H' x H2→g x σ' H2 fun σ2 H3=>tt σ2 H3 fun ok H3=>if ok=true then te σ2 H3 fun y H4=>H4 D=some (.lst ys)∧ys.length<sizeLine∧∃m',m'<m∧W (i+1) m' (ys++[y]) σ2 (upd H4 D (.lst (ys++[y])))
    else ∃m',m'<m∧W (i+1) m' ys σ2 H3))
theorem z5W(hc:X.calm=true)(S:z1d X.env.scope scope own frees X.N ix)(hi:PI X tg iter wi)
 (hg: ∀cl C s₀ H₀ fp pn,PG (z0X X scope own frees cl C s₀ H₀ fp pn) tg g) (ht: ∀cl C s₀ H₀ fp pn,PTs (z0X X scope own frees cl C s₀ H₀ fp pn) ifs tt) (he: ∀cl C s₀ H₀ fp pn,PE (z0X X scope own frees cl C s₀ H₀ fp pn) elt te)
 (hs: ∀x,foldedSetIterable iter X.env x=pure x:=by intro _;rfl):
 PE X (.ListComp elt [⟨tg,iter,ifs,0⟩] scope pos) (z83 X.K wi g tt te own.length ix):=by
 intro pins s σ H Q I h
 have hclos:closureFor scope X.env=pure (z1r X.env scope.names []):=z2O fun y hy e=>I.ok.has y.1 (S.fr y hy e)
 rw[eval_ListComp]
 refine wpAny_comprehension_free (use:=none) rfl hs hclos S.kind S.names (thn (hi pins s σ H _ I h) fun v s1 h1=>thn h1 fun itv s2 h2=> ?_)
 obtain⟨it,fp,tn,J,H2,e,I2,T,st2,f2,hD⟩:=h2
 subst e
 refine wpAny_newObj_type ?_
 have I3:Inv X pins σ (upd H2 s2.heap.objs.size (.lst [])) {s2 with heap:=s2.heap.push {cls:= .type "list",data:= .seq ([]:List Value).toArray}}:=I2.lnew (t':=s2.toks) .nil (Nat.zero_le _)
 have nD:H2 s2.heap.objs.size=none:=I2.fresh
 obtain⟨W,⟨m0,w0⟩,turn⟩:=hD _ nD fun a o e=>(I3.bs a o (I3.ok.mod.kin a o e)).2
 have fpl: ∀b∈fp,b<s2.heap.objs.size:=fun b z=>by
  obtain⟨o,q,_⟩:=T.obj _ _ st2 b z
  exact Heap.lt_size q
 generalize hs3:({s2 with heap:=s2.heap.push {cls:= .type "list",data:= .seq ([]:List Value).toArray}}:Shared)=s3 at I3
 have hpush: ∀b o,s2.heap.get? b=some o→s3.heap.get? b=some o:=fun b o q=>by rw[←hs3];exact Heap.get?_push_of_some _ q
 have hsz3:s2.heap.objs.size<s3.heap.objs.size:=by rw[←hs3];show _<(s2.heap.push _).objs.size;rw[Heap.size_push];exact Nat.lt_succ_self _
 have f3: ∀b∈fp,FpOk X pins (upd H2 s2.heap.objs.size (.lst [])) b:=fun b z=>⟨by rw[z05 (Nat.ne_of_lt (fpl b z))];exact(f2 b z).1,(f2 b z).2⟩
 have st3:tn 0 s3.heap:=T.keep _ _ _ st2 fun b _ o q=>hpush b o q
 generalize hDd:s2.heap.objs.size=D at*
 generalize hH3:upd H2 D (.lst [])=H3 at*
 have goal:wpAny (model X.prog X.w) X.A (newFunctionEnv scope X.env.globals (z1r X.env scope.names []) [] X.env.qual none .none (some X.env)) (fun cenv s₄=>
  codeAny (model X.prog X.w) X.A (.compStart (.ListComp elt [⟨tg,iter,ifs,0⟩] scope pos) 0 (.ref it) (.ref D) {cenv with scope:=relabel scope X.env}) (compPost (model X.prog X.w) X.A X.xe none (EP X pins σ Q) (.ref D) cenv.locals) s₄) X.xe s3:=by
  refine wpAny_newFunctionEnv S.nocell (by intro y hy;simp at hy) (fun h1 hns hsb=> ?_) S.kind
  have hns:h1.Ns s3.heap.objs.size (fun _=>none):=hns
  have keep4: ∀b o,s3.heap.get? b=some o→h1.get? b=some o:=fun b o q=>hsb.extBut b o (Nat.ne_of_lt (Heap.lt_size q)) (Heap.get?_push_of_some _ q)
  have fpl3: ∀b∈fp,b<s3.heap.objs.size:=fun b z=>Nat.lt_trans (fpl b z) hsz3
  generalize hs4:({s3 with heap:=h1,toks:=s3.toks+([]:List (Str×Value)).length}:Shared)=s4
  have I4:Inv (z0X X scope own frees (z1r X.env scope.names []) s3.heap.objs.size s3 H3 fp (X.pn++pins)) [] (z1s own.length ix σ) H3 s4:=
   z50 S I3 f3 fpl3 (by rw[←hs4]) (by rw[←hs4]) (fun b o q=>by rw[←hs4];exact keep4 b o q) (by rw[←hs4];exact hns)
  have st4:tn 0 s4.heap:=T.keep _ _ _ st3 fun b _ o q=>by rw[←hs4];exact keep4 b o q
  generalize hXc:z0X X scope own frees (z1r X.env scope.names []) s3.heap.objs.size s3 H3 fp (X.pn++pins)=Y at I4
  have eP:Y.prog=X.prog:=by rw[←hXc];rfl
  have eW:Y.w=X.w:=by rw[←hXc];rfl
  have eK:Y.K=X.K:=by rw[←hXc];rfl
  have eA:Y.A=X.A:=by rw[←hXc];rfl
  have eC:Y.calm=true:=by rw[←hXc];exact hc
  have eE:Y.env=compEnvC scope (z1r X.env scope.names []) s3.heap.objs.size X.env:=by rw[←hXc];rfl
  have eX:Y.xe=fun _ _=>False:=by rw[←hXc];rfl
  have eF: ∀{H':Hp},(∀b∈fp,H' b=none)→∀b∈fp,FpOk Y [] H' b:=fun{H'} hn b hb=>by
   rw[←hXc]
   obtain⟨g1,g2,g3,g4,g5,g6⟩:=f3 b hb
   refine⟨hn b hb,Nat.ne_of_lt (fpl3 b hb),fun q=> ?_, .inl hb,fun x c e=> ?_,fun p hp=> ?_⟩
   ·rcases List.mem_cons.mp (I3.stkSub b q) with r|r
    ·exact g2 r
    ·exact g3 r
   ·rcases z2P _ _ e with q|q
    ·exact nomatch q
    ·exact g5 x c q.1
   ·have hp:p∈(X.pn++pins)++[]:=hp
    rw[List.append_nil] at hp
    exact g6 p hp
  have gY:PG Y tg g:=by rw[←hXc];exact hg _ _ _ _ _ _
  have tY:PE Y elt te:=by rw[←hXc];exact he _ _ _ _ _ _
  have sY:PTs Y ifs tt:=by rw[←hXc];exact ht _ _ _ _ _ _
  have loop:codeAny (model X.prog X.w) X.A (.compLoop (.ListComp elt [⟨tg,iter,ifs,0⟩] scope pos) 0 (.ref it) (.ref D) (compEnvC scope (z1r X.env scope.names []) s3.heap.objs.size X.env))
   (compPost (model X.prog X.w) X.A X.xe none (EP X pins σ Q) (.ref D) s3.heap.objs.size) s4:=by
   refine z1l (fun n s'=> ∃i ys σ' H',Inv Y [] σ' H' s'∧tn i s'.heap∧(∀b∈fp,H' b=none)∧W i n ys σ' H') ?_ m0 ⟨0,[],_,_,I4,st4,fun b hb=>(f3 b hb).1,w0⟩
   rintro n s5 ⟨i,ys,σ5,H5,I5,st5,fr5,w5⟩
   obtain⟨hD5,alt⟩:=turn i n ys σ5 H5 w5
   rcases alt with⟨stop,qn⟩|⟨go,step⟩
   ·have d:=T.done Y eP eW eK eC i [] s5 σ5 H5 (fun _ _=>False) I5 (eF fr5) st5 stop
    rw[eA] at d
    refine thn d fun r s6 ⟨hr,I6⟩=> ?_
    subst hr
    subst hXc
    obtain⟨m6,n6,_⟩:=I6.loc
    exact⟨m6,n6,fun h'' hs''=>⟨.ref D,H5,z7m I3 f3 (Nat.le_refl _) I6 hs'',rfl,qn⟩⟩
   ·have d:=T.item Y eP eW eK eC i [] s5 σ5 H5 (fun _ _=>False) I5 (eF fr5) st5 go
    rw[eA] at d
    refine thn d fun r s6 ⟨u,hr,h6⟩=> ?_
    subst hr
    refine thn h6 fun _ s7 ⟨x,H7,I7,r7,y7,st7,fr7⟩=> ?_
    have I7':=I7.pinned (eF fr7) (T.obj _ _ st7)
    have e1:=gY _ s7 σ5 H7 x u _ I7' r7 (step x H7 y7)
    rw[eP,eW,eA,eE,eX] at e1
    refine thn e1 fun _ s8 ⟨σ8,H8,I8,q8⟩=> ?_
    have e1':=sY _ s8 σ8 H8 _ I8 q8
    rw[eP,eW,eA,eE,eX] at e1'
    refine thn e1' fun ok s8 ⟨H8,I8,q8⟩=> ?_
    cases ok with
    |false=>
     rw[if_neg Bool.false_ne_true] at q8⊢
     obtain⟨m',hm',w9⟩:=q8
     refine⟨m',hm',i+1,_,σ8,_,I8.unpinned,T.keep _ _ _ st7 fun b hb o e=> ?_,fun b hb=> ?_,w9⟩
     ·exact(I8.pin (b,o) (List.mem_append_right _ (List.mem_append_right _ (z0K hb e)))).1
     ·obtain⟨o,e,d⟩:=T.obj _ _ st7 b hb
      exact(I8.pin (b,o) (List.mem_append_right _ (List.mem_append_right _ (z0K hb e)))).2.1
    |true=>
    rw[if_pos rfl] at q8⊢
    have e2:=tY _ s8 σ8 H8 _ I8 q8
    rw[eP,eW,eA,eE,eX] at e2
    refine thn e2 fun yv s9 ⟨y,H9,I9,r9,hD9,hz9,m',hm',w9⟩=> ?_
    have e3:=z3i (X:=Y) _ s9 σ8 H9 (.ref D) [y] (.ref D) [yv] (fun v H'=>v= .non∧H'=upd H9 D (.lst (ys++[y]))) I9 rfl (.cons r9 .nil) ⟨D,ys,y,rfl,rfl,hD9,hz9,rfl,rfl⟩
    rw[eP,eW,eA,eX] at e3
    refine thn e3 fun _ s10 ⟨v10,H10,I10,r10,_,e10⟩=> ?_
    subst e10
    refine⟨m',hm',i+1,_,σ8,_,I10.unpinned,T.keep _ _ _ st7 fun b hb o e=> ?_,fun b hb=> ?_,w9⟩
    ·exact(I10.pin (b,o) (List.mem_append_right _ (List.mem_append_right _ (z0K hb e)))).1
    ·obtain⟨o,e,d⟩:=T.obj _ _ st7 b hb
     exact(I10.pin (b,o) (List.mem_append_right _ (List.mem_append_right _ (z0K hb e)))).2.1
  exact codeAny_compStart_list loop (T.self _ 0 _ _ _ st4 loop)
 exact goal
end
end L2
namespace L2
open PySem PySem.Spec PyProof.Rows
structure z9U(osc sc:Scope)(own frees N:List Str)(ix:List Nat):Prop where
 kind:sc.kind= .function
 names: ∀y∈sc.names,y.2= .local→sc.names.lookup y.1=some .local
 fr: ∀y∈sc.names,y.2= .free→osc.names.lookup y.1=some .cell∨osc.names.lookup y.1=some .free
 nd:(own++frees).Nodup
 frl: ∀x∈frees,sc.names.lookup x=some .free
 ixs:ix.map (fun i=>N[i]?)=frees.map some
 frc: ∀y∈sc.names,y.2= .cell→y.1∉frees
 owf: ∀y∈sc.names,y.2= .free→y.1∉own
section
variable{X:Cx}{tg iter elt:Expr}{ifs:List Expr}{pos:Pos}{scope:Scope}{own frees:List Str}{ix:List Nat}{wi:TI}{g:TG}{tt:TT}{te:TE}
end
end L2
namespace L2
open PySem PySem.Spec PyProof.Rows
theorem Inv.turnedL{X:Cx}{pins:List (Addr×Obj)}{σ:List (Option V)}{H:Hp}{s:Shared}{h':Heap}{t':Nat}{fp:List Addr}(I:Inv X pins σ H s)(k: ∀b o,b∉fp→s.heap.get? b=some o→h'.get? b=some o)(hf: ∀b∈fp,FpOk X pins H b):Inv X pins σ H {s with heap:=h',toks:=t'}:=by
 have nit: ∀b u,H b=some u→b∉fp:=fun b u e z=>by rw[(hf b z).1] at e;cases e
 refine I.step (g':=s.gens) (d':=s.drawn) (ch:=fp) (fun b hb=> ?_) (fun b o _ _ hc e _=>k b o hc e) (fun b o _ _ hc e _=>⟨o.slots,k b o hc e⟩) (fun _ _ _ _ n=>n)
  (fun b o hc e=>⟨o,k b o hc e⟩) (fun _ _ e=>e) (fun _ _ _ e=>e) (fun b ps e=>⟨#[],by rw[e];simp⟩) (fun m hm=> ?_) (fun b u e=> ?_) I.bare
 ·obtain⟨f0,f1,f2,f3,f4,f5⟩:=hf b hb
  exact⟨f3,f1,f4,f5⟩
 ·obtain⟨o,es,ep,ho,r⟩:=hm
  exact⟨o,es,ep,k _ o (fun z=>(hf _ z).2.1 rfl) ho,r⟩
 ·refine(I.hok b u e).stay (fun c v hc q=>k c v ?_ q) (fun _ q=>q) fun _ _ q=>q
  rcases hc with z|z
  ·rw[z];exact nit b u e
  ·exact nit c _ z
noncomputable def Ite(K:PySem.W.Frag)(a:Addr):It:=
 ⟨fun i H=> ∃xs x,SqL K H a xs∧xs[i]? =some x,fun i H v H'=> ∃p x,H p=none∧v= .ref p∧H'=upd H p (.tup [.int i,x])∧(∀xs,SqL K H a xs→xs[i]? =some x)∧∀b o,K.lookup b=some o→H' b=none,fun i H=> ∃xs,SqL K H a xs∧xs.length≤i⟩
theorem z5X{P:Program}{w:World}{K:PySem.W.Frag}{elts:List Expr}{x1:Nat}{tpos:Pos}(a e it:Addr)(hne:e≠it):Turn P w K (.Tuple elts x1 tpos) (Ite K a) [e,it] e (fun i h=> ∃old,IsEnum h e it i old∧h.IsListIter it a i) where
 mem:=by simp
 obj:=fun i h st b hb=>by
  obtain⟨old,h1,h2⟩:=st
  have hb:b=e∨b=it:=by simpa using hb
  rcases hb with rfl|rfl
  ·exact⟨_,h1,fun v z=>by
    have z':Data.fields _=Data.cell v:=z
    cases z'⟩
  ·obtain⟨o,e,c,d⟩:=h2
   exact⟨o,e,fun v z=>by rw[d] at z;cases z⟩
 keep:=fun i h h' st k=>by
  obtain⟨old,h1,h2⟩:=st
  exact⟨old,k e (by simp) _ h1,h2.at fun o q=>k it (by simp) o q⟩
 item:=by
  intro X hP hw hK hc i pins s σ H E I hf st hg
  subst hP hw hK
  obtain⟨old,st1,st2⟩:=st
  obtain⟨xs,x,hq,hx⟩:=hg
  obtain⟨its,rv,p,hz⟩:=I.list hq
  obtain⟨u,hu,ru⟩:=rv.get hx
  refine wpAny_pyNext_enum_item st1 st2 p.isList (x:=u) (by simpa using hu) hne fun h1 heo hit ht hsz hk=> ?_
  refine⟨_,rfl,wpAny_letOwnedTupleGo_enum heo fun h2 he2 hs2=> ?_⟩
  have hs2:Heap.SameBut e h1 h2:=hs2
  have hel:e<s.heap.objs.size:=Heap.lt_size st1
  have ht2:h2.get? s.heap.objs.size=some {cls:= .type "tuple",data:= .seq #[.int i s.toks,u]}:=(hs2.2 _ (Nat.ne_of_gt hel)).trans ht
  have fr: ∀b∈[e,it],b≠s.heap.objs.size:=fun b hb=>by
   have hb:b=e∨b=it:=by simpa using hb
   rcases hb with rfl|rfl
   ·exact Nat.ne_of_lt hel
   ·obtain⟨o,q,_⟩:=st2
    exact Nat.ne_of_lt (Heap.lt_size q)
  have I1:Inv X pins σ (upd H s.heap.objs.size (.tup [.int i,x])) {s with heap:=s.heap.push {cls:= .type "tuple",data:= .seq #[.int i s.toks,u]},toks:=s.toks}:=I.laid (t':=s.toks) (o:= .tup [.int i,x]) (fun b ob q=>Heap.get?_push_of_some _ q) (Nat.le_refl _) ⟨by show 2≤sizeLine;decide,[.int i s.toks,u], .cons ⟨_,rfl⟩ (.cons ru .nil),IsTup.new _ _⟩
  have f1: ∀b∈[e,it],FpOk X pins (upd H s.heap.objs.size (.tup [.int i,x])) b:=fun b hb=>⟨by rw[z05 (fr b hb)];exact(hf b hb).1,(hf b hb).2⟩
  have I2:=I1.turnedL (h':=h2) (t':=s.toks+1) (fun b o hb q=>by
   have hb:b≠e∧b≠it:=by simpa using hb
   rcases Heap.get?_push_cases (show(s.heap.push {cls:= .type "tuple",data:= .seq #[.int i s.toks,u]}).get? b=some o from q) with⟨rfl,rfl⟩|q'
   ·exact ht2
   ·exact(hs2.2 b hb.1).trans (hk b o hb.1 hb.2 q')) f1
  refine⟨.ref s.heap.objs.size,_,I2,rfl,⟨_,x,I.hok.fresh (Nat.le_refl _),rfl,rfl,fun ys hy=>by rw[I.list_inj hy hq];exact hx,fun b o q=>(I2.bs b o (I2.ok.mod.kin b o q)).2⟩,⟨u, ?_, ?_⟩,fun b hb=>(f1 b hb).1⟩
  ·have:((i+1:Nat):Int)=(i:Int)+1:=by push_cast;rfl
   rw[this];exact he2
  ·obtain⟨o,q,r⟩:=hit
   exact⟨o,(hs2.2 it (Ne.symm hne)).trans q,r⟩
 done:=by
  intro X hP hw hK hc i pins s σ H E I hf st hg
  subst hP hw hK
  obtain⟨old,st1,st2⟩:=st
  obtain⟨xs,hq,hx⟩:=hg
  obtain⟨its,rv,p,hz⟩:=I.list hq
  have hl:=rv.length
  exact wpAny_pyNext_enum_end (I.ok.hd hc) st1 st2 p.isList (by simp;omega) fun h' eb=>⟨rfl,I.turnedL (t':=s.toks) (fun b o hb q=>eb b o (fun z=>hb (by simp[z])) q) hf⟩
 self:=fun A i s Q E st h=>by
  obtain⟨old,st1,_⟩:=st
  exact wpAny_pyIter_enum st1 h
section
variable{X:Cx}
end
end L2
namespace L2
open PySem PySem.Spec PyProof.Rows
noncomputable def z55(lo:Int)(n:Nat):List V:=(List.range n).map fun(k:Nat)=>V.int (lo+(k:Int))
theorem z2g{lo:Int}{n:Nat}:(z55 lo n).length=n:=by simp[z55]
theorem z5Y: ∀{vs:List V} {us:List Value},vs.length=us.length→(∀(i:Nat) (v:V) (u:Value),vs[i]? =some v→us[i]? =some u→RelV v u)→Vals vs us
 |[],[],_,_=> .nil
 |v::vs,u::us,hl,h=> .cons (h 0 v u rfl rfl) (z5Y (by simpa using hl) fun i v u h1 h2=>h (i+1) v u (by simpa using h1) (by simpa using h2))
section
variable{X:Cx}
noncomputable def tLR(ta:TA):TE:=fun σ H Q=>ta σ H fun vs H1=> ∃i j:Int,vs=[.int i, .int j]∧(-(2^62)≤i∧i<2^62∧-(2^62)≤j∧j<2^62)∧(j -i).toNat≤sizeLine∧∀l,H1 l=none→Q (.ref l) (upd H1 l (.lst (z55 i (j -i).toNat)))
theorem z3n{a b:Expr}{ta:TA}{p p2 pos pos2:Pos}(hc:X.calm=true)(hgl:Gl X "list")(hml:X.mg "list" =none)(hgr:Gl X "range")(hmr:X.mg "range" =none)(ha:PA X [a,b] ta)(hs:starEach [a,b] X.env=[(false,eval a X.env),(false,eval b X.env)]:=by rfl)(hs2:starEach [b] X.env=[(false,eval b X.env)]:=by rfl)
 (hso:starEach [.Call (.Name "range" p2) [a,b] [] pos2] X.env=[(false,eval (.Call (.Name "range" p2) [a,b] [] pos2) X.env)]:=by rfl):
 PE X (.Call (.Name "list" p) [.Call (.Name "range" p2) [a,b] [] pos2] [] pos) (tLR ta):=by
 intro pins s σ H Q I h
 refine Call_ (z1q I hgl hml PyProof.Rows.Boot.«list» (PyProof.Rows.callWith_type1 ?_ hso rfl))
 rw[hso]
 show wpAny _ _ (spliced ((false,eval (.Call (.Name "range" p2) [a,b] [] pos2) X.env)::backTo pos [])) _ _ s
 refine Calls.spliced_cons ?_
 refine Call_ (z1q I hgr hmr boot_range (PyProof.Rows.callWith_type1 (thn (ha pos2 pins s σ H _ I h) fun us s1 ⟨vs,H1,I1,r1,q1⟩=> ?_) (by rw[hs,hs2]) (by rw[hs2];rfl)))
 obtain⟨i,j,e,⟨q1,q2,q3,q4⟩,hz,q⟩:=q1
 subst e
 cases r1 with
 |cons r rr=>
  cases rr with
  |cons r' rr=>
   cases rr
   obtain⟨t,rfl⟩:=r
   obtain⟨t',rfl⟩:=r'
   refine call_range_2 (Calls.spliced_nil ?_)
   have hn:Builtin.Range.rangeSize i j 1=((j -i).toNat:Nat):=by rw[rangeSize_one];split<;>omega
   have I2:Inv X pins σ H1 {s1 with heap:=s1.heap.push {cls:= .type "range",data:= .fields #[.int i t, .int j t', .int 1 s1.toks]},toks:=s1.toks+1}:=I1.kept fun b o e=>Heap.get?_push_of_some _ e
   refine call_list_range (I1.ok.hd hc) (IsRange.new ..) (small_one q1 q2 q3 q4) hn hz fun h' tk acc c hk hS hacc=> ?_
   have hv:Vals (z55 i (j -i).toNat) acc.toList:=by
    obtain⟨hsz,hit⟩:=hacc
    refine z5Y (by rw[z2g];simpa using hsz.symm) fun k v u h1 h2=> ?_
    have hk:k<(j -i).toNat:=by
     have:=(List.getElem?_eq_some_iff.mp h1).1
     rwa [z2g] at this
    have h1:v= .int (i+(k:Int)):=by
     simp only[z55,List.getElem?_map,List.getElem?_range hk,Option.map_some,Option.some.injEq] at h1
     exact h1.symm
    subst h1
    have h2:acc[k]? =some u:=by simpa using h2
    obtain⟨t,ht⟩:=hit k u h2
    refine⟨t, ?_⟩
    rw[ht,Int.mul_one]
   exact⟨.ref _,_,I2.laid (t':=tk) (o:= .lst (z55 i (j -i).toNat)) hk (Nat.le_refl _) ⟨by rw[z2g];exact hz,acc.toList,c,hv,by simpa using hS⟩,rfl,q _ (I2.hok.fresh (Nat.le_refl _))⟩
end
end L2
namespace L2
open PySem PySem.Spec PyProof.Rows
section
variable{prog:Program}{w:World}{A:Around}{E:Value→Shared→Prop}{s:Shared}
theorem z1E{it t:Addr}{i:Nat}{items}{x:Value}{Q:Value→Shared→Prop}(hit:s.heap.IsTupleIter it t i)
 (hl:s.heap.IsTuple t items) (hx:items[i]? =some x)
 (hQ: ∀h',h'.IsTupleIter it t (i+1)→Heap.SameBut it s.heap h'→Q x {s with heap:=h'}):
 wpAny (model prog w) A (Builtin.SmallTypes.nextOf (.ref it)) Q E s:=by
 obtain⟨o,ho,hc,hd⟩:=id hit
 obtain⟨ol,hol,_,nl,hdl⟩:=hl
 unfold Builtin.SmallTypes.nextOf
 refine wpAny_bind (wpAny_callSpecial?_slot (name:=Str.ofString "__next__") hit.typeIs F.slot_tuple_iterator_next
  (wpAny_call_entry F.slot_tuple_iterator_next hit.typeIs F.entry_tuple_iterator_next ?_ (F.args_tuple_iterator_next_1 _)))
 show wpAny _ _ (field (.ref it) 0>>=_) _ _ s
 refine wpAny_bind (wpAny_field ho hd (x:= .ref t) rfl ?_)
 show wpAny _ _ (if(Value.ref t==Value.none)=true then _ else _) _ _ s
 rw[if_neg (show ¬((Value.ref t==Value.none)=true) from Bool.false_ne_true)]
 show wpAny _ _ (field (.ref it) 1>>=_) _ _ s
 refine wpAny_bind (wpAny_field ho hd (x:= .int i 0) rfl ?_)
 show wpAny _ _ (seqItems? (.ref t)>>=_) _ _ s
 refine wpAny_bind (wpAny_seqItems hol hdl ?_)
 simp only[Int.toNat_natCast,hx]
 refine wpAny_bind (wpAny_setField ho hd (by simp) (wpAny_pure ⟨x,rfl,wpAny_pure (hQ _ ?_ (Heap.SameBut.update ..))⟩))
 exact⟨_,Heap.get?_update_self _ ho (Obj.isFreed_of_fields (Obj.data_mapFields hd _)),(Obj.cls_mapFields ..).trans hc,by
  rw[Obj.data_mapFields hd];simp[rawInt]⟩
theorem z1a{it t:Addr}{i:Nat}{items}{Q:Value→Shared→Prop}(hh:A.handled=none)
 (hit:s.heap.IsTupleIter it t i) (hl:s.heap.IsTuple t items) (hx:items[i]? =none)
 (hE: ∀h' e,Heap.ExtBut it s.heap h'→(∃o,h'.get? e=some o∧o.cls= .type "StopIteration")→E (.ref e) {s with heap:=h'}):
 wpAny (model prog w) A (Builtin.SmallTypes.nextOf (.ref it)) Q E s:=by
 obtain⟨o,ho,hc,hd⟩:=id hit
 obtain⟨ol,hol,_,nl,hdl⟩:=hl
 unfold Builtin.SmallTypes.nextOf
 refine wpAny_bind (wpAny_callSpecial?_slot (name:=Str.ofString "__next__") hit.typeIs F.slot_tuple_iterator_next
  (wpAny_call_entry F.slot_tuple_iterator_next hit.typeIs F.entry_tuple_iterator_next ?_ (F.args_tuple_iterator_next_1 _)))
 show wpAny _ _ (field (.ref it) 0>>=_) _ _ s
 refine wpAny_bind (wpAny_field ho hd (x:= .ref t) rfl ?_)
 show wpAny _ _ (if(Value.ref t==Value.none)=true then _ else _) _ _ s
 rw[if_neg (show ¬((Value.ref t==Value.none)=true) from Bool.false_ne_true)]
 show wpAny _ _ (field (.ref it) 1>>=_) _ _ s
 refine wpAny_bind (wpAny_field ho hd (x:= .int i 0) rfl ?_)
 show wpAny _ _ (seqItems? (.ref t)>>=_) _ _ s
 refine wpAny_bind (wpAny_seqItems hol hdl ?_)
 simp only[Int.toNat_natCast,hx]
 refine wpAny_bind (wpAny_rule (wpAny_bind (wpAny_setField ho hd (by simp) ?_)))
 show wpAny _ _ (newExc (.type "StopIteration") []>>=_) _ _ _
 refine wpAny_bind ?_
 simp only[newExc,newTuple]
 refine wpAny_bind (wpAny_newObj_type ?_ (by size_fits))
 refine wpAny_bind (m:=firstArgMember _ _) (wpAny_of_eq (a:=Value.none) (by first|rfl|(simp only[firstArgMember];rfl)) ?_)
 refine wpAny_newObj_type ?_ (by size_fits)
 simp only[raiseNew]
 refine wpAny_bind (wpAny_handled ?_)
 first|rw[show A.in1.handled=none from hh]|rw[hh]
 refine wpAny_bind (wpAny_pure (wpAny_throw ?_))
 exact hE _ _ (((Heap.SameBut.update ..).extBut.push _).push _) ⟨_,Heap.get?_push_size _ rfl,rfl⟩
end
theorem z3M{prog:Program}{w:World}{A:Around}(hh:A.handled=none)(it l:Addr)(hne:l≠it)(items:Array Value):
 Draws prog w A it [it,l] items.size (fun i v=>items[i]? =some v) (fun i h=>h.IsTupleIter it l i∧h.IsTuple l items) where
 live:=fun _ _ st=>let⟨o,ho,_⟩:=st.1;⟨o,ho⟩
 frame:=fun _ _ _ st hk=>⟨st.1.at fun o e=>hk it (by simp) o e,let⟨o,ho,r⟩:=st.2;⟨o,hk l (by simp) o ho,r⟩⟩
 item:=fun i s Q E hi st hQ=>by
  refine z1E st.1 st.2 (x:=items[i]) (by simp[hi]) fun h' hit' hs'=> ?_
  exact hQ _ h' s.toks (by simp[hi]) ⟨hit',st.2.extBut hs'.extBut hne⟩ hs'
 done:=fun s Q E st hE=>z1a hh st.1 st.2 (by simp) hE
theorem z1m(l:Addr)(items:Array Value)(n:Nat)(dct:Option Addr)(sl:Array (Option Value)):
 Meets (Builtin.«enumerate.__new__» ⟨[.type "enumerate", .ref l],[]⟩) (fun _ R s=>s.heap.get? l=some {cls:= .type "tuple",dict:=dct,data:= .seq items n,slots:=sl}∧
  R (.ok (.ret (.ref (s.heap.push {cls:= .type "tuple_iterator",data:= .fields #[.ref l, .int 0 0]}).objs.size)))
   {s with heap:=(s.heap.push {cls:= .type "tuple_iterator",data:= .fields #[.ref l, .int 0 0]}).push {cls:= .type "enumerate",data:= .fields #[.none, .bool false, .ref s.heap.objs.size,rawInt 0, .none, .none]}}):=
 .of_wp fun prog w A R s h=>by
  obtain⟨hp,g,d,tk,os⟩:=s;obtain⟨hl,h⟩:=h
  have hsub:=sub_enumerate
  have hL:Heap.IsTuple (Shared.heap ⟨hp,g,d,tk,os⟩) l items:=⟨_,hl,rfl,n,rfl⟩
  wp_walk using AutoSeq1.wpAny_loadPart' hl
  refine wpAny_stack_any fun st=>wpAny_pure ?_
  split
  ·rename_i c _ _ _ _ _
   cases(c==Value.type "enumerate")
   ·wp_walk using AutoSeq1.wpAny_loadPart' hl,wpAny_pyIter_tuple hL
    exact⟨_,rfl,h⟩
   ·wp_walk using AutoSeq1.wpAny_loadPart' hl,wpAny_pyIter_tuple hL
    exact⟨_,rfl,h⟩
  ·wp_walk using AutoSeq1.wpAny_loadPart' hl,wpAny_pyIter_tuple hL
   exact⟨_,rfl,h⟩
theorem z1n{prog:Program}{w:World}{A:Around}{E:Value→Shared→Prop}{s:Shared}{l:Addr}{items:Array Value}{Q:Value→Shared→Prop}(hL:s.heap.IsTuple l items)
 (h: ∀h',IsEnum h' (s.heap.objs.size+1) s.heap.objs.size 0 .none→h'.IsTupleIter s.heap.objs.size l 0→h'.objs.size=s.heap.objs.size+2→
  (∀b o,s.heap.get? b=some o→h'.get? b=some o)→Q (.ref (s.heap.objs.size+1)) {s with heap:=h'}):
 wpAny (model prog w) A (call (.type "enumerate") [.ref l]) Q E s:=by
 obtain⟨⟨c,dct,dt,sl⟩,hl,hc,n,hd⟩:=hL
 replace hc:c= .type "tuple" :=hc
 replace hd:dt= .seq items n:=hd
 subst hc hd
 refine callType_new F.called_enumerate (by decide) (F.typeCall_enumerate_1 _) (F.newCall_enumerate_1 _) (fun obj=>F.args_object_init_2 obj _) F.entry_enumerate_new
  (z1m l items n dct sl) ⟨hl, ?_⟩
 have hz:(s.heap.push {cls:= .type "tuple_iterator",data:= .fields #[.ref l, .int 0 0]}).objs.size=s.heap.objs.size+1:=Heap.size_push ..
 show _∧_
 rw[hz]
 have he:IsEnum ((s.heap.push {cls:= .type "tuple_iterator",data:= .fields #[.ref l, .int 0 0]}).push
  {cls:= .type "enumerate",data:= .fields #[.none, .bool false, .ref s.heap.objs.size,rawInt 0, .none, .none]}) (s.heap.objs.size+1) s.heap.objs.size 0 .none:=by
  have:=Heap.get?_push_size (s.heap.push {cls:= .type "tuple_iterator",data:= .fields #[.ref l, .int 0 0]})
   (o:={cls:= .type "enumerate",data:= .fields #[.none, .bool false, .ref s.heap.objs.size,rawInt 0, .none, .none]}) rfl
  rw[hz] at this;exact this
 refine⟨⟨_,he,rfl⟩,h _ he ⟨_,Heap.get?_push_of_some _ (Heap.get?_push_size _ rfl),rfl,rfl⟩ (by rw[Heap.size_push,hz]) fun b o x=>Heap.get?_push_of_some _ (Heap.get?_push_of_some _ x)⟩
noncomputable def Itet(K:PySem.W.Frag)(a:Addr):It:=
 ⟨fun i H=> ∃xs x,SqT K H a xs∧xs[i]? =some x,fun i H v H'=> ∃p x,H p=none∧v= .ref p∧H'=upd H p (.tup [.int i,x])∧(∀xs,SqT K H a xs→xs[i]? =some x)∧∀b o,K.lookup b=some o→H' b=none,fun i H=> ∃xs,SqT K H a xs∧xs.length≤i⟩
theorem z56{P:Program}{w:World}{K:PySem.W.Frag}{elts:List Expr}{x1:Nat}{tpos:Pos}(a e it:Addr)(hne:e≠it):Turn P w K (.Tuple elts x1 tpos) (Itet K a) [e,it] e (fun i h=> ∃old,IsEnum h e it i old∧h.IsTupleIter it a i) where
 mem:=by simp
 obj:=fun i h st b hb=>by
  obtain⟨old,h1,h2⟩:=st
  have hb:b=e∨b=it:=by simpa using hb
  rcases hb with rfl|rfl
  ·exact⟨_,h1,fun v z=>by
    have z':Data.fields _=Data.cell v:=z
    cases z'⟩
  ·obtain⟨o,e,c,d⟩:=h2
   exact⟨o,e,fun v z=>by rw[d] at z;cases z⟩
 keep:=fun i h h' st k=>by
  obtain⟨old,h1,h2⟩:=st
  exact⟨old,k e (by simp) _ h1,h2.at fun o q=>k it (by simp) o q⟩
 item:=by
  intro X hP hw hK hc i pins s σ H E I hf st hg
  subst hP hw hK
  obtain⟨old,st1,st2⟩:=st
  obtain⟨xs,x,hq,hx⟩:=hg
  obtain⟨its,rv,p,hz⟩:=I.tuple hq
  obtain⟨u,hu,ru⟩:=rv.get hx
  have p:s.heap.IsTuple a its.toArray:=p
  have nai:a≠it:=fun z=>by
   obtain⟨o,q,c,_⟩:=id p
   obtain⟨o',q',c',_⟩:=id st2
   rw[z,q'] at q;cases q
   rw[c] at c';exact absurd c' (by decide)
  have nea:e∉[it,a]:=fun z=>by
   have z:e=it∨e=a:=by simpa using z
   rcases z with z|z
   ·exact hne z
   ·obtain⟨o,q,c,_⟩:=id p
    rw[←z,st1] at q;cases q
    have c:Value.type "enumerate" =Value.type "tuple" :=c
    exact absurd c (by decide)
  have hlt:i<its.toArray.size:=by
   have:=(List.getElem?_eq_some_iff.mp hu).1
   simpa using this
  refine wpAny_pyNext_enum_itemD (z3M (A:=X.A.in1) (I.ok.hd hc) it a nai its.toArray) st1 ⟨st2,p⟩ hlt hne nea fun u' h1 tk hP heo hst ht hsz hk=> ?_
  have eu:u'=u:=by
   have hu':its[i]? =some u:=hu
   have hP':its.toArray[i]? =some u':=hP
   rw[List.getElem?_toArray,hu'] at hP'
   exact(Option.some.inj hP').symm
  subst eu
  refine⟨_,rfl,wpAny_letOwnedTupleGo_enum heo fun h2 he2 hs2=> ?_⟩
  have hs2:Heap.SameBut e h1 h2:=hs2
  have hel:e<s.heap.objs.size:=Heap.lt_size st1
  have ht2:h2.get? s.heap.objs.size=some {cls:= .type "tuple",data:= .seq #[.int i tk,u']}:=(hs2.2 _ (Nat.ne_of_gt hel)).trans ht
  have fr: ∀b∈[e,it],b≠s.heap.objs.size:=fun b hb=>by
   have hb:b=e∨b=it:=by simpa using hb
   rcases hb with rfl|rfl
   ·exact Nat.ne_of_lt hel
   ·obtain⟨o,q,_⟩:=st2
    exact Nat.ne_of_lt (Heap.lt_size q)
  have I1:Inv X pins σ (upd H s.heap.objs.size (.tup [.int i,x])) {s with heap:=s.heap.push {cls:= .type "tuple",data:= .seq #[.int i tk,u']},toks:=s.toks}:=I.laid (t':=s.toks) (o:= .tup [.int i,x]) (fun b ob q=>Heap.get?_push_of_some _ q) (Nat.le_refl _) ⟨by show 2≤sizeLine;decide,[.int i tk,u'], .cons ⟨_,rfl⟩ (.cons ru .nil),IsTup.new _ _⟩
  have f1: ∀b∈[e,it],FpOk X pins (upd H s.heap.objs.size (.tup [.int i,x])) b:=fun b hb=>⟨by rw[z05 (fr b hb)];exact(hf b hb).1,(hf b hb).2⟩
  have I2:=I1.turnedL (h':=h2) (t':=tk+1) (fun b o hb q=>by
   have hb:b≠e∧b≠it:=by simpa using hb
   rcases Heap.get?_push_cases (show(s.heap.push {cls:= .type "tuple",data:= .seq #[.int i tk,u']}).get? b=some o from q) with⟨rfl,rfl⟩|q'
   ·exact ht2
   ·exact(hs2.2 b hb.1).trans (hk b o hb.1 hb.2 q')) f1
  refine⟨.ref s.heap.objs.size,_,I2,rfl,⟨_,x,I.hok.fresh (Nat.le_refl _),rfl,rfl,fun ys hy=>by rw[I.tuple_inj hy hq];exact hx,fun b o q=>(I2.bs b o (I2.ok.mod.kin b o q)).2⟩,⟨u', ?_, ?_⟩,fun b hb=>(f1 b hb).1⟩
  ·have:((i+1:Nat):Int)=(i:Int)+1:=by push_cast;rfl
   rw[this];exact he2
  ·obtain⟨o,q,r⟩:=hst.1
   exact⟨o,(hs2.2 it (Ne.symm hne)).trans q,r⟩
 done:=by
  intro X hP hw hK hc i pins s σ H E I hf st hg
  subst hP hw hK
  obtain⟨old,st1,st2⟩:=st
  obtain⟨xs,hq,hx⟩:=hg
  obtain⟨its,rv,p,hz⟩:=I.tuple hq
  have p:s.heap.IsTuple a its.toArray:=p
  have hl:=rv.length
  have hT:s.TypeIs (.ref e) "enumerate" :=⟨_,st1,rfl⟩
  unfold pyNext
  refine wpAny_bind (wpAny_attempt (wpAny_callSpecial?_slot (name:=Str.ofString "__next__") hT F.slot_enumerate_next
   (wpAny_call_entry F.slot_enumerate_next hT F.entry_enumerate_next ?_ (F.args_enumerate_next_1 _))))
  show wpAny _ _ (field (.ref e) 2>>=_) _ _ _
  refine wpAny_bind (wpAny_field st1 rfl (x:= .ref it) rfl ?_)
  refine wpAny_bind (z1a (A:=X.A.in1) (I.ok.hd hc) st2 p (by simp;omega) fun h' x he' hx'=> ?_)
  obtain⟨o,ho,hcc⟩:=hx'
  refine wpAny_bind (wpAny_isInstance (T:= "StopIteration") (b:=true) ⟨o,ho,hcc⟩ isSubtype_stop ?_)
  exact wpAny_pure ⟨rfl,I.turnedL (t':=s.toks) (fun b o hb q=>he' b o (fun z=>hb (by simp[z])) q) hf⟩
 self:=fun A i s Q E st h=>by
  obtain⟨old,st1,_⟩:=st
  exact wpAny_pyIter_enum st1 h
section
variable{X:Cx}
noncomputable def zc9(K:PySem.W.Frag)(ta:TA):TI:=fun σ H R=>ta σ H fun vs H1=> ∃a,vs=[.ref a]∧(((∃xs,SqL K H1 a xs)∧R (Ite K a) H1)∨((∃xs,SqT K H1 a xs)∧R (Itet K a) H1))
theorem z7s{a:Expr}{ta:TA}{p pos tpos:Pos}{elts:List Expr}{x1:Nat}(hg:Gl X "enumerate")(hm:X.mg "enumerate" =none)(ha:PA X [a] ta)(hs:starEach [a] X.env=[(false,eval a X.env)]:=by rfl):PI X (.Tuple elts x1 tpos) (.Call (.Name "enumerate" p) [a] [] pos) (zc9 X.K ta):=by
 intro pins s σ H R I h
 refine Call_ (z1q I hg hm PyProof.Rows.Boot.«enumerate» (PyProof.Rows.callWith_type1 (thn (ha pos pins s σ H _ I h) fun us s1 ⟨vs,H1,I1,r1,q1⟩=> ?_) hs rfl))
 obtain⟨l,e,q⟩:=q1
 subst e
 cases r1 with
 |cons r rr=>
  cases rr
  cases r
  rcases q with⟨⟨xs,hq⟩,q⟩|⟨⟨xs,hq⟩,q⟩
  ·obtain⟨its,rv,p,hz⟩:=I1.list hq
   refine call_enumerate_list p.isList fun h' he hit hsz hk=> ?_
   refine wpAny_pyIter_enum he ?_
   have I2:Inv X pins σ H1 {s1 with heap:=h'}:=I1.kept (t':=s1.toks) hk
   refine⟨s1.heap.objs.size+1,[s1.heap.objs.size+1,s1.heap.objs.size],_,_,H1,rfl,I2,z5X l _ _ (by show ¬(s1.heap.objs.size+1=s1.heap.objs.size);omega),⟨_,he,hit⟩,fun b hb=> ?_,q⟩
   have hb:b=s1.heap.objs.size+1∨b=s1.heap.objs.size:=by simpa using hb
   rcases hb with rfl|rfl
   ·exact I1.fpOk (Nat.le_succ _) (I1.hok.fresh (Nat.le_succ _))
   ·exact I1.fpOk (Nat.le_refl _) (I1.hok.fresh (Nat.le_refl _))
  ·obtain⟨its,rv,p,hz⟩:=I1.tuple hq
   have p:s1.heap.IsTuple l its.toArray:=p
   refine z1n p fun h' he hit hsz hk=> ?_
   refine wpAny_pyIter_enum he ?_
   have I2:Inv X pins σ H1 {s1 with heap:=h'}:=I1.kept (t':=s1.toks) hk
   refine⟨s1.heap.objs.size+1,[s1.heap.objs.size+1,s1.heap.objs.size],_,_,H1,rfl,I2,z56 l _ _ (by show ¬(s1.heap.objs.size+1=s1.heap.objs.size);omega),⟨_,he,hit⟩,fun b hb=> ?_,q⟩
   have hb:b=s1.heap.objs.size+1∨b=s1.heap.objs.size:=by simpa using hb
   rcases hb with rfl|rfl
   ·exact I1.fpOk (Nat.le_succ _) (I1.hok.fresh (Nat.le_succ _))
   ·exact I1.fpOk (Nat.le_refl _) (I1.hok.fresh (Nat.le_refl _))
end
end L2
namespace L2
open PySem PySem.Spec PyProof.Rows
section
variable{X:Cx}{a b:Expr}{rest:List Expr}{pos:Pos}{ta tb:TE}
end
end L2
namespace L2
open PySem PySem.Spec PyProof.Rows
noncomputable def Itr3(lo c:Int)(n:Nat):It:=⟨fun i _=>i<n,fun i H x H'=>H'=H∧x= .int (lo+(i:Int)*c),fun i _=>n≤i⟩
theorem z3N{P:Program}{w:World}{K:PySem.W.Frag}{tg:Expr}(it:Addr)(lo c:Int)(n:Nat):Turn P w K tg (Itr3 lo c n) [it] it (fun i h=>IsRangeIter h it (lo+(i:Nat)*c) ((n:Int) -(i:Nat)) c) where
 mem:=by simp
 obj:=fun i h st b hb=>by
  have e:b=it:=by simpa using hb
  subst e
  exact⟨_,st,fun v z=>by
   have z':Data.fields _=Data.cell v:=z
   cases z'⟩
 keep:=fun i h h' st k=>k it (by simp) _ st
 item:=by
  intro X hP hw hK hc i pins s σ H E I hf st hg
  subst hP hw hK
  obtain⟨f0,f1,f2,f3,f4,f5⟩:=hf it (by simp)
  have W:=Walks.range (prog:=X.prog) (w:=X.w) (I.ok.hd hc) it lo c n
  refine W.item i s _ _ hg st fun v h' tk hv st' kk=> ?_
  obtain⟨t,rfl⟩:=hv
  have I1:Inv X pins σ H {s with heap:=h',toks:=tk}:=I.turned (fun b o hb e=>kk b o (by simpa using hb) e) f0 f1 f3 f4 f5
  exact⟨_,rfl,z7a (s:={s with heap:=h',toks:=tk}) (n:= "range_iterator") st' rfl rfl (by decide) ⟨.int (lo+(i:Int)*c),H,I1,⟨t,rfl⟩,⟨rfl,rfl⟩,st',fun b hb=>(hf b hb).1⟩⟩
 done:=by
  intro X hP hw hK hc i pins s σ H E I hf st hg
  subst hP hw hK
  obtain⟨f0,f1,f2,f3,f4,f5⟩:=hf it (by simp)
  exact wpAny_pyNext_range_end (I.ok.hd hc) st (by have:n≤i:=hg;omega) fun h' eb=>⟨rfl,I.turned (t':=s.toks) (fun b o hb e=>eb b o hb e) f0 f1 f3 f4 f5⟩
 self:=fun _ _ _ _ _ st h=>wpAny_pyIter_rangeiter st h
section
variable{X:Cx}{tg:Expr}
theorem z5Z{pins:List (Addr×Obj)}{σ:St}{H:Hp}{s:Shared}{R:It→Hp→Prop}{E:Value→Shared→Prop}{lo hi c:Int}{t u v:Tok}{tk:Nat}(I:Inv X pins σ H s)(h1:Builtin.Range.small lo hi c=true)(h2:0≤Builtin.Range.rangeSize lo hi c)
 (q:R (Itr3 lo c (Builtin.Range.rangeSize lo hi c).toNat) H):wpAny (model X.prog X.w) X.A (pyIter (.ref s.heap.objs.size)) (PIE X pins σ tg R) E {s with heap:=s.heap.push {cls:= .type "range",data:= .fields #[.int lo t, .int hi u, .int c v]},toks:=tk}:=by
 refine wpAny_pyIter_range (IsRange.new ..) h1 ?_
 have I1:Inv X pins σ H {s with heap:=s.heap.push {cls:= .type "range",data:= .fields #[.int lo t, .int hi u, .int c v]},toks:=tk}:=I.kept fun b o e=>Heap.get?_push_of_some _ e
 refine⟨(s.heap.push {cls:= .type "range",data:= .fields #[.int lo t, .int hi u, .int c v]}).objs.size,[(s.heap.push {cls:= .type "range",data:= .fields #[.int lo t, .int hi u, .int c v]}).objs.size],_,_,H,rfl,
  I1.kept (t':=tk) fun b o e=>Heap.get?_push_of_some _ e,z3N _ lo c (Builtin.Range.rangeSize lo hi c).toNat, ?_,fun b hb=> ?_,q⟩
 ·have e1:lo+((0:Nat):Int)*c=lo:=by simp
  have e2:(((Builtin.Range.rangeSize lo hi c).toNat:Nat):Int) -((0:Nat):Int)=Builtin.Range.rangeSize lo hi c:=by omega
  show IsRangeIter _ _ (lo+((0:Nat):Int)*c) ((((Builtin.Range.rangeSize lo hi c).toNat:Nat):Int) -((0:Nat):Int)) c
  rw[e1,e2]
  exact Heap.get?_push_size _ rfl
 ·have e:b=(s.heap.push {cls:= .type "range",data:= .fields #[.int lo t, .int hi u, .int c v]}).objs.size:=by simpa using hb
  subst e
  exact I1.fpOk (Nat.le_refl _) (I1.hok.fresh (Nat.le_refl _))
noncomputable def Rg3(i j c:Int):Prop:=c≠0∧c.natAbs<1073741824∧Builtin.Range.small i j c=true∧0≤Builtin.Range.rangeSize i j c
instance(i j c:Int):Decidable (Rg3 i j c):=by unfold Rg3;infer_instance
noncomputable def zca(ta:TA):TI:=fun σ H R=>ta σ H fun vs H1=> ∃i j c:Int,vs=[.int i, .int j, .int c]∧Rg3 i j c∧R (Itr3 i c (Builtin.Range.rangeSize i j c).toNat) H1
theorem z60{a b c:Expr}{ta:TA}{p pos:Pos}(hg:Gl X "range")(hm:X.mg "range" =none)(ha:PA X [a,b,c] ta)(hs:starEach [a,b,c] X.env=[(false,eval a X.env),(false,eval b X.env),(false,eval c X.env)]:=by rfl)(hs2:starEach [b,c] X.env=[(false,eval b X.env),(false,eval c X.env)]:=by rfl):
 PI X tg (.Call (.Name "range" p) [a,b,c] [] pos) (zca ta):=by
 intro pins s σ H R I h
 refine Call_ (z1q I hg hm boot_range (PyProof.Rows.callWith_type1 (thn (ha pos pins s σ H _ I h) fun us s1 ⟨vs,H1,I1,r1,q1⟩=> ?_) (by rw[hs,hs2]) (by rw[hs2];rfl)))
 obtain⟨i,j,c,e,⟨q1,q2,q3,q4⟩,q⟩:=q1
 subst e
 cases r1 with
 |cons r rr=>
  cases rr with
  |cons r' rr=>
   cases rr with
   |cons r'' rr=>
    cases rr
    obtain⟨t,rfl⟩:=r
    obtain⟨t',rfl⟩:=r'
    obtain⟨t'',rfl⟩:=r''
    exact call_range_3 q1 (z5Z I1 q3 q4 q) (.inl (PyProof.noPylong_small q2))
end
end L2
namespace Mi
open PySem L2
structure ItK where
 k:Nat
 at':Nat→List (Option D)→Option (Option D)
 len:List (Option D)→Nat
noncomputable def zaO(i:Nat):List (Option D)→Option (Option D)
 |some c::_=>(lstD c).map fun ds=>ds[i]?
 |_=>none
noncomputable def zaP(i:Nat):List (Option D)→Option (Option D)
 |some (.tup ds)::_=>some ds[i]?
 |_=>none
noncomputable def z4x:List (Option D)→Nat
 |some (.tup ds)::_=>ds.length
 |some (.lst _ ds)::_=>ds.length
 |some (.ro ds)::_=>ds.length
 |_=>0
noncomputable def kLst:ItK:=⟨1,zaO,z4x⟩
noncomputable def kTup:ItK:=⟨1,zaP,z4x⟩
noncomputable def kRng(lo:Int)(n:Nat):ItK:=⟨0,fun i _=>some (if i<n then some (.int (lo+i)) else none),fun _=>n⟩
noncomputable def Stt.popn(s:Stt)(k:Nat):Stt:={s with tm:=s.tm.drop k}
section
variable{X:Cx}{G:Gx}{F:Fy}{e a b c tg iter:Expr}{pos:Pos}
theorem MR.popn{F:Fx}{ρ:Nat→Addr}{H:Hp}{σv tvs tv:List (Option V)}{s:Stt}(M:MR G F ρ H σv (tvs++tv) s):MR G F ρ H σv tv (s.popn tvs.length):=by
 have sub: ∀l∈z0v (s.popn tvs.length),l∈z0v s:=fun l h=>by
  rcases List.mem_append.mp h with h|h
  ·exact List.mem_append_left _ h
  ·refine List.mem_append_right _ ?_
   have e:=z08 (s.tm.take tvs.length) (s.tm.drop tvs.length)
   rw[List.take_append_drop] at e
   rw[e]
   exact List.mem_append_right _ h
 exact⟨M.sl,(Sl.split tvs M.tm).2,M.inj,M.dom,fun l h=>M.lab l (sub l h),fun l h=>M.own l (sub l h),M.frm,M.kd,M.frb,M.bas⟩
noncomputable def ItOK(G:Gx)(J:It)(K:ItK)(tvs:List (Option V)):Prop:= ∀(F:Fx) ρ H σv tvp tv s i,MR G F ρ H σv (tvp++(tvs++tv)) s→match K.at' i (s.tm.drop tvp.length) with
 |none=>True
 |some none=>J.stop i H
 |some (some d)=>J.go i H∧∀x H',J.yld i H x H'→MRL G F ρ H' σv (tvp++(tvs++tv)) s [d] [x]
noncomputable def tI(G:Gx)(F:Fy)(m:M ItK):TI:=fun σv H R=> ∃tv,F.tv0<:+tv∧∃ρ s,MR G F.toFx ρ H σv tv s∧match m s with
 | .ok K s'=> ∀ρ' H' tvs J,tvs.length=K.k→MR G F.toFx ρ' H' σv (tvs++tv) s'→ItOK G J K tvs→R J H'
 | .ex d s'=>F.xw d s'
 | .no=>False
noncomputable def SI(X:Cx)(G:Gx)(F:Fy)(tg iter:Expr)(m:M ItK):Prop:=PI X tg iter (tI G F m)
theorem PI.imp0{w w':TI}(h:PI X tg iter w)(hi: ∀σ H R,w' σ H R→w σ H R):PI X tg iter w':=fun pins s σ H R I q=>h pins s σ H R I (hi σ H R q)
noncomputable def iSeq(K:PySem.W.Frag)(tl:TE):TI:=fun σ H R=>tl σ H fun x H1=> ∃a,x= .ref a∧(((∃xs,SqL K H1 a xs)∧R (Itl K a) H1)∨((∃xs,SqT K H1 a xs)∧R (Itt K a) H1))
theorem zaQ{l:Expr}{tl:TE}(hl:PE X l tl):PI X tg l (iSeq X.K tl):=by
 intro pins s σ H R I h
 refine thn (hl pins s σ H _ I h) fun v s1 ⟨x,H1,I1,r1,q1⟩=> ?_
 obtain⟨a,e,q|q⟩:=q1
 ·subst e
  cases r1
  obtain⟨⟨xs,hq⟩,q⟩:=q
  obtain⟨its,rv,p,hz⟩:=I1.list hq
  refine wpAny_pyIter_list p.isList ?_
  refine⟨s1.heap.objs.size,[s1.heap.objs.size],_,_,H1,rfl,I1.kept (t':=s1.toks) fun b o e=>Heap.get?_push_of_some _ e,z5s a _,⟨_,Heap.get?_push_size _ rfl,rfl,rfl⟩,fun b hb=> ?_,q⟩
  have e:b=s1.heap.objs.size:=by simpa using hb
  subst e
  exact I1.fpOk (Nat.le_refl _) (I1.hok.fresh (Nat.le_refl _))
 ·subst e
  cases r1
  obtain⟨⟨xs,hq⟩,q⟩:=q
  obtain⟨its,rv,p,hz⟩:=I1.tuple hq
  refine wpAny_pyIter_tuple (show s1.heap.IsTuple a its.toArray from p) ?_
  refine⟨s1.heap.objs.size,[s1.heap.objs.size],_,_,H1,rfl,I1.kept (t':=s1.toks) fun b o e=>Heap.get?_push_of_some _ e,z4Q a _,⟨_,Heap.get?_push_size _ rfl,rfl,rfl⟩,fun b hb=> ?_,q⟩
  have e:b=s1.heap.objs.size:=by simpa using hb
  subst e
  exact I1.fpOk (Nat.le_refl _) (I1.hok.fresh (Nat.le_refl _))
noncomputable def z0Y(m:M D):M ItK:=bd m fun d s=>match d with
 | .tup _=> .ok kTup (s.psh d)
 | .lst _ _=> .ok kLst (s.psh d)
 | .ro _=> .ok kLst (s.psh d)
 |_=> .no
theorem SqT.two{K:PySem.W.Frag}{H:Hp}{a:Addr}{xs ys:List V}(k:KD K H)(h:SqT K H a xs)(h':SqT K H a ys):xs=ys:=by
 rcases h with(h|⟨o,h⟩)|⟨o,its,n,h,_,hd,_,r⟩<;>rcases h' with(h'|⟨o',h'⟩)|⟨o',its',n',h',_,hd',_,r'⟩
 ·rw[h] at h';cases h';rfl
 ·rw[h] at h';cases h'
 ·rw[k _ _ h'] at h;cases h
 ·rw[h] at h';cases h'
 ·rw[h] at h';cases h';rfl
 ·rw[k _ _ h'] at h;cases h
 ·rw[k _ _ h] at h';cases h'
 ·rw[k _ _ h] at h';cases h'
 ·rw[h] at h';cases h';rw[hd] at hd';cases hd';exact r.inj r'
theorem SqL.two{K:PySem.W.Frag}{H:Hp}{a:Addr}{xs ys:List V}(k:KD K H)(h:SqL K H a xs)(h':SqL K H a ys):xs=ys:=by
 rcases h with(h|⟨o,h⟩)|⟨o,its,n,h,_,_,hd,_,r⟩<;>rcases h' with(h'|⟨o',h'⟩)|⟨o',its',n',h',_,_,hd',_,r'⟩
 ·rw[h] at h';cases h';rfl
 ·rw[h] at h';cases h'
 ·rw[k _ _ h'] at h;cases h
 ·rw[h] at h';cases h'
 ·rw[h] at h';cases h';rfl
 ·rw[k _ _ h'] at h;cases h
 ·rw[k _ _ h] at h';cases h'
 ·rw[k _ _ h] at h';cases h'
 ·rw[h] at h';cases h';rw[hd] at hd';cases hd';exact r.inj r'
theorem MR.head{F:Fx}{ρ:Nat→Addr}{H:Hp}{σv tv:List (Option V)}{s:Stt}{v:V}{c:D}{r:List (Option D)}(M:MR G F ρ H σv (some v::tv) s)(e:s.tm=some c::r):RD G ρ H c v∧LB F ρ s.n (labs c):=by
 obtain⟨σ,tm,n⟩:=s
 have e:tm=some c::r:=e
 subst e
 exact⟨MR.top (s:=⟨σ,r,n⟩) M,MR.topl (s:=⟨σ,r,n⟩) M⟩
theorem z4y{a:Addr}:ItOK G (Itl G.K a) kLst [some (.ref a)]:=by
 intro F ρ H σv tvp tv s i M
 dsimp only[kLst]
 cases e:s.tm.drop tvp.length with
 |nil=>trivial
 |cons o r=>
  cases o with
  |none=>trivial
  |some c=>
   simp only[zaO]
   obtain⟨h,lb⟩:=MR.head (s:=s.popn tvp.length) M.popn e
   cases e1:lstD c with
   |none=>trivial
   |some ds=>
    simp only[Option.map_some]
    obtain⟨a',xs,ea,sq,rr,sub⟩:=h.lstq e1
    cases ea
    cases e2:ds[i]? with
    |none=>
     refine⟨xs,sq, ?_⟩
     rw[←rr.length]
     exact List.getElem?_eq_none_iff.mp e2
    |some d=>
     obtain⟨x,ex,rx⟩:=rr.get i d e2
     refine⟨⟨xs,x,sq,ex⟩, ?_⟩
     rintro x' H' ⟨rfl,hx⟩
     rw[hx xs sq] at ex
     cases ex
     exact⟨M,RDs.one rx,fun l hl=>lb l (sub l (labsL_mem (List.mem_of_getElem? e2) l (by simpa only[z00,List.append_nil] using hl)))⟩
theorem z7t{a:Addr}:ItOK G (Itt G.K a) kTup [some (.ref a)]:=by
 intro F ρ H σv tvp tv s i M
 dsimp only[kTup]
 cases e:s.tm.drop tvp.length with
 |nil=>trivial
 |cons o r=>
  cases o with
  |none=>trivial
  |some c=>
   obtain⟨h,lb⟩:=MR.head (s:=s.popn tvp.length) M.popn e
   cases c with
   |tup ds=>
    simp only[zaP]
    obtain⟨a',xs,ea,sq,rr⟩:=h.tupq
    cases ea
    cases e2:ds[i]? with
    |none=>
     refine⟨xs,sq, ?_⟩
     rw[←rr.length]
     exact List.getElem?_eq_none_iff.mp e2
    |some d=>
     obtain⟨x,ex,rx⟩:=rr.get i d e2
     refine⟨⟨xs,x,sq,ex⟩, ?_⟩
     rintro x' H' ⟨rfl,hx⟩
     rw[hx xs sq] at ex
     cases ex
     exact⟨M,RDs.one rx,fun l hl=>lb l (by simp only[labs];exact labsL_mem (List.mem_of_getElem? e2) l (by simpa only[z00,List.append_nil] using hl))⟩
   |_=>trivial
theorem si_seq{m:M D}(hk:X.K=G.K)(h:SE X G F e m):SI X G F tg e (z0Y m):=by
 refine PI.imp0 (zaQ h) fun σ H R ⟨tv,hs,ρ,s,M,W⟩=>⟨tv,hs,ρ,s,M, ?_⟩
 unfold z0Y bd at W
 cases e:m s with
 |ex d s1=>rw[e] at W;exact W
 |no=>rw[e] at W;exact W
 |ok t s1=>
  rw[e] at W
  intro ρ1 v H1 M1
  rw[hk]
  cases t with
  |tup ds=>
   obtain⟨a,xs,rfl,sq,r⟩:=M1.rd1.tupq
   exact⟨a,rfl, .inr ⟨⟨xs,sq⟩,W ρ1 H1 [some (.ref a)] _ rfl M1.push z7t⟩⟩
  |lst n ds=>
   obtain⟨a,xs,rfl,sq,r,_⟩:=M1.rd1.lstq (ds:=ds) rfl
   exact⟨a,rfl, .inl ⟨⟨xs,sq⟩,W ρ1 H1 [some (.ref a)] _ rfl M1.push z4y⟩⟩
  |ro ds=>
   obtain⟨a,xs,rfl,sq,r,_⟩:=M1.rd1.lstq (ds:=ds) rfl
   exact⟨a,rfl, .inl ⟨⟨xs,sq⟩,W ρ1 H1 [some (.ref a)] _ rfl M1.push z4y⟩⟩
  |_=>exact False.elim W
noncomputable def rng1(ts:List D):M ItK:=match ts with
 |[.int j]=>if -(2^62)≤j∧j<2^62 then rt (kRng 0 j.toNat) else fl
 |_=>fl
noncomputable def rng2(ts:List D):M ItK:=match ts with
 |[.int i, .int j]=>if -(2^62)≤i∧i<2^62∧-(2^62)≤j∧j<2^62 then rt (kRng i (j -i).toNat) else fl
 |_=>fl
noncomputable def z0Z(ms:List (M D)):M ItK:=bd (mArgs ms) rng1
noncomputable def z3O(ms:List (M D)):M ItK:=bd (mArgs ms) rng2
theorem z4z{lo:Int}{n:Nat}:ItOK G (Itr lo n) (kRng lo n) []:=by
 intro F ρ H σv tvp tv s i M
 simp only[kRng]
 by_cases h:i<n
 ·rw[if_pos h]
  refine⟨h, ?_⟩
  rintro x H' ⟨rfl,rfl⟩
  exact⟨M,RDs.one (by simp only[RD]),fun l hl=>by simp[z00,labs] at hl⟩
 ·rw[if_neg h]
  exact Nat.not_lt.mp h
theorem si_rng1{p:Pos}{ms:List (M D)}(hg:Gl X "range")(hm:X.mg "range" =none)(ha:SA X G F [a] (mArgs ms))(hs:starEach [a] X.env=[(false,eval a X.env)]:=by rfl):SI X G F tg (.Call (.Name "range" p) [a] [] pos) (z0Z ms):=by
 refine PI.imp0 (z5t hg hm ha hs) fun σ H R ⟨tv,hs,ρ,s,M,W⟩=>⟨tv,hs,ρ,s,M, ?_⟩
 unfold z0Z bd at W
 cases e:mArgs ms s with
 |ex d s1=>rw[e] at W;exact W
 |no=>rw[e] at W;exact W
 |ok ts s1=>
  rw[e] at W
  intro ρ1 vs H1 M1
  unfold rng1 at W
  dsimp only at W
  split at W
  ·rename_i ts' j K s' hh
   split at hh
   ·split at hh
    ·rename_i j' hc
     cases hh
     obtain⟨v,rfl,h,_⟩:=M1.one
     simp only[RD] at h
     subst h
     exact⟨j',rfl,hc.1,hc.2,W ρ1 H1 [] _ rfl M1.m z4z⟩
    ·cases hh
   ·cases hh
  ·rename_i hh
   split at hh
   ·split at hh<;>cases hh
   ·cases hh
  ·exact False.elim W
theorem si_rng2{p:Pos}{ms:List (M D)}(hg:Gl X "range")(hm:X.mg "range" =none)(ha:SA X G F [a,b] (mArgs ms))(hs:starEach [a,b] X.env=[(false,eval a X.env),(false,eval b X.env)]:=by rfl)(hs2:starEach [b] X.env=[(false,eval b X.env)]:=by rfl):SI X G F tg (.Call (.Name "range" p) [a,b] [] pos) (z3O ms):=by
 refine PI.imp0 (z5u hg hm ha hs hs2) fun σ H R ⟨tv,hs,ρ,s,M,W⟩=>⟨tv,hs,ρ,s,M, ?_⟩
 unfold z3O bd at W
 cases e:mArgs ms s with
 |ex d s1=>rw[e] at W;exact W
 |no=>rw[e] at W;exact W
 |ok ts s1=>
  rw[e] at W
  intro ρ1 vs H1 M1
  unfold rng2 at W
  dsimp only at W
  split at W
  ·rename_i ts' j K s' hh
   split at hh
   ·split at hh
    ·rename_i i' j' hc
     cases hh
     obtain⟨v,u,rfl,h,h'⟩:=M1.two
     simp only[RD] at h h'
     subst h h'
     exact⟨i',j',rfl,hc,W ρ1 H1 [] _ rfl M1.m z4z⟩
    ·cases hh
   ·cases hh
  ·rename_i hh
   split at hh
   ·split at hh<;>cases hh
   ·cases hh
  ·exact False.elim W
noncomputable def forGo(K:ItK)(g:Tg)(b:MS):Nat→Nat→MS
 |f,i=>fun s=>match K.at' i s.tm with
  |none=> .no
  |some none=> .nx (s.popn K.k)
  |some (some d)=>match f with
   |0=> .no
   |f+1=>match asg g d s.σ with
    |none=> .no
    |some σ'=>match b {s with σ:=σ'} with
     | .nx s'=>forGo K g b f (i+1) s'
     | .ct s'=>forGo K g b f (i+1) s'
     | .bk s'=> .nx (s'.popn K.k)
     | .rt t s'=> .rt t (s'.popn K.k)
     | .ex d s'=> .ex d s'
     | .no=> .no
noncomputable def sFor(mi:M ItK)(g:Tg)(b:MS):MS:=lift mi fun K s=>forGo K g b (K.len s.tm) 0 s
theorem MRL.popn{ρ:Nat→Addr}{H:Hp}{σv tvs tv:List (Option V)}{s:Stt}{ts:List D}{vs:List V}(M:MRL G F.toFx ρ H σv (tvs++tv) s ts vs):MRL G F.toFx ρ H σv tv (s.popn tvs.length) ts vs:=⟨M.m.popn,M.rd,M.lb⟩
theorem suf2{tvs tv:List (Option V)}(h:F.tv0<:+tv):F.tv0<:+tvs++tv:=h.trans (List.suffix_append _ _)
theorem z61{m:M ItK}{f:ItK→MS}{tv:List (Option V)}{D:Ends}{σ:St}{H:Hp}{R:It→Hp→Prop}(h:tSv G F (lift m f) tv D σ H)
 (k: ∀K ρ' H' tvs J s',tvs.length=K.k→MR G F.toFx ρ' H' σ (tvs++tv) s'→ItOK G J K tvs→wS G F tv (f K s') D→R J H'):tI G F m σ H R:=by
 obtain⟨hs,ρ,s,M,W⟩:=h
 refine⟨tv,hs,ρ,s,M, ?_⟩
 unfold lift at W
 cases e:m s with
 |ok K s1=>rw[e] at W;exact fun ρ' H' tvs J hl M' hok=>k K ρ' H' tvs J s1 hl M' hok W
 |ex d s1=>rw[e] at W;exact W
 |no=>rw[e] at W;exact W
theorem ss_for{body:List Stmt}{mi:M ItK}{g:Tg}{mb:MS}(hp:PassesOwn (model X.prog X.w) X.A X.env X.xe)(hc:X.calm=true)(hi:SI X G F tg iter mi)(hg:SG X G F tg g)(hb:SSs X G F body mb)(hst: ∀x,foldedSetIterable iter X.env x=pure x:=by intro _;rfl):SS X G F (.For tg iter body [] pos) (sFor mi g mb):=by
 refine PS.imp0 (za9 hp hc hi hg hb hst) fun D σ H ⟨tv,h⟩=>z61 h fun K ρ' H' tvs J s' hl M' hok W=> ?_
 have hs:=h.1
 refine⟨fun i m σ H=> ∃ρ s,MR G F.toFx ρ H σ (tvs++tv) s∧wS G F tv (forGo K g mb m i s) D,⟨_,ρ',s',M',W⟩, ?_⟩
 rintro i m σ H ⟨ρ,s,M,W⟩
 have ok:=hok F.toFx ρ H σ [] tv s i M
 simp only[List.length_nil,List.drop_zero,List.nil_append] at ok
 unfold forGo at W
 cases e:K.at' i s.tm with
 |none=>simp only[e] at W;exact False.elim W
 |some o=>
  cases o with
  |none=>
   simp only[e] at W ok
   refine .inl ⟨ok,W ρ σ H ?_⟩
   rw[←hl]
   exact M.popn
  |some d=>
   simp only[e] at W ok
   cases m with
   |zero=>exact False.elim W
   |succ f=>
    dsimp only at W
    cases e2:asg g d s.σ with
    |none=>simp only[e2] at W;exact False.elim W
    |some σ'=>
     simp only[e2] at W
     refine .inr ⟨ok.1,fun σ H=> ∃ρ s,MR G F.toFx ρ H σ (tvs++tv) s∧wS G F tv (forGo K g mb f (i+1) s) D,fun σ' H' q=>⟨f,Nat.lt_succ_self _,q⟩,fun x H2 y=> ?_⟩
     refine⟨tvs++tv,ρ,s,d,ok.2 x H2 y,σ',e2,fun σv' M2=>⟨tvs++tv,suf2 hs,ρ,_,M2, ?_⟩⟩
     cases e3:mb {s with σ:=σ'} with
     |nx s2=>simp only[e3] at W;exact fun ρ3 σ3 H3 M3=>⟨ρ3,s2,M3,W⟩
     |ct s2=>simp only[e3] at W;exact fun ρ3 σ3 H3 M3=>⟨ρ3,s2,M3,W⟩
     |bk s2=>simp only[e3] at W;exact fun ρ3 σ3 H3 M3=>W ρ3 σ3 H3 (by rw[←hl];exact M3.popn)
     |rt t s2=>simp only[e3] at W;exact fun ρ3 σ3 v H3 M3=>W ρ3 σ3 v H3 (by rw[←hl];exact M3.popn)
     |ex d s2=>simp only[e3] at W;exact W
     |no=>simp only[e3] at W;exact W
end
end Mi
namespace Mi
open PySem L2
noncomputable def z04:List (Option D)→Option (List D)
 |[]=>some []
 |some d::r=>(z04 r).map (d:: ·)
 |none::_=>none
noncomputable def z0D(K:ItK)(g:Tg)(mt:M Bool)(me:M D)(ol:Nat):Nat→Nat→Nat→M D
 |f,i,k=>fun s=>match K.at' i (s.tm.drop (k+ol)) with
  |none=> .no
  |some none=>match z04 (s.tm.take k).reverse with
   |some ds=> .ok (.lst s.n ds) {σ:=(s.tm.drop k).take ol,tm:=s.tm.drop (k+ol+K.k),n:=s.n+1}
   |none=> .no
  |some (some d)=>match f with
   |0=> .no
   |f+1=>match asg g d s.σ with
    |none=> .no
    |some σ'=>match mt {s with σ:=σ'} with
     | .ok false s1=>z0D K g mt me ol f (i+1) k s1
     | .ok true s1=>if k<sizeLine then match me s1 with
      | .ok y s2=>z0D K g mt me ol f (i+1) (k+1) (s2.psh y)
      |_=> .no
      else .no
     |_=> .no
noncomputable def z62(own:Nat)(ix:List Nat)(s:Stt):Stt:={σ:=List.replicate own none++ix.map (fun i=>(s.σ[i]?).getD none),tm:=s.σ++s.tm,n:=s.n}
noncomputable def z0y(mi:M ItK)(g:Tg)(mt:M Bool)(me:M D)(own:Nat)(ix:List Nat):M D:=bd mi fun K s=>z0D K g mt me s.σ.length (K.len s.tm) 0 0 (z62 own ix s)
section
variable{X:Cx}{G:Gx}{F:Fy}{e a b c tg iter elt:Expr}{pos:Pos}
noncomputable def Fy.prot(F:Fy)(D:Addr)(ys:List V)(h:F.H0 D=none):Fy where
 A0:=F.A0
 H0:=upd F.H0 D (.lst ys)
 Z:=fun a=>a=D∨F.Z a
 zA:=fun a z=>by
  rcases z with rfl|z
  ·exact⟨⟨_,z09⟩,fun q=>by obtain⟨o,e⟩:=F.aH _ q;rw[h] at e;cases e⟩
  ·obtain⟨⟨o,e⟩,n⟩:=F.zA a z
   exact⟨⟨o,by rw[z05 (z0p e h)];exact e⟩,n⟩
 aH:=fun a q=>by
  obtain⟨o,e⟩:=F.aH a q
  exact⟨o,by rw[z05 (z0p e h)];exact e⟩
 n0:=F.n0
 ρ0:=F.ρ0
 tv0:=[]
 xw:=fun _ _=>False
theorem Sl.none_map{ρ:Nat→Addr}{H:Hp}: ∀k:Nat,Sl G ρ H (List.replicate k none) (List.replicate k none)
 |0=>by simp[Sl]
 |k+1=>by simp only[List.replicate_succ,Sl];exact⟨_,_,rfl,Sl.none_map k⟩
theorem Sl.pick{ρ:Nat→Addr}{H:Hp}{σ:List (Option D)}{σv:List (Option V)}(h:Sl G ρ H σ σv): ∀ix:List Nat,Sl G ρ H (ix.map fun i=>(σ[i]?).getD none) (ix.map fun i=>(σv[i]?).getD none)
 |[]=>by simp[Sl]
 |i::ix=>by
  simp only[List.map_cons]
  cases e:σ[i]? with
  |none=>simp only[Option.getD_none,Sl];exact⟨_,_,rfl,Sl.pick h ix⟩
  |some o=>
   cases o with
   |none=>simp only[Option.getD_some,Sl];exact⟨_,_,rfl,Sl.pick h ix⟩
   |some d=>
    obtain⟨v,e1,r⟩:=h.get i d e
    simp only[Option.getD_some,Sl,e1]
    exact⟨_,_,rfl,r,Sl.pick h ix⟩
theorem z1w{σ:List (Option D)}{l:Nat}: ∀{ix:List Nat},l∈z06 (ix.map fun i=>(σ[i]?).getD none)→l∈z06 σ
 |[],h=>by simp[z06] at h
 |i::ix,h=>by
  simp only[List.map_cons] at h
  cases e:σ[i]? with
  |none=>rw[e] at h;simp only[Option.getD_none,z06] at h;exact z1w h
  |some o=>
   rw[e] at h
   cases o with
   |none=>simp only[Option.getD_some,z06] at h;exact z1w h
   |some d=>
    simp only[Option.getD_some,z06] at h
    rcases List.mem_append.mp h with h|h
    ·exact z1t e l h
    ·exact z1w h
theorem z1x{l:Nat}: ∀k:Nat,¬l∈z06 (List.replicate k (none:Option D))
 |0,h=>by simp[z06] at h
 |k+1,h=>by simp only[List.replicate_succ,z06] at h;exact z1x k h
theorem MR.enter{ρ:Nat→Addr}{H:Hp}{σv tv:List (Option V)}{s:Stt}{D:Addr}(M:MR G F.toFx ρ H σv tv s)(hD:H D=none)(k:KD G.K (upd H D (.lst [])))(own:Nat)(ix:List Nat):
 MR G (F.prot D [] (M.fresh0 hD)).toFx ρ (upd H D (.lst [])) (z1s own ix σv) (σv++tv) (z62 own ix s):=by
 have sm:=Same.new (.lst []) hD
 have M1:=M.same sm k
 have nD: ∀l,l<s.n→ρ l≠D:=fun l hl e=>by
  obtain⟨o,q⟩:=M.dom l hl
  rw[e,hD] at q;cases q
 have sub: ∀l∈z0v (z62 own ix s),l∈z0v s:=fun l h=>by
  rcases List.mem_append.mp h with h|h
  ·have h:l∈z06 (List.replicate own none++ix.map (fun i=>(s.σ[i]?).getD none)):=h
   rw[z08] at h
   rcases List.mem_append.mp h with h|h
   ·exact absurd h (z1x own)
   ·exact List.mem_append_left _ (z1w h)
  ·have h:l∈z06 (s.σ++s.tm):=h
   rw[z08] at h
   exact h
 refine⟨?_,M1.sl.append M1.tm,M1.inj,M1.dom,fun l h=>M.lab l (sub l h),fun l h=> ?_,fun a o e=> ?_,k,fun l hl z=> ?_,M.bas⟩
 ·exact(Sl.none_map own).append (M1.sl.pick ix)
 ·rcases M.own l (sub l h) with q|q
  ·exact .inl q
  ·refine .inr ?_
   show upd F.H0 D (.lst []) (ρ l)=none
   rw[z05 (nD l (M.lab l (sub l h)))];exact q
 ·have e:upd F.H0 D (.lst []) a=some o:=e
  by_cases ha:a=D
  ·subst ha
   rw[z09] at e;cases e
   exact⟨⟨_,z09⟩,fun _=>z09⟩
  ·rw[z05 ha] at e
   exact M1.frm a o e
 ·rcases z with z|z
  ·exact nD l hl z
  ·exact M.frb l hl z
theorem MR.turnD{ρ:Nat→Addr}{H:Hp}{σv tv:List (Option V)}{s:Stt}{D:Addr}{ys ys':List V}{hf:F.H0 D=none}(M:MR G (F.prot D ys hf).toFx ρ H σv tv s):
 H D=some (.lst ys)∧MR G (F.prot D ys' hf).toFx ρ (upd H D (.lst ys')) σv tv s:=by
 have hD:H D=some (.lst ys):=(M.frm D (.lst ys) z09).2 ((F.prot D ys hf).zA D (.inl rfl)).2
 have nD: ∀l,l<s.n→ρ l≠D:=fun l hl e=>M.frb l hl (.inl e)
 have st:z0H H (upd H D (.lst ys')):=⟨fun b xs e=>by rw[z05 (z3J e hD (by intro z;cases z))];exact e,fun b o u e=>by rw[z05 (z3J e hD (by intro z;cases z))];exact e⟩
 refine⟨hD,⟨Sl.stay st M.sl fun l hl=>⟨rfl,fun o e=> ?_⟩,Sl.stay st M.tm fun l hl=>⟨rfl,fun o e=> ?_⟩,M.inj,fun l hl=> ?_,M.lab,fun l h=> ?_,fun a o e=> ?_,fun a o e=> ?_,fun l hl=>M.frb l hl,M.bas⟩⟩
 ·rw[z05 (nD l (M.lab l (List.mem_append_left _ hl)))];exact e
 ·rw[z05 (nD l (M.lab l (List.mem_append_right _ hl)))];exact e
 ·rw[z05 (nD l hl)];exact M.dom l hl
 ·rcases M.own l h with q|q
  ·exact .inl q
  ·refine .inr ?_
   have q:upd F.H0 D (.lst ys) (ρ l)=none:=q
   show upd F.H0 D (.lst ys') (ρ l)=none
   rw[z05 (nD l (M.lab l h))] at q⊢;exact q
 ·have e:upd F.H0 D (.lst ys') a=some o:=e
  by_cases ha:a=D
  ·subst ha
   rw[z09] at e;cases e
   exact⟨⟨_,z09⟩,fun _=>z09⟩
  ·rw[z05 ha] at e⊢
   exact M.frm a o (by show upd F.H0 D (.lst ys) a=some o;rw[z05 ha];exact e)
 ·by_cases ha:a=D
  ·subst ha
   rw[M.kd a o e] at hD;cases hD
  ·rw[z05 ha];exact M.kd a o e
theorem Sl.all{ρ:Nat→Addr}{H:Hp}: ∀{tm:List (Option D)} {ys:List V} {ds:List D},Sl G ρ H tm (ys.map some)→z04 tm=some ds→RDs G ρ H ds ys∧z00 ds=z06 tm
 |[],ys,ds,h,e=>by
  simp only[Sl] at h
  simp only[z04,Option.some.injEq] at e
  subst e
  have:ys=[]:=by simpa using h
  subst this
  simp[RDs,z00,z06]
 |none::r,ys,ds,h,e=>by simp only[z04] at e;cases e
 |some d::r,ys,ds,h,e=>by
  simp only[Sl] at h
  obtain⟨v,q,e1,h1,h2⟩:=h
  cases ys with
  |nil=>cases e1
  |cons y ys=>
   simp only[List.map_cons,List.cons.injEq,Option.some.injEq] at e1
   obtain⟨rfl,rfl⟩:=e1
   simp only[z04] at e
   cases e2:z04 r with
   |none=>rw[e2] at e;cases e
   |some es=>
    rw[e2] at e
    cases e
    obtain⟨r1,r2⟩:=Sl.all h2 e2
    refine⟨?_,by simp only[z00,z06,r2]⟩
    simp only[RDs]
    exact⟨_,_,rfl,h1,r1⟩
theorem Sl.reverse{ρ:Nat→Addr}{H:Hp}: ∀{tm:List (Option D)} {ys:List (Option V)},Sl G ρ H tm ys→Sl G ρ H tm.reverse ys.reverse
 |[],ys,h=>by simp only[Sl] at h;subst h;simp[Sl]
 |none::r,ys,h=>by
  simp only[Sl] at h
  obtain⟨o,q,rfl,h⟩:=h
  rw[List.reverse_cons,List.reverse_cons]
  exact(Sl.reverse h).append (by simp only[Sl];exact⟨_,_,rfl,rfl⟩)
 |some d::r,ys,h=>by
  simp only[Sl] at h
  obtain⟨o,q,rfl,h1,h⟩:=h
  rw[List.reverse_cons,List.reverse_cons]
  exact(Sl.reverse h).append (by simp only[Sl];exact⟨_,_,rfl,h1,rfl⟩)
theorem z2h{l:Nat}: ∀{tm:List (Option D)},l∈z06 tm.reverse↔l∈z06 tm
 |[]=>by simp
 |none::r=>by
  rw[List.reverse_cons,z08]
  simp only[z06,List.append_nil]
  exact z2h
 |some d::r=>by
  rw[List.reverse_cons,z08]
  simp only[z06,List.append_nil,List.mem_append]
  rw[z2h]
  exact Or.comm
theorem MR.leave{ρ:Nat→Addr}{H:Hp}{σi σv tvs tv:List (Option V)}{s:Stt}{A1:Addr}{ys:List V}{hf:F.H0 A1=none}{ds:List D}{kk:Nat}
 (M:MR G (F.prot A1 ys hf).toFx ρ H σi ((ys.reverse.map some)++(σv++(tvs++tv))) s) (hk:tvs.length=kk) (ol:Nat) (ho:σv.length=ol) (e:z04 (s.tm.take ys.length).reverse=some ds):
 MRL G F.toFx (ext ρ s.n A1) H σv tv {σ:=(s.tm.drop ys.length).take ol,tm:=s.tm.drop (ys.length+ol+kk),n:=s.n+1} [.lst s.n ds] [.ref A1]:=by
 subst hk ho
 have hD:=(MR.turnD (ys':=ys) M).1
 have nD: ∀l,l<s.n→ρ l≠A1:=fun l hl e=>M.frb l hl (.inl e)
 have t0:=Sl.split (ys.reverse.map some) M.tm
 simp only[List.length_map,List.length_reverse] at t0
 obtain⟨t1,t2⟩:=t0
 obtain⟨t3,t4⟩:=Sl.split σv t2
 obtain⟨_,t6⟩:=Sl.split tvs t4
 rw[List.drop_drop] at t4
 rw[List.drop_drop,List.drop_drop] at t6
 have t6':Sl G ρ H (s.tm.drop (ys.length+σv.length+tvs.length)) tv:=by rw[Nat.add_assoc];exact t6
 have t1':=t1.reverse
 rw[←List.map_reverse,List.reverse_reverse] at t1'
 obtain⟨r1,r2⟩:=Sl.all t1' e
 have lt: ∀l,l∈z06 (s.tm.take ys.length)→l∈z0v s:=fun l h=>List.mem_append_right _ (by
  have e:=z08 (s.tm.take ys.length) (s.tm.drop ys.length)
  rw[List.take_append_drop] at e
  rw[e];exact List.mem_append_left _ h)
 have ld: ∀l k,l∈z06 (s.tm.drop k)→l∈z0v s:=fun l k h=>List.mem_append_right _ (by
  have e:=z08 (s.tm.take k) (s.tm.drop k)
  rw[List.take_append_drop] at e
  rw[e];exact List.mem_append_right _ h)
 have ldt: ∀l k j,l∈z06 ((s.tm.drop k).take j)→l∈z0v s:=fun l k j h=>ld l k (by
  have e:=z08 ((s.tm.drop k).take j) ((s.tm.drop k).drop j)
  rw[List.take_append_drop] at e
  rw[e];exact List.mem_append_left _ h)
 have own: ∀l∈z0v s,F.A0 (ρ l)∨F.H0 (ρ l)=none:=fun l h=>by
  rcases M.own l h with q|q
  ·exact .inl q
  ·refine .inr ?_
   have q:upd F.H0 A1 (.lst ys) (ρ l)=none:=q
   rw[z05 (nD l (M.lab l h))] at q;exact q
 have st:=z0H.refl H
 have stay: ∀l,l<s.n→ext ρ s.n A1 l=ρ l∧∀o,H (ρ l)=some o→H (ρ l)=some o:=fun l hl=>⟨z0d hl,fun o e=>e⟩
 have all: ∀l∈z0v {σ:=(s.tm.drop ys.length).take σv.length,tm:=s.tm.drop (ys.length+σv.length+tvs.length),n:=s.n+1},l∈z0v s:=fun l h=>by
  rcases List.mem_append.mp h with h|h
  ·exact ldt l _ _ h
  ·exact ld l _ h
 have dsl: ∀l∈z00 ds,l∈z0v s:=fun l h=>lt l (by rw[r2] at h;exact z2h.mp h)
 refine⟨⟨Sl.stay st t3 fun l hl=>stay l (M.lab l (ldt l _ _ hl)),Sl.stay st t6' fun l hl=>stay l (M.lab l (ld l _ hl)),fun i j hi hj eq=> ?_,fun l hl=> ?_,fun l h=>Nat.lt_succ_of_lt (M.lab l (all l h)),fun l h=> ?_,fun a o e=> ?_,M.kd,fun l hl z=> ?_,⟨Nat.le_succ_of_le M.bas.1,fun l hl=>by rw[z0d (Nat.lt_of_lt_of_le hl M.bas.1)];exact M.bas.2 l hl⟩⟩, ?_,fun l h=> ?_⟩
 ·have hi:i<s.n+1:=hi
  have hj:j<s.n+1:=hj
  by_cases h1:i=s.n
  ·by_cases h2:j=s.n
   ·omega
   ·rw[h1,z0x,z0d (by omega)] at eq
    exact absurd eq.symm (nD j (by omega))
  ·by_cases h2:j=s.n
   ·rw[h2,z0x,z0d (by omega)] at eq
    exact absurd eq (nD i (by omega))
   ·rw[z0d (by omega),z0d (by omega)] at eq
    exact M.inj i j (by omega) (by omega) eq
 ·have hl:l<s.n+1:=hl
  by_cases h1:l=s.n
  ·subst h1;rw[z0x];exact⟨_,hD⟩
  ·rw[z0d (by omega)];exact M.dom l (by omega)
 ·rw[z0d (M.lab l (all l h))];exact own l (all l h)
 ·exact M.frm a o (by show upd F.H0 A1 (.lst ys) a=some o;rw[z05 (z0p e hf)];exact e)
 ·have hl:l<s.n+1:=hl
  by_cases h1:l=s.n
  ·subst h1;rw[z0x] at z
   obtain⟨⟨o,e⟩,_⟩:=F.zA A1 z
   rw[hf] at e;cases e
  ·rw[z0d (by omega)] at z
   exact M.frb l (by omega) (.inr z)
 ·refine RDs.one ?_
  simp only[RD]
  rw[z0x]
  exact⟨rfl,ys,hD,RDs.stay st ds ys r1 fun l hl=>stay l (M.lab l (dsl l hl))⟩
 ·simp only[z00,labs,List.append_nil] at h
  rcases List.mem_cons.mp h with q|q
  ·rw[q,z0x];exact⟨Nat.lt_succ_self _, .inr hf⟩
  ·have q2:=dsl l q
   exact⟨Nat.lt_succ_of_lt (M.lab l q2),by rw[z0d (M.lab l q2)];exact own l q2⟩
noncomputable def tMx(G:Gx)(m:M D):TE:=fun σ H Q=> ∃F:Fy,tM G F m σ H Q
noncomputable def tBx(G:Gx)(m:M Bool):TT:=fun σ H Q=> ∃F:Fy,tMB G F m σ H Q
noncomputable def tGx(G:Gx)(g:Tg):TG:=fun v σ H Q=> ∃F:Fy,tGn G F g v σ H Q
noncomputable def STs(X:Cx)(G:Gx)(F:Fy)(ifs:List Expr)(m:M Bool):Prop:=PTs X ifs (tMB G F m)
theorem sts_nil:STs X G F [] (rt true):=fun pins s σ H Q I ⟨tv,hs,ρ,ms,M,W⟩=>z8L pins s σ H Q I (W ρ H M)
theorem z7u{K:PySem.W.Frag}{k:Nat}{ix:List Nat}{mi:M ItK}{g:Tg}{mt:M Bool}{me:M D}{σ:St}{H:Hp}{Q:VK}(hk:K=G.K)(h:tM G F (z0y mi g mt me k ix) σ H Q):z83 K (tI G F mi) (tGx G g) (tBx G mt) (tMx G me) k ix σ H Q:=by
 obtain⟨tv,hsf,ρ,s,M,W⟩:=h
 refine⟨tv,hsf,ρ,s,M, ?_⟩
 unfold z0y bd at W
 cases em:mi s with
 |ex d s1=>rw[em] at W;exact W
 |no=>rw[em] at W;exact W
 |ok K s1=>
  rw[em] at W
  intro ρ1 H1 tvs J hl M1 hok A1 hA1 kd
  subst hk
  have kd:KD G.K (upd H1 A1 (.lst [])):=kd
  have hf:=M1.fresh0 hA1
  refine⟨fun i m ys σ' H'=> ∃ρ s,MR G (F.prot A1 ys hf).toFx ρ H' σ' ((ys.reverse.map some)++(σ++(tvs++tv))) s∧wM G F σ tv (z0D K g mt me s1.σ.length m i ys.length s) Q,⟨_,ρ1,_,M1.enter hA1 kd k ix,W⟩, ?_⟩
  rintro i m ys σ' H' ⟨ρ2,s2,M2,W2⟩
  have hD:=(MR.turnD (ys':=ys) M2).1
  refine⟨hD, ?_⟩
  have ol:s1.σ.length=σ.length:=M1.sl.length
  have ok:=hok (F.prot A1 ys hf).toFx ρ2 H' σ' ((ys.reverse.map some)++σ) tv s2 i (by rw[List.append_assoc];exact M2)
  simp only[List.length_append,List.length_map,List.length_reverse,←ol,List.append_assoc] at ok
  unfold z0D at W2
  cases e:K.at' i (s2.tm.drop (ys.length+s1.σ.length)) with
  |none=>simp only[e] at W2;exact False.elim W2
  |some o=>
   rw[e] at ok
   cases o with
   |none=>
    simp only[e] at W2 ok
    refine .inl ⟨ok, ?_⟩
    cases ea:z04 (s2.tm.take ys.length).reverse with
    |none=>simp only[ea] at W2;exact False.elim W2
    |some ds=>
     simp only[ea] at W2
     exact W2 _ _ _ (MR.leave M2 hl _ ol.symm ea)
   |some d=>
    simp only[e] at W2 ok
    cases m with
    |zero=>exact False.elim W2
    |succ f=>
     dsimp only at W2
     cases e2:asg g d s2.σ with
     |none=>simp only[e2] at W2;exact False.elim W2
     |some σ3=>
      simp only[e2] at W2
      refine .inr ⟨ok.1,fun x H2 y=> ?_⟩
      have hx:=ok.2 x H2 y
      refine⟨F.prot A1 ys hf,_,ρ2,s2,d,hx,σ3,e2,fun σv' M3=>⟨F.prot A1 ys hf,_,List.nil_suffix,ρ2,_,M3, ?_⟩⟩
      cases e3:mt {s2 with σ:=σ3} with
      |ex d s4=>simp only[e3] at W2;exact False.elim W2
      |no=>simp only[e3] at W2;exact False.elim W2
      |ok b s4=>
       intro ρ4 H4 M4
       cases b with
       |false=>
        simp only[e3] at W2
        rw[if_neg Bool.false_ne_true]
        exact⟨f,Nat.lt_succ_self _,ρ4,s4,M4,W2⟩
       |true=>
        simp only[e3] at W2
        rw[if_pos rfl]
        by_cases hz:ys.length<sizeLine
        ·rw[if_pos hz] at W2
         refine⟨F.prot A1 ys hf,_,List.nil_suffix,ρ4,s4,M4, ?_⟩
         cases e5:me s4 with
         |ex d s5=>simp only[e5] at W2;exact False.elim W2
         |no=>simp only[e5] at W2;exact False.elim W2
         |ok y s5=>
          simp only[e5] at W2
          intro ρ5 v H5 M5
          obtain⟨hD5,M6⟩:=MR.turnD (ys':=ys++[v]) M5.push
          refine⟨hD5,hz,f,Nat.lt_succ_self _,ρ5,s5.psh y, ?_, ?_⟩
          ·rw[List.reverse_append,List.reverse_cons,List.reverse_nil,List.nil_append,List.map_append]
           exact M6
          ·rw[List.length_append];exact W2
        ·rw[if_neg hz] at W2;exact False.elim W2
theorem se_comp{scope:Scope}{own frees:List Str}{ix:List Nat}{ifs:List Expr}{mi:M ItK}{g:Tg}{mt:M Bool}{me:M D}(hk:X.K=G.K)(hc:X.calm=true)(S:z1d X.env.scope scope own frees X.N ix)(hi:SI X G F tg iter mi)
 (hg: ∀(F:Fy) cl C s₀ H₀ fp pn,SG (z0X X scope own frees cl C s₀ H₀ fp pn) G F tg g) (ht: ∀(F:Fy) cl C s₀ H₀ fp pn,STs (z0X X scope own frees cl C s₀ H₀ fp pn) G F ifs mt) (he: ∀(F:Fy) cl C s₀ H₀ fp pn,SE (z0X X scope own frees cl C s₀ H₀ fp pn) G F elt me)
 (hs: ∀x,foldedSetIterable iter X.env x=pure x:=by intro _;rfl):SE X G F (.ListComp elt [⟨tg,iter,ifs,0⟩] scope pos) (z0y mi g mt me own.length ix):=
 PE.imp0 (z5W (g:=tGx G g) (tt:=tBx G mt) (te:=tMx G me) hc S hi (fun cl C s₀ H₀ fp pn pins s σ H v u Q I r ⟨F',q⟩=>hg F' cl C s₀ H₀ fp pn pins s σ H v u Q I r q)
  (fun cl C s₀ H₀ fp pn pins s σ H Q I ⟨F',q⟩=>ht F' cl C s₀ H₀ fp pn pins s σ H Q I q) (fun cl C s₀ H₀ fp pn pins s σ H Q I ⟨F',q⟩=>he F' cl C s₀ H₀ fp pn pins s σ H Q I q) hs) fun σ H Q h=>z7u hk h
end
end Mi
namespace Mi
open PySem L2
mutual
noncomputable def z0e(l:Nat):D→Option D
 | .tup ds=>z0f l ds
 | .ro ds=>z0f l ds
 | .fdc _ vs=>z0f l vs
 | .lst k ds=>if k=l then some (.lst k ds) else z0f l ds
 | .dct k ks vs=>if k=l then some (.dct k ks vs) else z0f l vs
 | .obj k c ns vs=>if k=l then some (.obj k c ns vs) else z0f l vs
 | .non=>none| .bool _=>none| .int _=>none| .str _=>none| .exc _=>none| .fn _=>none
noncomputable def z0f(l:Nat):List D→Option D
 |[]=>none
 |d::ds=>match z0e l d with
  |some x=>some x
  |none=>z0f l ds
end
section
variable{G:Gx}{ρ:Nat→Addr}{H:Hp}
mutual
theorem z7v(l:Nat): ∀(t:D) (v:V) (d:D),RD G ρ H t v→z0e l t=some d→RD G ρ H d (.ref (ρ l))∧∀k∈labs d,k∈labs t
 | .non,v,d,h,e=>by simp only[z0e] at e;cases e
 | .bool b,v,d,h,e=>by simp only[z0e] at e;cases e
 | .int b,v,d,h,e=>by simp only[z0e] at e;cases e
 | .str b,v,d,h,e=>by simp only[z0e] at e;cases e
 | .exc b,v,d,h,e=>by simp only[z0e] at e;cases e
 | .fn b,v,d,h,e=>by simp only[z0e] at e;cases e
 | .tup ds,v,d,h,e=>by
  simp only[z0e,RD,labs] at h e⊢
  obtain⟨a,xs,_,_,r⟩:=h
  exact z0k l ds xs d r e
 | .ro ds,v,d,h,e=>by
  simp only[z0e,RD,labs] at h e⊢
  obtain⟨a,xs,_,_,r⟩:=h
  exact z0k l ds xs d r e
 | .fdc ks vs,v,d,h,e=>by
  simp only[z0e,RD,labs] at h e⊢
  obtain⟨a,o,kvs,_,_,_,r⟩:=h
  exact z0k l vs _ d r e
 | .lst k ds,v,d,h,e=>by
  simp only[z0e] at e
  by_cases hk:k=l
  ·rw[if_pos hk] at e;cases e
   subst hk
   have h':=h
   simp only[RD] at h'
   obtain⟨rfl,_⟩:=h'
   exact⟨h,fun _ q=>q⟩
  ·rw[if_neg hk] at e
   simp only[RD] at h
   obtain⟨_,xs,_,r⟩:=h
   obtain⟨q1,q2⟩:=z0k l ds xs d r e
   exact⟨q1,fun j hj=>by simp only[labs];exact List.mem_cons_of_mem _ (q2 j hj)⟩
 | .dct k ks vs,v,d,h,e=>by
  simp only[z0e] at e
  by_cases hk:k=l
  ·rw[if_pos hk] at e;cases e
   subst hk
   have h':=h
   simp only[RD] at h'
   obtain⟨rfl,_⟩:=h'
   exact⟨h,fun _ q=>q⟩
  ·rw[if_neg hk] at e
   simp only[RD] at h
   obtain⟨_,⟨kvs,_,_,r⟩|⟨kvs,_,_,r⟩⟩:=h
   ·obtain⟨q1,q2⟩:=z0k l vs _ d r e
    exact⟨q1,fun j hj=>by simp only[labs];exact List.mem_cons_of_mem _ (List.mem_append_right _ (q2 j hj))⟩
   ·obtain⟨q1,q2⟩:=z0k l vs _ d r e
    exact⟨q1,fun j hj=>by simp only[labs];exact List.mem_cons_of_mem _ (List.mem_append_right _ (q2 j hj))⟩
 | .obj k c ns vs,v,d,h,e=>by
  simp only[z0e] at e
  by_cases hk:k=l
  ·rw[if_pos hk] at e;cases e
   subst hk
   have h':=h
   simp only[RD] at h'
   obtain⟨rfl,_⟩:=h'
   exact⟨h,fun _ q=>q⟩
  ·rw[if_neg hk] at e
   simp only[RD] at h
   obtain⟨_,C,dx,fs,_,_,_,r⟩:=h
   obtain⟨q1,q2⟩:=z0k l vs _ d r e
   exact⟨q1,fun j hj=>by simp only[labs];exact List.mem_cons_of_mem _ (q2 j hj)⟩
theorem z0k(l:Nat): ∀(t:List D) (v:List V) (d:D),RDs G ρ H t v→z0f l t=some d→RD G ρ H d (.ref (ρ l))∧∀k∈labs d,k∈z00 t
 |[],v,d,h,e=>by simp only[z0f] at e;cases e
 |t::ts,v,d,h,e=>by
  simp only[z0f,RDs,z00] at h e⊢
  obtain⟨x,r,_,h1,h2⟩:=h
  cases e1:z0e l t with
  |some y=>
   rw[e1] at e;cases e
   obtain⟨q1,q2⟩:=z7v l t x _ h1 e1
   exact⟨q1,fun j hj=>List.mem_append_left _ (q2 j hj)⟩
  |none=>
   rw[e1] at e
   obtain⟨q1,q2⟩:=z0k l ts r d h2 e
   exact⟨q1,fun j hj=>List.mem_append_right _ (q2 j hj)⟩
end
theorem roL_two{K:PySem.W.Frag}{a:Addr}{xs ys:List V}(k:KD K H)(h:RoL K H a xs)(h':RoL K H a ys):xs=ys:=SqL.two k h.sq h'.sq
noncomputable def z4A(G:Gx)(H:Hp)(a:Addr):Nat→Prop
 |0=> ∃xs,SqT G.K H a xs
 |1=> ∃xs,RoL G.K H a xs
 |2=> ∃xs,H a=some (.lst xs)
 |3=>(∃kvs,H a=some (.dK kvs))∨∃kvs,H a=some (.dT kvs)
 |4=> ∃C dx fs,H a=some (.ins C dx fs)
 |5=> ∃o φ,H a=some (.frz o (.ext φ))
 |6=> ∃c,G.cl c=some a
 |_=> ∃o kvs,H a=some (.frz o (.dT kvs))
open Classical in
noncomputable def kd(K:PySem.W.Frag)(H:Hp)(a:Addr):Nat:=match H a with
 |some (.tup _)=>0|some (.frz _ (.tup _))=>0|some (.frz _ (.lst _))=>1|some (.lst _)=>2|some (.dK _)=>3|some (.dT _)=>3|some (.ins _ _ _)=>4|some (.frz _ (.ext _))=>5|some (.frz _ (.dT _))=>7
 |some _=>9
 |none=>match K.lookup a with
  |some o=>if(∃its n,o.data= .seq its n) then(if o.cls= .type "tuple" then 0 else 1) else 6
  |none=>8
theorem zaR{a:Addr}(k:KD G.K H): ∀{i:Nat},z4A G H a i→i≤7→kd G.K H a=i:=by
 have tl: ¬((.type "list" :Value)= .type "tuple"):=by intro h;injection h with h;exact absurd h (by decide)
 intro i hi li
 match i,hi,li with
 |0,⟨xs,h⟩,_=>
  rcases h with(h|⟨o,h⟩)|⟨o,its,n,h,hc,hd,_⟩
  ·unfold kd;rw[h]
  ·unfold kd;rw[h]
  ·unfold kd;rw[k _ _ h];dsimp only;rw[h];dsimp only;rw[if_pos ⟨its,n,hd⟩,if_pos hc]
 |1,⟨xs,h⟩,_=>
  rcases h with⟨o,h⟩|⟨o,its,n,h,hc,_,hd,_⟩
  ·unfold kd;rw[h]
  ·unfold kd;rw[k _ _ h];dsimp only;rw[h];dsimp only;rw[if_pos ⟨its,n,hd⟩,if_neg (by rw[hc];exact tl)]
 |2,⟨xs,h⟩,_=>unfold kd;rw[h]
 |3,h,_=>rcases h with⟨_,h⟩|⟨_,h⟩<;>(unfold kd;rw[h])
 |4,⟨_,_,_,h⟩,_=>unfold kd;rw[h]
 |5,⟨_,_,h⟩,_=>unfold kd;rw[h]
 |6,⟨c,h⟩,_=>
  obtain⟨o,h1,h2⟩:=G.ck c a h
  unfold kd;rw[k _ _ h1];dsimp only;rw[h1];dsimp only;rw[if_neg (fun⟨its,n,q⟩=>h2 its n q)]
 |7,⟨_,_,h⟩,_=>unfold kd;rw[h]
 |n+8,_,li=>omega
theorem kind_one{a:Addr}(k:KD G.K H){i j:Nat}(hi:z4A G H a i)(hj:z4A G H a j)(li:i≤7)(lj:j≤7):i=j:=(zaR k hi li).symm.trans (zaR k hj lj)
theorem RD.kind{t:D}{a:Addr}(h:RD G ρ H t (.ref a)): ∃i,i≤7∧z4A G H a i∧(match t with| .tup _=>i=0| .ro _=>i=1| .lst _ _=>i=2| .dct _ _ _=>i=3| .obj _ _ _ _=>i=4| .exc _=>i=5| .fn _=>i=6| .fdc _ _=>i=7|_=>False):=by
 cases t<;>simp only[RD] at h
 ·cases h
 ·cases h
 ·cases h
 ·cases h
 ·obtain⟨a',xs,e,s,r⟩:=h;cases e;exact⟨0,by omega,⟨xs,SqT.of s⟩,rfl⟩
 ·obtain⟨a',xs,e,s,r⟩:=h;cases e;exact⟨1,by omega,⟨xs,s⟩,rfl⟩
 ·obtain⟨e,xs,s,r⟩:=h;cases e;exact⟨2,by omega,⟨xs,s⟩,rfl⟩
 ·obtain⟨e,⟨kvs,s,_⟩|⟨kvs,s,_⟩⟩:=h
  ·cases e;exact⟨3,by omega, .inl ⟨kvs,s⟩,rfl⟩
  ·cases e;exact⟨3,by omega, .inr ⟨kvs,s⟩,rfl⟩
 ·obtain⟨e,C,dx,fs,_,s,_⟩:=h;cases e;exact⟨4,by omega,⟨C,dx,fs,s⟩,rfl⟩
 ·obtain⟨a',o,C,e,_,_,_,s⟩:=h;cases e;exact⟨5,by omega,⟨o,_,s⟩,rfl⟩
 ·obtain⟨a',e,s⟩:=h;cases e;exact⟨6,by omega,⟨_,s⟩,rfl⟩
 ·obtain⟨a',o,kvs,e,s,_⟩:=h;cases e;exact⟨7,by omega,⟨o,kvs,s⟩,rfl⟩
section
variable(k:KD G.K H){n:Nat}(inj: ∀i j,i<n→j<n→ρ i=ρ j→i=j)
include k inj
mutual
theorem RD.uniq: ∀(t t':D) (v:V),RD G ρ H t v→RD G ρ H t' v→(∀l∈labs t,l<n)→(∀l∈labs t',l<n)→t=t'
 | .non,t',v,h,h',_,_=>by
  simp only[RD] at h;subst h
  cases t'<;>simp only[RD] at h'<;>first|rfl|(cases h';done)|(obtain⟨e,_⟩:=h';cases e;done)|(obtain⟨_,_,e,_⟩:=h';cases e;done)|(obtain⟨_,_,_,e,_⟩:=h';cases e;done)|(obtain⟨_,e,_⟩:=h';cases e;done)
 | .bool b,t',v,h,h',_,_=>by
  simp only[RD] at h;subst h
  cases t'<;>simp only[RD] at h'<;>first|(cases h';rfl)|(cases h';done)|(obtain⟨e,_⟩:=h';cases e;done)|(obtain⟨_,_,e,_⟩:=h';cases e;done)|(obtain⟨_,_,_,e,_⟩:=h';cases e;done)|(obtain⟨_,e,_⟩:=h';cases e;done)
 | .int b,t',v,h,h',_,_=>by
  simp only[RD] at h;subst h
  cases t'<;>simp only[RD] at h'<;>first|(cases h';rfl)|(cases h';done)|(obtain⟨e,_⟩:=h';cases e;done)|(obtain⟨_,_,e,_⟩:=h';cases e;done)|(obtain⟨_,_,_,e,_⟩:=h';cases e;done)|(obtain⟨_,e,_⟩:=h';cases e;done)
 | .str b,t',v,h,h',_,_=>by
  simp only[RD] at h;subst h
  cases t'<;>simp only[RD] at h'<;>first|(cases h';rfl)|(cases h';done)|(obtain⟨e,_⟩:=h';cases e;done)|(obtain⟨_,_,e,_⟩:=h';cases e;done)|(obtain⟨_,_,_,e,_⟩:=h';cases e;done)|(obtain⟨_,e,_⟩:=h';cases e;done)
 | .exc c,t',v,h,h',lb,lb'=>by
  have h0:=h
  simp only[RD] at h0
  obtain⟨a,o,C,rfl,h1,h2,_,s⟩:=h0
  obtain⟨i,li,ki,mi⟩:=RD.kind h'
  cases kind_one k (i:=5) ⟨o,_,s⟩ ki (by omega) li
  cases t' with
  |exc c'=>
   simp only[RD] at h'
   obtain⟨a',o',C',e,h1',h2',_,s'⟩:=h'
   cases e
   rw[s] at s';cases s'
   rw[h2] at h2';cases h2'
   rw[G.ci c c' C h1 h1']
  |_=>simp at mi
 | .fn c,t',v,h,h',lb,lb'=>by
  have h0:=h
  simp only[RD] at h0
  obtain⟨a,rfl,h1⟩:=h0
  obtain⟨i,li,ki,mi⟩:=RD.kind h'
  cases kind_one k (i:=6) ⟨c,h1⟩ ki (by omega) li
  cases t' with
  |fn c'=>
   simp only[RD] at h'
   obtain⟨a',e,h1'⟩:=h'
   cases e
   rw[G.ci c c' a h1 h1']
  |_=>simp at mi
 | .tup ds,t',v,h,h',lb,lb'=>by
  obtain⟨a,xs,rfl,s,r⟩:=h.tupq
  obtain⟨i,li,ki,mi⟩:=RD.kind h'
  cases kind_one k (i:=0) ⟨xs,s⟩ ki (by omega) li
  cases t' with
  |tup es=>
   obtain⟨a',ys,e,s',r'⟩:=h'.tupq
   cases e
   cases SqT.two k s s'
   rw[RDs.uniq ds es xs r r' (fun l hl=>lb l (by simp only[labs];exact hl)) fun l hl=>lb' l (by simp only[labs];exact hl)]
  |_=>simp at mi
 | .fdc ks vs,t',v,h,h',lb,lb'=>by
  have h0:=h
  simp only[RD] at h0
  obtain⟨a,o,kvs,rfl,s,s2,r⟩:=h0
  obtain⟨i,li,ki,mi⟩:=RD.kind h'
  cases kind_one k (i:=7) ⟨o,kvs,s⟩ ki (by omega) li
  cases t' with
  |fdc ks' vs'=>
   simp only[RD] at h'
   obtain⟨a',o',kvs',e,s',s2',r'⟩:=h'
   cases e
   rw[s] at s';cases s'
   rw[s2,s2',RDs.uniq vs vs' _ r r' (fun l hl=>lb l (by simp only[labs];exact hl)) fun l hl=>lb' l (by simp only[labs];exact hl)]
  |_=>simp at mi
 | .ro ds,t',v,h,h',lb,lb'=>by
  have h0:=h
  simp only[RD] at h0
  obtain⟨a,xs,rfl,s,r⟩:=h0
  obtain⟨i,li,ki,mi⟩:=RD.kind h'
  cases kind_one k (i:=1) ⟨xs,s⟩ ki (by omega) li
  cases t' with
  |ro es=>
   simp only[RD] at h'
   obtain⟨a',ys,e,s',r'⟩:=h'
   cases e
   cases roL_two k s s'
   rw[RDs.uniq ds es xs r r' (fun l hl=>lb l (by simp only[labs];exact hl)) fun l hl=>lb' l (by simp only[labs];exact hl)]
  |_=>simp at mi
 | .lst l ds,t',v,h,h',lb,lb'=>by
  have h0:=h
  simp only[RD] at h0
  obtain⟨rfl,xs,s,r⟩:=h0
  obtain⟨i,li,ki,mi⟩:=RD.kind h'
  cases kind_one k (i:=2) ⟨xs,s⟩ ki (by omega) li
  cases t' with
  |lst l' es=>
   simp only[RD] at h'
   obtain⟨e,ys,s',r'⟩:=h'
   have e:ρ l=ρ l':=V.ref.inj e
   cases inj l l' (lb l (by simp only[labs];exact List.mem_cons_self ..)) (lb' l' (by simp only[labs];exact List.mem_cons_self ..)) e
   rw[s] at s';cases s'
   rw[RDs.uniq ds es xs r r' (fun l hl=>lb l (by simp only[labs];exact List.mem_cons_of_mem _ hl)) fun l hl=>lb' l (by simp only[labs];exact List.mem_cons_of_mem _ hl)]
  |_=>simp at mi
 | .dct l ks vs,t',v,h,h',lb,lb'=>by
  have h0:=h
  simp only[RD] at h0
  obtain⟨rfl,q⟩:=h0
  obtain⟨i,li,ki,mi⟩:=RD.kind h'
  cases kind_one k (i:=3) (by rcases q with⟨kvs,s,_⟩|⟨kvs,s,_⟩;exact .inl ⟨_,s⟩;exact .inr ⟨_,s⟩) ki (by omega) li
  cases t' with
  |dct l' ks' vs'=>
   simp only[RD] at h'
   obtain⟨e,q'⟩:=h'
   have e:ρ l=ρ l':=V.ref.inj e
   cases inj l l' (lb l (by simp only[labs];exact List.mem_cons_self ..)) (lb' l' (by simp only[labs];exact List.mem_cons_self ..)) e
   have b1: ∀j∈z00 vs,j<n:=fun j hj=>lb j (by simp only[labs];exact List.mem_cons_of_mem _ (List.mem_append_right _ hj))
   have b2: ∀j∈z00 vs',j<n:=fun j hj=>lb' j (by simp only[labs];exact List.mem_cons_of_mem _ (List.mem_append_right _ hj))
   rcases q with⟨kvs,s,s2,r⟩|⟨kvs,s,s2,r⟩<;>rcases q' with⟨kvs',s',s2',r'⟩|⟨kvs',s',s2',r'⟩
   ·rw[s] at s';cases s'
    rw[s2,s2',RDs.uniq vs vs' _ r r' b1 b2]
   ·rw[s] at s';cases s'
   ·rw[s] at s';cases s'
   ·rw[s] at s';cases s'
    rw[s2,s2',RDs.uniq vs vs' _ r r' b1 b2]
  |_=>simp at mi
 | .obj l c ns vs,t',v,h,h',lb,lb'=>by
  have h0:=h
  simp only[RD] at h0
  obtain⟨rfl,C,dx,fs,hC,s,s2,r⟩:=h0
  obtain⟨i,li,ki,mi⟩:=RD.kind h'
  cases kind_one k (i:=4) ⟨_,_,_,s⟩ ki (by omega) li
  cases t' with
  |obj l' c' ns' vs'=>
   simp only[RD] at h'
   obtain⟨e,C',dx',fs',hC',s',s2',r'⟩:=h'
   have e:ρ l=ρ l':=V.ref.inj e
   cases inj l l' (lb l (by simp only[labs];exact List.mem_cons_self ..)) (lb' l' (by simp only[labs];exact List.mem_cons_self ..)) e
   rw[s] at s';cases s'
   rw[s2,s2',G.ci c c' C hC hC',RDs.uniq vs vs' _ r r' (fun j hj=>lb j (by simp only[labs];exact List.mem_cons_of_mem _ hj)) fun j hj=>lb' j (by simp only[labs];exact List.mem_cons_of_mem _ hj)]
  |_=>simp at mi
theorem RDs.uniq: ∀(t t':List D) (v:List V),RDs G ρ H t v→RDs G ρ H t' v→(∀l∈z00 t,l<n)→(∀l∈z00 t',l<n)→t=t'
 |[],t',v,h,h',_,_=>by
  simp only[RDs] at h;subst h
  cases t' with
  |nil=>rfl
  |cons d ds=>simp only[RDs] at h';obtain⟨_,_,e,_⟩:=h';cases e
 |d::ds,t',v,h,h',lb,lb'=>by
  simp only[RDs] at h
  obtain⟨x,q,rfl,h1,h2⟩:=h
  cases t' with
  |nil=>simp only[RDs] at h';cases h'
  |cons d' ds'=>
   simp only[RDs] at h'
   obtain⟨_,_,e,h1',h2'⟩:=h'
   cases e
   rw[RD.uniq d d' x h1 h1' (fun l hl=>lb l (by simp only[z00];exact List.mem_append_left _ hl)) fun l hl=>lb' l (by simp only[z00];exact List.mem_append_left _ hl),
    RDs.uniq ds ds' q h2 h2' (fun l hl=>lb l (by simp only[z00];exact List.mem_append_right _ hl)) fun l hl=>lb' l (by simp only[z00];exact List.mem_append_right _ hl)]
end
end
end
end Mi
namespace Mi
open PySem L2 PySem.Spec PyProof.Rows
inductive RF where
 |ok (t:D) (ts:List D) (n:Nat)|ex (d:D) (ts:List D) (n:Nat)|no
noncomputable abbrev FM:=List D→Nat→RF
structure z2T(G:Gx)(ρ:Nat→Addr)(n:Nat)(ts:List D)(vs:List V)(H:Hp)(ρ':Nat→Addr)(n':Nat)(ts':List D)(H':Hp):Prop where
 old: ∀l,l<n→ρ' l=ρ l
 le:n≤n'
 inj: ∀i j,i<n'→j<n'→ρ' i=ρ' j→i=j
 dom: ∀l,l<n'→∃o,H' (ρ' l)=some o
 rd:RDs G ρ' H' ts' vs
 lb: ∀l∈z00 ts',l<n'∧(l<n→l∈z00 ts)
 fr: ∀a o,H a=some o→(∃o',H' a=some o')∧((∀l∈z00 ts,a≠ρ l)→H' a=some o)
 new: ∀l,n≤l→l<n'→H (ρ' l)=none
 kd:KD G.K H'
section
variable{G:Gx}{ρ ρ':Nat→Addr}{H H':Hp}
mutual
theorem z8M: ∀(t:D) (v:V),RD G ρ H t v→∀l∈labs t,∃o,H (ρ l)=some o∧(∀xs,o≠ .tup xs)∧∀u w,o≠ .frz u w
 | .non,v,h,l,hl=>by simp only[labs] at hl;cases hl
 | .bool b,v,h,l,hl=>by simp only[labs] at hl;cases hl
 | .int b,v,h,l,hl=>by simp only[labs] at hl;cases hl
 | .str b,v,h,l,hl=>by simp only[labs] at hl;cases hl
 | .exc b,v,h,l,hl=>by simp only[labs] at hl;cases hl
 | .fn b,v,h,l,hl=>by simp only[labs] at hl;cases hl
 | .tup ds,v,h,l,hl=>by
  simp only[labs,RD] at h hl
  obtain⟨a,xs,_,_,r⟩:=h
  exact z0B ds xs r l hl
 | .fdc ks vs,v,h,l,hl=>by
  simp only[labs,RD] at h hl
  obtain⟨a,o,kvs,_,_,_,r⟩:=h
  exact z0B vs _ r l hl
 | .ro ds,v,h,l,hl=>by
  simp only[labs,RD] at h hl
  obtain⟨a,xs,_,_,r⟩:=h
  exact z0B ds xs r l hl
 | .lst k ds,v,h,l,hl=>by
  simp only[labs,RD] at h hl
  obtain⟨_,xs,s,r⟩:=h
  rcases List.mem_cons.mp hl with rfl|hl
  ·exact⟨_,s,(fun _ q=>nomatch q),(fun _ _ q=>nomatch q)⟩
  ·exact z0B ds xs r l hl
 | .dct k ks vs,v,h,l,hl=>by
  simp only[labs,RD] at h hl
  obtain⟨_,⟨kvs,s,s2,r⟩|⟨kvs,s,s2,r⟩⟩:=h
  ·rcases List.mem_cons.mp hl with rfl|hl
   ·exact⟨_,s,(fun _ q=>nomatch q),(fun _ _ q=>nomatch q)⟩
   ·rcases List.mem_append.mp hl with hl|hl
    ·rw[s2] at hl
     obtain⟨d,hd,hl⟩:=z0I hl
     rcases List.mem_cons.mp hd with rfl|hd
     ·simp only[labs] at hl;cases hl
     obtain⟨p,_,rfl⟩:=List.mem_map.mp hd
     obtain⟨kk,_⟩:=p
     cases kk<;>simp only[keyD,labs] at hl<;>cases hl
    ·exact z0B vs _ r l hl
  ·rcases List.mem_cons.mp hl with rfl|hl
   ·exact⟨_,s,(fun _ q=>nomatch q),(fun _ _ q=>nomatch q)⟩
   ·rcases List.mem_append.mp hl with hl|hl
    ·rw[s2] at hl
     obtain⟨d,hd,hl⟩:=z0I hl
     obtain⟨p,_,rfl⟩:=List.mem_map.mp hd
     simp only[dkD,labs] at hl
     obtain⟨d,hd,hl⟩:=z0I hl
     obtain⟨kk,_,rfl⟩:=List.mem_map.mp hd
     cases kk<;>simp only[keyD,labs] at hl<;>cases hl
    ·exact z0B vs _ r l hl
 | .obj k c ns vs,v,h,l,hl=>by
  simp only[labs,RD] at h hl
  obtain⟨_,C,dx,fs,_,s,_,r⟩:=h
  rcases List.mem_cons.mp hl with rfl|hl
  ·exact⟨_,s,(fun _ q=>nomatch q),(fun _ _ q=>nomatch q)⟩
  ·exact z0B vs _ r l hl
theorem z0B: ∀(t:List D) (v:List V),RDs G ρ H t v→∀l∈z00 t,∃o,H (ρ l)=some o∧(∀xs,o≠ .tup xs)∧∀u w,o≠ .frz u w
 |[],v,h,l,hl=>by simp only[z00] at hl;cases hl
 |d::ds,v,h,l,hl=>by
  simp only[z00,RDs] at h hl
  obtain⟨x,r,_,h1,h2⟩:=h
  rcases List.mem_append.mp hl with hl|hl
  ·exact z8M d x h1 l hl
  ·exact z0B ds r h2 l hl
end
theorem z57{kvs:List (Key×V)}{l:Nat}(hl:l∈z00 (kvs.map fun p=>keyD p.1)):False:=by
 obtain⟨d,hd,hl⟩:=z0I hl
 obtain⟨p,_,rfl⟩:=List.mem_map.mp hd
 obtain⟨kk,_⟩:=p
 cases kk<;>simp only[keyD,labs] at hl<;>cases hl
theorem z3P{kvs:List (List Key×V)}{l:Nat}(hl:l∈z00 (kvs.map fun p=>dkD p.1)):False:=by
 obtain⟨d,hd,hl⟩:=z0I hl
 obtain⟨p,_,rfl⟩:=List.mem_map.mp hd
 simp only[dkD,labs] at hl
 obtain⟨d,hd,hl⟩:=z0I hl
 obtain⟨kk,_,rfl⟩:=List.mem_map.mp hd
 cases kk<;>simp only[keyD,labs] at hl<;>cases hl
mutual
theorem z58(l:Nat): ∀(t:D) (v:V),RD G ρ H t v→l∈labs t→(z0e l t).isSome=true
 | .non,v,h,hl=>by simp only[labs] at hl;cases hl
 | .bool b,v,h,hl=>by simp only[labs] at hl;cases hl
 | .int b,v,h,hl=>by simp only[labs] at hl;cases hl
 | .str b,v,h,hl=>by simp only[labs] at hl;cases hl
 | .exc b,v,h,hl=>by simp only[labs] at hl;cases hl
 | .fn b,v,h,hl=>by simp only[labs] at hl;cases hl
 | .tup ds,v,h,hl=>by
  simp only[labs,RD,z0e] at h hl⊢
  obtain⟨a,xs,_,_,r⟩:=h
  exact z0j l ds xs r hl
 | .fdc ks vs,v,h,hl=>by
  simp only[labs,RD,z0e] at h hl⊢
  obtain⟨a,o,kvs,_,_,_,r⟩:=h
  exact z0j l vs _ r hl
 | .ro ds,v,h,hl=>by
  simp only[labs,RD,z0e] at h hl⊢
  obtain⟨a,xs,_,_,r⟩:=h
  exact z0j l ds xs r hl
 | .lst k ds,v,h,hl=>by
  simp only[labs,RD,z0e] at h hl⊢
  obtain⟨_,xs,s,r⟩:=h
  by_cases e:k=l
  ·rw[if_pos e];rfl
  ·rw[if_neg e]
   rcases List.mem_cons.mp hl with q|q
   ·exact absurd q.symm e
   ·exact z0j l ds xs r q
 | .dct k ks vs,v,h,hl=>by
  simp only[labs,RD,z0e] at h hl⊢
  obtain⟨_,⟨kvs,s,s2,r⟩|⟨kvs,s,s2,r⟩⟩:=h
  ·by_cases e:k=l
   ·rw[if_pos e];rfl
   ·rw[if_neg e]
    rcases List.mem_cons.mp hl with q|q
    ·exact absurd q.symm e
    ·rcases List.mem_append.mp q with q|q
     ·rw[s2] at q;exact(z57 q).elim
     ·exact z0j l vs _ r q
  ·by_cases e:k=l
   ·rw[if_pos e];rfl
   ·rw[if_neg e]
    rcases List.mem_cons.mp hl with q|q
    ·exact absurd q.symm e
    ·rcases List.mem_append.mp q with q|q
     ·rw[s2] at q;exact(z3P q).elim
     ·exact z0j l vs _ r q
 | .obj k c ns vs,v,h,hl=>by
  simp only[labs,RD,z0e] at h hl⊢
  obtain⟨_,C,dx,fs,_,s,_,r⟩:=h
  by_cases e:k=l
  ·rw[if_pos e];rfl
  ·rw[if_neg e]
   rcases List.mem_cons.mp hl with q|q
   ·exact absurd q.symm e
   ·exact z0j l vs _ r q
theorem z0j(l:Nat): ∀(t:List D) (v:List V),RDs G ρ H t v→l∈z00 t→(z0f l t).isSome=true
 |[],v,h,hl=>by simp only[z00] at hl;cases hl
 |d::ds,v,h,hl=>by
  simp only[z00,RDs,z0f] at h hl⊢
  obtain⟨x,r,_,h1,h2⟩:=h
  cases e:z0e l d with
  |some y=>rfl
  |none=>
   rcases List.mem_append.mp hl with q|q
   ·have:=z58 l d x h1 q
    rw[e] at this;cases this
   ·exact z0j l ds r h2 q
end
theorem z2T.stays{n n':Nat}{ts ts':List D}{vs:List V}(P:z2T G ρ n ts vs H ρ' n' ts' H')(r:RDs G ρ H ts vs):z0H H H':=by
 refine⟨fun b xs e=>(P.fr b _ e).2 fun l hl z=> ?_,fun b o u e=>(P.fr b _ e).2 fun l hl z=> ?_⟩
 ·obtain⟨o,q,q1,_⟩:=z0B ts vs r l hl
  rw[←z,e] at q;cases q;exact q1 _ rfl
 ·obtain⟨o,q,_,q1⟩:=z0B ts vs r l hl
  rw[←z,e] at q;cases q;exact q1 _ _ rfl
section
variable(k:KD G.K H){n:Nat}(inj: ∀i j,i<n→j<n→ρ i=ρ j→i=j){ts:List D}{vs:List V}(r:RDs G ρ H ts vs)(lb: ∀l∈z00 ts,l<n)
include k inj r lb
mutual
theorem z2E: ∀(t:D) (v:V),RD G ρ H t v→(∀l∈labs t,l<n)→rp (fun l=>z0f l ts) t=t
 | .non,v,h,hl=>rfl
 | .bool b,v,h,hl=>rfl
 | .int b,v,h,hl=>rfl
 | .str b,v,h,hl=>rfl
 | .exc b,v,h,hl=>rfl
 | .fn b,v,h,hl=>rfl
 | .tup ds,v,h,hl=>by
  simp only[labs,RD,rp] at h hl⊢
  obtain⟨a,xs,_,_,r1⟩:=h
  rw[z0o ds xs r1 hl]
 | .fdc ks vs,v,h,hl=>by
  simp only[labs,RD,rp] at h hl⊢
  obtain⟨a,o,kvs,_,_,_,r1⟩:=h
  rw[z0o vs _ r1 hl]
 | .ro ds,v,h,hl=>by
  simp only[labs,RD,rp] at h hl⊢
  obtain⟨a,xs,_,_,r1⟩:=h
  rw[z0o ds xs r1 hl]
 | .lst l ds,v,h,hl=>by
  simp only[rp]
  cases e:z0f l ts with
  |some d=>
   dsimp only
   obtain⟨q1,q2⟩:=z0k l ts vs d r e
   have h':=h
   simp only[RD] at h'
   obtain⟨rfl,_⟩:=h'
   exact RD.uniq k inj _ _ _ q1 h (fun j hj=>lb j (q2 j hj)) hl
  |none=>
   dsimp only
   simp only[labs,RD] at h hl
   obtain⟨_,xs,s,r1⟩:=h
   rw[z0o ds xs r1 fun j hj=>hl j (List.mem_cons_of_mem _ hj)]
 | .dct l ks vs',v,h,hl=>by
  simp only[rp]
  cases e:z0f l ts with
  |some d=>
   dsimp only
   obtain⟨q1,q2⟩:=z0k l ts vs d r e
   have h':=h
   simp only[RD] at h'
   obtain⟨rfl,_⟩:=h'
   exact RD.uniq k inj _ _ _ q1 h (fun j hj=>lb j (q2 j hj)) hl
  |none=>
   dsimp only
   simp only[labs,RD] at h hl
   obtain⟨_,⟨kvs,s,s2,r1⟩|⟨kvs,s,s2,r1⟩⟩:=h
   ·rw[z0o vs' _ r1 fun j hj=>hl j (List.mem_cons_of_mem _ (List.mem_append_right _ hj))]
   ·rw[z0o vs' _ r1 fun j hj=>hl j (List.mem_cons_of_mem _ (List.mem_append_right _ hj))]
 | .obj l c ns vs',v,h,hl=>by
  simp only[rp]
  cases e:z0f l ts with
  |some d=>
   dsimp only
   obtain⟨q1,q2⟩:=z0k l ts vs d r e
   have h':=h
   simp only[RD] at h'
   obtain⟨rfl,_⟩:=h'
   exact RD.uniq k inj _ _ _ q1 h (fun j hj=>lb j (q2 j hj)) hl
  |none=>
   dsimp only
   simp only[labs,RD] at h hl
   obtain⟨_,C,dx,fs,_,s,_,r1⟩:=h
   rw[z0o vs' _ r1 fun j hj=>hl j (List.mem_cons_of_mem _ hj)]
theorem z0o: ∀(t:List D) (v:List V),RDs G ρ H t v→(∀l∈z00 t,l<n)→rpL (fun l=>z0f l ts) t=t
 |[],v,h,hl=>rfl
 |d::ds,v,h,hl=>by
  simp only[z00,RDs,rpL] at h hl⊢
  obtain⟨x,q,_,h1,h2⟩:=h
  rw[z2E d x h1 fun j hj=>hl j (List.mem_append_left _ hj),z0o ds q h2 fun j hj=>hl j (List.mem_append_right _ hj)]
end
theorem z17: ∀(t:List (Option D)) (v:List (Option V)),Sl G ρ H t v→(∀l∈z06 t,l<n)→rpO (fun l=>z0f l ts) t=t
 |[],v,h,hl=>rfl
 |none::r',v,h,hl=>by
  simp only[z06,Sl,rpO] at h hl⊢
  obtain⟨o,q,_,h⟩:=h
  rw[z17 r' q h hl]
 |some d::ds,v,h,hl=>by
  simp only[z06,Sl,rpO] at h hl⊢
  obtain⟨x,q,_,h1,h2⟩:=h
  rw[z2E k inj r lb d x h1 fun j hj=>hl j (List.mem_append_left _ hj),z17 ds q h2 fun j hj=>hl j (List.mem_append_right _ hj)]
end
variable{F:Fy}{σv tv:List (Option V)}{s:Stt}{np:Nat}
theorem MR.call{ts ts':List D}{vs:List V}{n':Nat}(M:MR G F.toFx ρ H σv tv s)(r:RDs G ρ H ts vs)(lb:LB F.toFx ρ s.n (z00 ts))(P:z2T G ρ s.n ts vs H ρ' n' ts' H')
 (hc: ∀l∈z0v s,l∈z00 ts→(z0f l ts').isSome=true):MR G F.toFx ρ' H' σv tv {σ:=rpO (fun l=>z0f l ts') s.σ,tm:=rpO (fun l=>z0f l ts') s.tm,n:=n'}:=by
 have st:=P.stays r
 have step: ∀l∈z0v s,ρ' l=ρ l∧(match z0f l ts' with|some d=>RD G ρ' H' d (.ref (ρ l))|none=> ∀o,H (ρ l)=some o→H' (ρ l)=some o):=fun l hl=>by
  have ol:=P.old l (M.lab l hl)
  refine⟨ol, ?_⟩
  cases e:z0f l ts' with
  |some d=>
   have q:=(z0k l ts' vs d P.rd e).1
   rw[ol] at q;exact q
  |none=>
   intro o e1
   refine(P.fr _ _ e1).2 fun j hj z=> ?_
   have:l=j:=M.inj l j (M.lab l hl) (lb j hj).1 z
   subst this
   have:=hc l hl hj
   rw[e] at this;cases this
 have hn: ∀l,l<n'→l<s.n∨H (ρ' l)=none:=fun l hl=>by
  by_cases h:l<s.n
  ·exact .inl h
  ·exact .inr (P.new l (Nat.not_lt.mp h) hl)
 have hlab: ∀(xs:List (Option D)),(∀l∈z06 xs,l∈z0v s)→∀l∈z06 (rpO (fun l=>z0f l ts') xs),l<n'∧(l<s.n→l∈z0v s∨l∈z00 ts):=fun xs hx l h=>by
  rcases z1W l xs h with q|⟨k,d,q1,q2,q3⟩
  ·exact⟨Nat.lt_of_lt_of_le (M.lab l (hx l q)) P.le,fun _=> .inl (hx l q)⟩
  ·obtain⟨b1,b2⟩:=P.lb l ((z0k k ts' vs d P.rd q2).2 l q3)
   exact⟨b1,fun z=> .inr (b2 z)⟩
 have all: ∀l∈z0v {σ:=rpO (fun l=>z0f l ts') s.σ,tm:=rpO (fun l=>z0f l ts') s.tm,n:=n'},l<n'∧(l<s.n→l∈z0v s∨l∈z00 ts):=fun l h=>by
  rcases List.mem_append.mp h with h|h
  ·exact hlab s.σ (fun l q=>List.mem_append_left _ q) l h
  ·exact hlab s.tm (fun l q=>List.mem_append_right _ q) l h
 refine⟨Sl.rp st M.sl fun l hl=>step l (List.mem_append_left _ hl),Sl.rp st M.tm fun l hl=>step l (List.mem_append_right _ hl),P.inj,P.dom,fun l h=>(all l h).1,fun l h=> ?_,fun a o e=> ?_,P.kd,fun l hl z=> ?_,⟨Nat.le_trans M.bas.1 P.le,fun l hl=> ?_⟩⟩
 ·rcases hn l (all l h).1 with q|q
  ·rw[P.old l q]
   rcases(all l h).2 q with z|z
   ·exact M.own l z
   ·exact(lb l z).2
  ·exact .inr (M.fresh0 q)
 ·obtain⟨⟨o1,e1⟩,e2⟩:=M.frm a o e
  obtain⟨e3,e4⟩:=P.fr a o1 e1
  refine⟨e3,fun nA=> ?_⟩
  have e5:=e2 nA
  rw[e1] at e5;cases e5
  refine e4 fun l hl z=> ?_
  rcases(lb l hl).2 with q|q
  ·exact nA (z▸q)
  ·rw[←z,e] at q;cases q
 ·rcases hn l hl with q|q
  ·rw[P.old l q] at z;exact M.frb l q z
  ·obtain⟨⟨o,e⟩,_⟩:=F.zA _ z
   obtain⟨⟨o',e'⟩,_⟩:=M.frm _ o e
   rw[q] at e';cases e'
 ·rw[P.old l (Nat.lt_of_lt_of_le hl M.bas.1)];exact M.bas.2 l hl
theorem MR.call0{ts:List D}{vs:List V}{n':Nat}(M:MR G F.toFx ρ H σv tv s)(r:RDs G ρ H ts vs)(lb:LB F.toFx ρ s.n (z00 ts))(P:z2T G ρ s.n ts vs H ρ' n' ts H'):MR G F.toFx ρ' H' σv tv {s with n:=n'}:=by
 have hf: ∀l∈z00 ts,(z0f l ts).isSome=true:=fun l hl=>z0j l ts vs r hl
 have M2:=M.call r lb P fun l _ hl=>hf l hl
 rw[z17 M.kd M.inj r (fun l hl=>(lb l hl).1) s.σ σv M.sl fun l hl=>M.lab l (List.mem_append_left _ hl),z17 M.kd M.inj r (fun l hl=>(lb l hl).1) s.tm tv M.tm fun l hl=>M.lab l (List.mem_append_right _ hl)] at M2
 exact M2
open Classical in
noncomputable def z3o(r:RF)(ts:List D):M D:=fun s=>match r with
 | .ok t ts' n'=>if ts'=ts then .ok t {s with n:=n'} else
  if ∀l∈z0v s,l∈z00 ts→(z0f l ts').isSome=true then .ok t {σ:=rpO (fun l=>z0f l ts') s.σ,tm:=rpO (fun l=>z0f l ts') s.tm,n:=n'} else .no
 |_=> .no
noncomputable def z0b(f:FM)(ms:List (M D)):M D:=bd (mArgs ms) fun ts s=>z3o (f ts s.n) ts s
noncomputable def spM(G:Gx)(np:Nat)(f:FM):Sp:=fun vs H Q _=>vs.length=np∧∃ρ n ts,RDs G ρ H ts vs∧(∀i j,i<n→j<n→ρ i=ρ j→i=j)∧(∀l,l<n→∃o,H (ρ l)=some o)∧(∀l∈z00 ts,l<n)∧KD G.K H∧match f ts n with
 | .ok t ts' n'=> ∀ρ' v H',z2T G ρ n ts vs H ρ' n' ts' H'→RD G ρ' H' t v→(∀l∈labs t,l<n'∧(l<n→l∈z00 ts))→Q v H'
 |_=>False
theorem z63{ts:List D}{vs:List V}{f:FM}{Q:VK}{E:XK}(hl:vs.length=np)(M:MRL G F.toFx ρ H σv tv s ts vs)(W:wM G F σv tv (z3o (f ts s.n) ts s) Q):spM G np f vs H Q E:=by
 refine⟨hl,ρ,s.n,ts,M.rd,M.m.inj,M.m.dom,fun l h=>(M.lb l h).1,M.m.kd, ?_⟩
 cases e:f ts s.n with
 |no=>rw[e] at W;exact W
 |ex d ts' n'=>rw[e] at W;exact W
 |ok t ts' n'=>
  rw[e] at W
  intro ρ' v H' P rd lbt
  have own: ∀l∈labs t,F.A0 (ρ' l)∨F.H0 (ρ' l)=none:=fun l h=>by
   obtain⟨b1,b2⟩:=lbt l h
   by_cases hn:l<s.n
   ·rw[P.old l hn];exact(M.lb l (b2 hn)).2
   ·exact .inr (M.m.fresh0 (P.new l (Nat.not_lt.mp hn) b1))
  unfold z3o at W
  dsimp only at W
  split at W
  ·rename_i et
   subst et
   exact W.out (M.m.call0 M.rd M.lb P) rd fun l h=>⟨(lbt l h).1,own l h⟩
  ·split at W
   ·rename_i hc
    exact W.out (M.m.call M.rd M.lb P hc) rd fun l h=>⟨(lbt l h).1,own l h⟩
   ·exact False.elim W
theorem z3p: ∀(ms:List (M D)) (s:Stt) (ts:List D) (s':Stt),mArgs ms s= .ok ts s'→ts.length=ms.length:=by
 intro ms
 induction ms with
 |nil=>intro s ts s' e;simp only[mArgs,rt,Res.ok.injEq] at e;rw[←e.1];rfl
 |cons m ms ih=>
  intro s ts s' e
  simp only[mArgs,bd,psh] at e
  cases e1:m s with
  |ok t s1=>
   simp only[e1] at e
   cases e2:mArgs ms (s1.psh t) with
   |ok ys s2=>
    simp only[e2,pop] at e
    cases e3:s2.tm with
    |nil=>simp only[e3] at e;cases e
    |cons o r=>
     cases o with
     |none=>simp only[e3] at e;cases e
     |some t'=>
      simp only[e3,rt,Res.ok.injEq] at e
      rw[←e.1,List.length_cons,List.length_cons,ih _ _ _ e2]
   |ex d s2=>simp only[e2] at e;cases e
   |no=>simp only[e2] at e;cases e
  |ex d s1=>simp only[e1] at e;cases e
  |no=>simp only[e1] at e;cases e
theorem se_call{X:Cx}{e:Expr}{es:List Expr}{pos p:Pos}{CX:CXT}{k:Nat}{fa:Addr}{fd:FuncData}{ps:List Str}{x:Str}{E:XK}{f:FM}{ms:List (M D)}(hk:X.K=G.K)(Fn:FnOk X.prog X.w X.K X.mg X.base CX k fa fd ps (spM G ps.length f))(hr:Room k X.A)(hg:Gl X x)(hm:X.mg x=some (.ref fa))(hkp:PySem.W.keepIn X.K (.ref fa)=true)(hb:z1S X.K fd ps [])(hx:z2C CX X E)
 (ha:SA X G F (e::es) (mArgs ms)) (hln:ms.length=ps.length) (hdb:(x==("__debug__" :Str))=false:=by decide) (he:starEach (e::es) X.env=(false,eval e X.env)::starEach es X.env:=by rfl) (hpl:(backTo pos (starEach es X.env)).any (·.1)=false:=by rfl):
 SE X G F (.Call (.Name x p) (e::es) [] pos) (z0b f ms):=by
 refine PE.imp0 (z8p Fn hr hg hm hkp hb .nil hx ha hdb he hpl) fun σ H Q ⟨tv,hs,ρ,s,M,W⟩=>⟨tv,hs,ρ,s,M, ?_⟩
 unfold z0b bd at W
 cases e1:mArgs ms s with
 |ex d s1=>rw[e1] at W;exact W
 |no=>rw[e1] at W;exact W
 |ok ts s1=>
  rw[e1] at W
  intro ρ1 vs H1 M1
  rw[List.append_nil]
  exact z63 (by rw[←M1.rd.length,z3p ms s ts s1 e1,hln]) M1 W
noncomputable def runF(nl:Nat)(mb:MS):FM:=fun ts n=>match mb {σ:=ts.map some++List.replicate (nl -ts.length) none,tm:=ts.map some,n:=n} with
 | .nx s'=>match z04 s'.tm with|some ts'=> .ok .non ts' s'.n|none=> .no
 | .rt t s'=>match z04 s'.tm with|some ts'=> .ok t ts' s'.n|none=> .no
 | .ex d s'=>match z04 s'.tm with|some ts'=> .ex d ts' s'.n|none=> .no
 |_=> .no
noncomputable def z59(G:Gx)(ρ:Nat→Addr)(n:Nat)(ts:List D)(vs:List V)(H:Hp)(lb: ∀l∈z00 ts,l<n)(dom: ∀l,l<n→∃o,H (ρ l)=some o):Fy where
 A0:=fun a=> ∃l∈z00 ts,a=ρ l
 H0:=H
 Z:=fun a=>(∃o,H a=some o)∧∀l,l<n→a≠ρ l
 zA:=fun a z=>⟨z.1,fun⟨l,hl,e⟩=>z.2 l (lb l hl) e⟩
 aH:=fun a ⟨l,hl,e⟩=>e▸dom l (lb l hl)
 n0:=n
 ρ0:=ρ
 tv0:=vs.map some
 xw:=fun _ _=>False
theorem RDs.sl: ∀{ts:List D} {vs:List V},RDs G ρ H ts vs→Sl G ρ H (ts.map some) (vs.map some)∧z06 (ts.map some)=z00 ts
 |[],vs,h=>by simp only[RDs] at h;subst h;simp[Sl,z06,z00]
 |d::ds,vs,h=>by
  simp only[RDs] at h
  obtain⟨x,q,rfl,h1,h2⟩:=h
  obtain⟨q1,q2⟩:=RDs.sl h2
  refine⟨?_,by simp only[List.map_cons,z06,z00,q2]⟩
  simp only[List.map_cons,Sl]
  exact⟨_,_,rfl,h1,q1⟩
theorem z1y{ts ts':List D}{vs:List V}{n:Nat}{lb: ∀l∈z00 ts,l<n}{dom: ∀l,l<n→∃o,H (ρ l)=some o}(inj: ∀i j,i<n→j<n→ρ i=ρ j→i=j)(M:MR G (z59 G ρ n ts vs H lb dom).toFx ρ' H' σv (vs.map some) s)(e:z04 s.tm=some ts'):
 z2T G ρ n ts vs H ρ' s.n ts' H'∧∀l,l<s.n→((z59 G ρ n ts vs H lb dom).A0 (ρ' l)∨H (ρ' l)=none)→l<n→l∈z00 ts:=by
 have own: ∀l,l<s.n→((z59 G ρ n ts vs H lb dom).A0 (ρ' l)∨H (ρ' l)=none)→l<n→l∈z00 ts:=fun l hl q hn=>by
  have ol:=M.bas.2 l hn
  have ol:ρ' l=ρ l:=ol
  rcases q with⟨j,hj,q⟩|q
  ·rw[ol] at q
   rw[inj l j hn (lb j hj) q];exact hj
  ·rw[ol] at q
   obtain⟨o,z⟩:=dom l hn
   rw[z] at q;cases q
 obtain⟨r1,r2⟩:=Sl.all M.tm e
 refine⟨⟨M.bas.2,M.bas.1,M.inj,M.dom,r1,fun l hl=> ?_,fun a o e1=> ?_,fun l h1 h2=> ?_,M.kd⟩,own⟩
 ·rw[r2] at hl
  have m:l∈z0v s:=List.mem_append_right _ hl
  exact⟨M.lab l m,own l (M.lab l m) (M.own l m)⟩
 ·obtain⟨q1,q2⟩:=M.frm a o e1
  exact⟨q1,fun z=>q2 fun⟨l,hl,e⟩=>z l hl e⟩
 ·cases q:H (ρ' l) with
  |none=>rfl
  |some o=>
   refine absurd ⟨⟨o,q⟩,fun j hj e=> ?_⟩ (M.frb l h2)
   have oj:ρ' j=ρ j:=M.bas.2 j hj
   have:=M.inj l j h2 (Nat.lt_of_lt_of_le hj M.bas.1) (e.trans oj.symm)
   omega
theorem fn_M{P:Program}{w:World}{K:PySem.W.Frag}{mg:Str→Option Value}{base:Heap}{x qual:Str}{st:Stmt}{fa:Addr}{fd:FuncData}{N ps:List Str}{k:Nat}{mb:MS}(Fn:Fun K x qual st fa fd)(S:z0w N ps (z01 st))(hG:G.K=K)
 (hb: ∀(cdv:Value) (A:Around) (outer:List Env) (s:Shared) (H:Hp) (E:XK) (F:Fy),Room k (A.deeper (envOfC qual (z01 st) s.heap.objs.size fa cdv))→SSs (cxOf CX0 P w K mg base N qual (z01 st) fa cdv A outer s H E).nox G F (z0m st) mb):
 FnOk P w K mg base CX0 (k+1) fa fd ps (spM G ps.length (runF N.length mb)):=by
 refine Fn.ok S (fun vs H Q E h=>h.1) fun cdv A outer s H vs Q E hr h=> ?_
 obtain⟨hl,ρ,n,ts,r,inj,dom,lb,kd,W⟩:=h
 refine⟨_,hb cdv A outer s H E (z59 G ρ n ts vs H lb dom) hr,vs.map some,List.suffix_refl _,ρ,{σ:=ts.map some++List.replicate (N.length -ts.length) none,tm:=ts.map some,n:=n}, ?_, ?_⟩
 ·obtain⟨r1,r2⟩:=RDs.sl r
  have hlen:=r.length
  have sub: ∀l∈z0v {σ:=ts.map some++List.replicate (N.length -ts.length) none,tm:=ts.map some,n:=n},l∈z00 ts:=fun l h=>by
   rcases List.mem_append.mp h with h|h
   ·have h:l∈z06 (ts.map some++List.replicate (N.length -ts.length) none):=h
    rw[z08] at h
    rcases List.mem_append.mp h with h|h
    ·rw[←r2];exact h
    ·exact absurd h (z1x _)
   ·rw[←r2];exact h
  refine⟨?_,r1,inj,dom,fun l h=>lb l (sub l h),fun l h=> .inl ⟨l,sub l h,rfl⟩,fun a o e=>⟨⟨o,e⟩,fun _=>e⟩,kd,fun l hl z=>z.2 l hl rfl,⟨Nat.le_refl _,fun l _=>rfl⟩⟩
  show Sl G ρ H _ (vs.map some++List.replicate (N.length -vs.length) none)
  rw[←hlen]
  exact r1.append (Sl.none_map _)
 ·unfold runF at W
  cases e:mb {σ:=ts.map some++List.replicate (N.length -ts.length) none,tm:=ts.map some,n:=n} with
  |nx s'=>
   simp only[e] at W
   cases ea:z04 s'.tm with
   |none=>simp only[ea] at W
   |some ts'=>
    simp only[ea] at W
    intro ρ' σv' H' M
    obtain⟨P,_⟩:=z1y inj M ea
    exact W ρ' .non H' P (by simp only[RD]) fun l h=>by simp[labs] at h
  |rt t s'=>
   simp only[e] at W
   cases ea:z04 s'.tm with
   |none=>simp only[ea] at W
   |some ts'=>
    simp only[ea] at W
    intro ρ' σv' v H' M
    obtain⟨P,own⟩:=z1y inj M.m ea
    exact W ρ' v H' P M.rd1 fun l h=>⟨(M.lb1 l h).1,own l (M.lb1 l h).1 (M.lb1 l h).2⟩
  |bk s'=>simp only[e] at W
  |ct s'=>simp only[e] at W
  |ex d s'=>
   simp only[e] at W
   cases ea:z04 s'.tm with
   |none=>simp only[ea] at W
   |some ts'=>simp only[ea] at W
  |no=>simp only[e] at W
end
end Mi
namespace Mi
open PySem L2 PySem.Spec PyProof.Rows
mutual
noncomputable def sz:D→Nat
 | .tup ds=>szL ds+1
 | .ro ds=>szL ds+1
 | .fdc _ vs=>szL vs+1
 | .lst _ ds=>szL ds+1
 | .dct _ _ vs=>szL vs+1
 | .obj _ _ _ vs=>szL vs+1
 | .non=>1| .bool _=>1| .int _=>1| .str _=>1| .exc _=>1| .fn _=>1
noncomputable def szL:List D→Nat
 |[]=>0
 |d::ds=>sz d+szL ds
end
mutual
theorem z7w(l:Nat): ∀(t d:D),z0e l t=some d→sz d≤sz t
 | .non,d,e=>by simp only[z0e] at e;cases e
 | .bool b,d,e=>by simp only[z0e] at e;cases e
 | .int b,d,e=>by simp only[z0e] at e;cases e
 | .str b,d,e=>by simp only[z0e] at e;cases e
 | .exc b,d,e=>by simp only[z0e] at e;cases e
 | .fn b,d,e=>by simp only[z0e] at e;cases e
 | .tup ds,d,e=>by simp only[z0e,sz] at e⊢;have:=z0S l ds d e;omega
 | .ro ds,d,e=>by simp only[z0e,sz] at e⊢;have:=z0S l ds d e;omega
 | .fdc ks vs,d,e=>by simp only[z0e,sz] at e⊢;have:=z0S l vs d e;omega
 | .lst k ds,d,e=>by
  simp only[z0e] at e
  by_cases h:k=l
  ·rw[if_pos h] at e;cases e;exact Nat.le_refl _
  ·rw[if_neg h] at e;simp only[sz];have:=z0S l ds d e;omega
 | .dct k ks vs,d,e=>by
  simp only[z0e] at e
  by_cases h:k=l
  ·rw[if_pos h] at e;cases e;exact Nat.le_refl _
  ·rw[if_neg h] at e;simp only[sz];have:=z0S l vs d e;omega
 | .obj k c ns vs,d,e=>by
  simp only[z0e] at e
  by_cases h:k=l
  ·rw[if_pos h] at e;cases e;exact Nat.le_refl _
  ·rw[if_neg h] at e;simp only[sz];have:=z0S l vs d e;omega
theorem z0S(l:Nat): ∀(t:List D) (d:D),z0f l t=some d→sz d≤szL t
 |[],d,e=>by simp only[z0f] at e;cases e
 |t::ts,d,e=>by
  simp only[z0f] at e
  simp only[szL]
  cases e1:z0e l t with
  |some y=>rw[e1] at e;cases e;have:=z7w l t _ e1;omega
  |none=>rw[e1] at e;have:=z0S l ts d e;omega
end
section
variable{G:Gx}{F:Fy}{ρ:Nat→Addr}{H:Hp}{σv tv:List (Option V)}{s:Stt}{t:D}{ts ds es:List D}{v:V}{vs xs ys:List V}{l:Nat}{Q:VK}
theorem z64(M:MR G F.toFx ρ H σv tv s)(h:RD G ρ H (.lst l ds) v)(lb: ∀j∈labs (.lst l ds),j<s.n):l∉z00 ds:=fun hl=>by
 have h0:=h
 simp only[RD] at h0
 obtain⟨rfl,xs,q,r⟩:=h0
 have:=z0j l ds xs r hl
 cases e:z0f l ds with
 |none=>rw[e] at this;cases this
 |some d=>
  obtain⟨q1,q2⟩:=z0k l ds xs d r e
  have e2:=RD.uniq M.kd M.inj _ _ _ q1 h (fun j hj=>lb j (by simp only[labs];exact List.mem_cons_of_mem _ (q2 j hj))) lb
  have e3:=z0S l ds d e
  rw[e2] at e3
  simp only[sz] at e3
  omega
theorem MR.put2{o:HO}{d:D}(M:MR G F.toFx ρ H σv tv s)(ln:l<s.n)(ow:F.A0 (ρ l)∨F.H0 (ρ l)=none)(ts:z0H H (upd H (ρ l) o))(k:KD G.K (upd H (ρ l) o))(hd:RD G ρ (upd H (ρ l) o) d (.ref (ρ l)))(hb:LB F.toFx ρ s.n (labs d)):
 MR G F.toFx ρ (upd H (ρ l) o) σv tv (s.put l d):=by
 have step: ∀k,k∈z0v s→ρ k=ρ k∧(match (if k=l then some d else none:Option D) with|some d=>RD G ρ (upd H (ρ l) o) d (.ref (ρ k))|none=> ∀o',H (ρ k)=some o'→upd H (ρ l) o (ρ k)=some o'):=fun k hk=>by
  refine⟨rfl, ?_⟩
  by_cases e:k=l
  ·rw[if_pos e];subst e;exact hd
  ·rw[if_neg e]
   intro o' q
   rw[z05 (fun z=>e (M.inj k l (M.lab k hk) ln z))]
   exact q
 have sub: ∀(xs:List (Option D)) (j:Nat),j∈z06 (rpO (fun k=>if k=l then some d else none) xs)→(∀i∈z06 xs,i∈z0v s)→j<s.n∧(F.A0 (ρ j)∨F.H0 (ρ j)=none):=fun xs j h hx=>by
  rcases z1W j xs h with q|⟨k,d',q1,q2,q3⟩
  ·exact⟨M.lab j (hx j q),M.own j (hx j q)⟩
  ·by_cases e:k=l
   ·rw[if_pos e] at q2;cases q2;exact hb j q3
   ·rw[if_neg e] at q2;cases q2
 have all: ∀j∈z0v (s.put l d),j<s.n∧(F.A0 (ρ j)∨F.H0 (ρ j)=none):=fun j h=>by
  rcases List.mem_append.mp h with h|h
  ·exact sub s.σ j h fun i hi=>List.mem_append_left _ hi
  ·exact sub s.tm j h fun i hi=>List.mem_append_right _ hi
 refine⟨Sl.rp ts M.sl fun k hk=>step k (List.mem_append_left _ hk),Sl.rp ts M.tm fun k hk=>step k (List.mem_append_right _ hk),M.inj,fun k hk=> ?_,fun j h=>(all j h).1,fun j h=>(all j h).2,fun a o' e=> ?_,k,M.frb,M.bas⟩
 ·by_cases e:ρ k=ρ l
  ·rw[e];exact⟨o,z09⟩
  ·rw[z05 e];exact M.dom k hk
 ·obtain⟨⟨o1,e1⟩,e2⟩:=M.frm a o' e
  by_cases ea:a=ρ l
  ·subst ea
   refine⟨⟨o,z09⟩,fun n=> ?_⟩
   rcases ow with q|q
   ·exact absurd q n
   ·rw[e] at q;cases q
  ·rw[z05 ea]
   exact⟨⟨o1,e1⟩,e2⟩
theorem z84{o o':HO}{a:Addr}(k:KD G.K H)(e:H a=some o):KD G.K (upd H a o'):=fun b ob q=>by
 by_cases h:b=a
 ·subst h;rw[k _ _ q] at e;cases e
 ·rw[z05 h];exact k _ _ q
theorem z3q{o':HO}{a:Addr}{xs:List V}(e:H a=some (.lst xs)):z0H H (upd H a o'):=
 ⟨fun b ys q=>by rw[z05 (z3J q e (by intro z;cases z))];exact q,fun b o u q=>by rw[z05 (z3J q e (by intro z;cases z))];exact q⟩
theorem RDs.upd{o:HO}{a:Addr}(st:z0H H (upd H (ρ l) o))(inj: ∀i j,i<s.n→j<s.n→ρ i=ρ j→i=j)(ln:l<s.n)(r:RDs G ρ H ds xs)(lb: ∀j∈z00 ds,j<s.n∧j≠l):RDs G ρ (L2.upd H (ρ l) o) ds xs:=
 RDs.stay st ds xs r fun j hj=>⟨rfl,fun o' e=>by rw[z05 (fun z=>(lb j hj).2 (inj j l (lb j hj).1 ln z))];exact e⟩
theorem MR.putL(M:MR G F.toFx ρ H σv tv s)(hl:H (ρ l)=some (.lst xs))(ln:l<s.n)(ow:F.A0 (ρ l)∨F.H0 (ρ l)=none)(r:RDs G ρ H es ys)(lb:LB F.toFx ρ s.n (z00 es))(ne:l∉z00 es):
 MR G F.toFx ρ (upd H (ρ l) (.lst ys)) σv tv (s.put l (.lst l es)):=by
 refine M.put2 ln ow (z3q hl) (z84 M.kd hl) ?_ fun j hj=> ?_
 ·simp only[RD]
  exact⟨trivial,ys,z09,RDs.upd (a:=0) (z3q hl) M.inj ln r fun j hj=>⟨(lb j hj).1,fun z=>ne (z▸hj)⟩⟩
 ·simp only[labs] at hj
  rcases List.mem_cons.mp hj with q|q
  ·rw[q];exact⟨ln,ow⟩
  ·exact lb j q
end
noncomputable def appD:D→List D→M D
 | .lst l ds,[y]=>fun s=>if ds.length<sizeLine∧l∉labs y then .ok .non (s.put l (.lst l (ds++[y]))) else .no
 |_,_=>fl
noncomputable def isL(x:D):M Unit:=fun s=>match lstD x with|some _=> .ok () s|none=> .no
noncomputable def z1F(mo:M D)(ms:List (M D))(g:D→List D→M D):M D:=bd mo fun x=>bd (isL x) fun _=>bd (psh x) fun _=>bd (mArgs ms) fun ys=>bd pop fun x'=>g x' ys
section
variable{X:Cx}{G:Gx}{F:Fy}{e o:Expr}{es:List Expr}{apos cpos:Pos}
noncomputable def MtOK(G:Gx)(F:Fy)(r:V→List V→Hp→VK→Prop)(g:D→List D→M D):Prop:= ∀ρ s t ts v vs H σv tv Q,MRL G F.toFx ρ H σv tv s (t::ts) (v::vs)→wM G F σv tv (g t ts s) Q→r v vs H (fun w H'=>KD G.K H'→Q w H')
theorem MRL.hd{ρ:Nat→Addr}{H:Hp}{σv tv:List (Option V)}{s:Stt}{t:D}{ts:List D}{v:V}{vs:List V}(M:MRL G F.toFx ρ H σv tv s (t::ts) (v::vs)):RD G ρ H t v∧RDs G ρ H ts vs∧LB F.toFx ρ s.n (labs t)∧LB F.toFx ρ s.n (z00 ts):=by
 have h:=M.rd
 simp only[RDs] at h
 obtain⟨_,_,e,h1,h2⟩:=h
 cases e
 exact⟨h1,h2,fun l h=>M.lb l (by simp only[z00];exact List.mem_append_left _ h),fun l h=>M.lb l (by simp only[z00];exact List.mem_append_right _ h)⟩
theorem zaS:MtOK G F z5D appD:=by
 intro ρ s t ts v vs H σv tv Q M W
 obtain⟨h1,h2,b1,b2⟩:=M.hd
 unfold appD at W
 split at W
 ·rename_i l ds y
  split at W
  ·rename_i hc
   have h1':=h1
   simp only[RD] at h1
   obtain⟨rfl,xs,hx,r⟩:=h1
   simp only[RDs] at h2
   obtain⟨u,q,rfl,h2,rfl⟩:=h2
   have ns:=z64 M.m h1' fun j hj=>(b1 j hj).1
   have bl:=b1 l (by simp only[labs];exact List.mem_cons_self ..)
   refine⟨_,xs,u,rfl,rfl,hx,by rw[←r.length];exact hc.1,fun _=>W.out (M.m.putL hx bl.1 bl.2 (r.append (RDs.one h2)) ?_ ?_) (by simp only[RD]) fun l h=>by simp[labs] at h⟩
   ·intro j hj
    rw[z0n] at hj
    rcases List.mem_append.mp hj with q|q
    ·exact b1 j (by simp only[labs];exact List.mem_cons_of_mem _ q)
    ·exact b2 j q
   ·intro hj
    rw[z0n] at hj
    rcases List.mem_append.mp hj with q|q
    ·exact ns q
    ·simp only[z00,List.append_nil] at q;exact hc.2 q
  ·exact False.elim W
 ·exact wfl W
theorem z7x{T:String}{mo:M D}{ms:List (M D)}{g:D→List D→M D}{r:V→List V→Hp→VK→Prop}{σ:L2.St}{H:Hp}{Q:VK}(hT:T= "list")(hg:MtOK G F r g)(h:tM G F (z1F mo ms g) σ H Q):
 tM G F mo σ H fun x H1=>tyV G.K T x H1∧tML G F (mArgs ms) σ H1 fun xs H2=>r x xs H2 fun w H'=>KD G.K H'→Q w H':=by
 obtain⟨tv,h⟩:=h
 have hs:=h.1
 refine⟨tv,(z3m h).mono fun v H1 ⟨ρ1,s1,t,M1,W⟩=> ?_⟩
 simp only[bd,isL] at W
 cases e1:lstD t with
 |none=>simp only[e1] at W;exact False.elim W
 |some ds=>
  simp only[e1,psh] at W
  obtain⟨a,xs,rfl,sq,_⟩:=M1.rd1.lstq e1
  refine⟨.inl ⟨hT,xs,sq⟩,some (.ref a)::tv,suf1 hs,ρ1,s1.psh t,M1.push, ?_⟩
  cases e2:mArgs ms (s1.psh t) with
  |ex d s2=>simp only[e2] at W;exact W
  |no=>simp only[e2] at W;exact W
  |ok ys s2=>
   simp only[e2,pop] at W
   intro ρ2 us H2 M2
   cases e3:s2.tm with
   |nil=>simp only[e3] at W;exact False.elim W
   |cons o r=>
    cases o with
    |none=>simp only[e3] at W;exact False.elim W
    |some t'=>
     simp only[e3] at W
     exact hg _ _ _ _ _ _ _ _ _ _ (M2.down e3) W
theorem z8N{name:Str}{id:String}{r:V→List V→Hp→VK→Prop}{mo:M D}{ms:List (M D)}{g:D→List D→M D}(hk:X.K=G.K)(slot:Slot "list" name id)(hty:typeOf (.builtin id)=pure (.type "method_descriptor"))(hm:MtR X id r)(hg:MtOK G F r g)(ho:SE X G F o mo)(ha:SA X G F (e::es) (mArgs ms))
 (hbase:attributeBase o name X.env (eval o X.env)=eval o X.env:=by rfl)
 (hfew:((backTo cpos (starEach (e::es) X.env)).all (fun x=> !x.1)&&(backToKw cpos (keywordEach [] X.env)).all (fun x=>x.1.isSome)
  &&decide ((e::es).length+([]:List Keyword).length+(if([]:List Keyword).isEmpty then 0 else 1)<30))=true:=by rfl)
 (hline:(apos.endLine==cpos.line)=true:=by rfl) (hs:starEach (e::es) X.env=(false,eval e X.env)::starEach es X.env:=by rfl) (hplain:(backTo cpos (starEach es X.env)).any (·.1)=false:=by rfl):SE X G F (.Call (.Attribute o name apos) (e::es) [] cpos) (z1F mo ms g):=by
 refine PE.imp hk (zbU PySem.F.plainAttrs_list slot hty hm ho ha hbase hfew hline hs hplain) fun σ H Q h=> ?_
 rw[hk]
 exact z7x rfl hg h
noncomputable def setD(o i v:D):MS:=fun s=>match o,i with
 | .lst l ds, .int k=>match ixN ds.length k with
  |some j=>if l∉labs v then .nx (s.put l (.lst l (ds.set j v))) else .no
  |none=> .no
 |_,_=> .no
noncomputable def mTri(me mo mi:M D)(g:D→D→D→MS):MS:=lift me fun v=>lift (psh v) fun _=>lift mo fun o=>lift (psh o) fun _=>lift mi fun i=>lift pop fun o'=>lift pop fun v'=>g o' i v'
theorem z7y{mo mi:M D}{g:D→D→D→MS}{tv:List (Option V)}{Dd:Ends}{σ:L2.St}{H1:Hp}{ρ1:Nat→Addr}{s1:Stt}{t:D}{v:V}(hs:F.tv0<:+tv)(M1:MRL G F.toFx ρ1 H1 σ tv s1 [t] [v])
 (W:wS G F tv ((lift (psh t) fun _=>lift mo fun o=>lift (psh o) fun _=>lift mi fun i=>lift pop fun o'=>lift pop fun v'=>g o' i v') s1) Dd):
 tM G F mo σ H1 fun o H2=>tM G F mi σ H2 fun i H3=> ∃ρ s t1 t2 t3,MRL G F.toFx ρ H3 σ tv s [t1,t2,t3] [v,o,i]∧wS G F tv (g t2 t3 t1 s) Dd:=by
 refine⟨some v::tv,suf1 hs,ρ1,s1.psh t,M1.push, ?_⟩
 simp only[lift,psh] at W
 cases e1:mo (s1.psh t) with
 |ex d s2=>simp only[e1] at W;exact W
 |no=>simp only[e1] at W;exact W
 |ok o s2=>
  simp only[e1] at W
  intro ρ2 u H2 M2
  refine⟨some u::some v::tv,suf1 (suf1 hs),ρ2,s2.psh o,M2.push, ?_⟩
  cases e2:mi (s2.psh o) with
  |ex d s3=>simp only[e2] at W;exact W
  |no=>simp only[e2] at W;exact W
  |ok i s3=>
   simp only[e2,pop] at W
   intro ρ3 w H3 M3
   cases e3:s3.tm with
   |nil=>simp only[e3] at W;exact False.elim W
   |cons o3 r3=>
    cases o3 with
    |none=>simp only[e3] at W;exact False.elim W
    |some x3=>
     simp only[e3] at W
     cases r3 with
     |nil=>exact False.elim W
     |cons o4 r4=>
      cases o4 with
      |none=>exact False.elim W
      |some x4=>
       have M4:=M3.down e3
       have M5:=M4.down (s':={s3 with tm:=some x4::r4}) rfl
       exact⟨ρ3,_,x4,x3,i,M5,W⟩
theorem z65{me mo mi:M D}{g:D→D→D→MS}{tv:List (Option V)}{Dd:Ends}{σ:L2.St}{H:Hp}(h:tSv G F (mTri me mo mi g) tv Dd σ H):
 tM G F me σ H fun v H1=>tM G F mo σ H1 fun o H2=>tM G F mi σ H2 fun i H3=> ∃ρ s t1 t2 t3,MRL G F.toFx ρ H3 σ tv s [t1,t2,t3] [v,o,i]∧wS G F tv (g t2 t3 t1 s) Dd:=
 ⟨tv,(z1Y h).mono fun v H1 ⟨ρ1,s1,t,M1,W⟩=>z7y h.1 M1 W⟩
theorem zaT{ρ:Nat→Addr}{s:Stt}{t1 t2 t3:D}{v o i:V}{H:Hp}{σv tv:List (Option V)}{Dd:Ends}(M:MRL G F.toFx ρ H σv tv s [t1,t2,t3] [v,o,i])(W:wS G F tv (setD t2 t3 t1 s) Dd):z7g o i v H fun H'=>Dd.nx σv H':=by
 have h:=M.rd
 simp only[RDs] at h
 obtain⟨_,_,e,h1,_,_,e2,h2,_,_,e3,h3,_⟩:=h
 cases e;cases e2;cases e3
 have b1:LB F.toFx ρ s.n (labs t1):=fun l h=>M.lb l (by simp only[z00];exact List.mem_append_left _ h)
 have b2:LB F.toFx ρ s.n (labs t2):=fun l h=>M.lb l (by simp only[z00];exact List.mem_append_right _ (List.mem_append_left _ h))
 cases t2 with
 |lst l ds=>
  cases t3 with
  |int k=>
   simp only[setD] at W
   cases ek:ixN ds.length k with
   |none=>simp only[ek] at W;exact False.elim W
   |some j=>
    simp only[ek] at W
    by_cases hc:l∉labs t1
    ·rw[if_pos hc] at W
     have h2':=h2
     simp only[RD] at h2 h3
     obtain⟨rfl,xs,hx,r⟩:=h2
     subst h3
     have ns:=z64 M.m h2' fun j hj=>(b2 j hj).1
     have bl:=b2 l (by simp only[labs];exact List.mem_cons_self ..)
     have mm: ∀q,q∈z00 (ds.set j t1)→q∈z00 ds∨q∈labs t1:=fun q hq=>by
      obtain⟨d,h1,h2⟩:=z0I hq
      rcases List.mem_or_eq_of_mem_set h1 with z|z
      ·exact .inl (labsL_mem z q h2)
      ·subst z;exact .inr h2
     refine⟨_,xs,k,j,rfl,rfl,hx,by rw[←r.length];exact ek,W ρ σv _ (M.m.putL hx bl.1 bl.2 (r.set j h1) (fun q hq=> ?_) fun hq=> ?_)⟩
     ·rcases mm q hq with z|z
      ·exact b2 q (by simp only[labs];exact List.mem_cons_of_mem _ z)
      ·exact b1 q z
     ·rcases mm l hq with z|z
      ·exact ns z
      ·exact hc z
    ·rw[if_neg hc] at W;exact False.elim W
  |_=>exact False.elim W
 |_=>exact False.elim W
theorem ss_setI{ob ix:Expr}{pos tpos:Pos}{mo mi me:M D}(he:SE X G F e me)(ho:SE X G F ob mo)(hi:SE X G F ix mi)(hg: ∀{to ti:TE},PE X ob to→PE X ix ti→PG X (.Subscript ob ix tpos) (gSub to ti z7g))(hs:swapsWithSole [.Subscript ob ix tpos] e pos.line X.env=pure false:=by rfl)(hw:swappedStores [.Subscript ob ix tpos] e X.env=pure none:=by rfl)
 (h1:(assignEach [.Subscript ob ix tpos] X.env).map (·.2)=[assign (.Subscript ob ix tpos) X.env]:=by rfl):SS X G F (.Assign [.Subscript ob ix tpos] e pos) (mTri me mo mi setD):=by
 refine PS.imp0 (za8 he (hg ho hi) hs hw h1) fun Dd σ H ⟨tv,h⟩=> ?_
 exact(z65 h).mono fun v H1 h1=>h1.mono fun o H2 h2=>h2.mono fun i H3 ⟨ρ,s,t1,t2,t3,M,W⟩=>zaT M W
end
end Mi
namespace Mi
open PySem L2
section
variable{X:Cx}{G:Gx}{F:Fy}{e a b c:Expr}{pos:Pos}{ma mb mc m:M D}
theorem se_add(hk:X.K=G.K)(ha:SE X G F a ma)(hb:SE X G F b mb):SE X G F (.BinOp a .Add b pos) (mBin ma mb addD):=
 z52 hk (r:=fun x y H Q=>rI0 (fun i j=> .int (i+j)) x y H Q∨z8z G.K x y H Q∨rCat x y H Q∨∃i j,x= .str i∧y= .str j∧i.length+j.length≤sizeLine∧Q (.str (i++j)) H) (hk▸OpR.or zaa (OpR.or z8A (OpR.or zaq z4T))) zay ha hb
theorem se_sub(hk:X.K=G.K)(ha:SE X G F a ma)(hb:SE X G F b mb):SE X G F (.BinOp a .Sub b pos) (mBin ma mb subD):=z52 hk zab zaz ha hb
theorem se_mul(hk:X.K=G.K)(ha:SE X G F a ma)(hb:SE X G F b mb):SE X G F (.BinOp a .Mult b pos) (mBin ma mb mulD):=z52 hk (r:=fun x y H Q=>rI CMul (fun i j=> .int (i*j)) x y H Q∨(rRep x y H Q∨z8B G.K x y H Q)) (OpR.or zac (OpR.or zar (hk▸z8C))) zaE ha hb
theorem se_fdiv(hk:X.K=G.K)(ha:SE X G F a ma)(hb:SE X G F b mb):SE X G F (.BinOp a .FloorDiv b pos) (mBin ma mb z1u):=z52 hk z8m z8G ha hb
theorem se_mod(hk:X.K=G.K)(ha:SE X G F a ma)(hb:SE X G F b mb):SE X G F (.BinOp a .Mod b pos) (mBin ma mb modD):=z52 hk zad zaA ha hb
theorem se_pow(hk:X.K=G.K)(ha:SE X G F a ma)(hb:SE X G F b mb):SE X G F (.BinOp a .Pow b pos) (mBin ma mb powD):=z52 hk zae zaB ha hb
theorem se_neg(hk:X.K=G.K)(ha:SE X G F a ma):SE X G F (.UnaryOp .USub a pos) (bd ma negD):=zc0 hk zaf zaD ha
structure Cm(X:Cx)(G:Gx)(F:Fy)(op:CmpOp)(g:D→D→M D):Prop where
 h: ∃r,OpR X (compareOp op) r∧z2d G F r g
theorem z7z:Cm X G F .Lt ltD:=⟨_,zbM,zc2⟩
theorem z5a:Cm X G F .LtE leD:=⟨_,zbN,zc3⟩
theorem zcb:Cm X G F .Gt gtD:=⟨_,zbO,zc4⟩
theorem z66(hk:X.K=G.K)(hu:X.A.units+64<cLine):Cm X G F .NotEq neD:=⟨_,hk▸zav hu,zc5⟩
theorem sb_cmp{op:CmpOp}{g:D→D→M D}(hc:Cm X G F op g)(ha:SE X G F a ma)(hb:SE X G F b mb)(hm:behindInMarks op b=false):SB X G F (.Compare a [op] [b] pos) (mBoo (mBin ma mb g)):=by
 obtain⟨r,h1,h2⟩:=hc.h
 exact z8I h1 h2 ha hb hm
theorem sb_cmp2{op op':CmpOp}{g g':D→D→M D}(hc:Cm X G F op g)(hc':Cm X G F op' g')(ha:SE X G F a ma)(hb:SE X G F b mb)(hcc:SE X G F c mc)(hm:lastMarks [op,op'] [b,c]=false:=by with_unfolding_all rfl):SB X G F (.Compare a [op,op'] [b,c] pos) (mBoo (z0h ma mb mc g g')):=by
 obtain⟨r,h1,h2⟩:=hc.h
 obtain⟨r',h1',h2'⟩:=hc'.h
 exact z7q h1 h2 h1' h2' ha hb hcc hm
theorem se_idx(hk:X.K=G.K)(ha:SE X G F a ma)(hb:SE X G F b mb)(hs:z2L b):SE X G F (.Subscript a b pos) (mBin ma mb ixD):=zc1 hk (hk▸IxR.or z8t zao) zc6 ha hb hs
structure Cb(X:Cx)(G:Gx)(F:Fy)(f:Value)(g:List D→M D):Prop where
 h: ∃r,CallR X f r∧z0R G F r g
theorem z1z(hk:X.K=G.K):Cb X G F (.builtin "len") lenD:=⟨_,hk▸z3g,zaI⟩
theorem zaU:Cb X G F (.builtin "abs") absD:=⟨_,z7d,zaJ⟩
theorem z67(hc:X.calm=true):Cb X G F (.builtin "min") minD:=⟨_,z5x hc,zaK⟩
theorem zaV(hc:X.calm=true):Cb X G F (.builtin "max") maxD:=⟨_,z5w hc,zaL⟩
theorem z85(hk:X.K=G.K)(hd:X.A.handled=none):Cb X G F (.builtin "all") allD:=⟨_,hk▸z5I hd,zaM⟩
theorem z7A(hk:X.K=G.K):Cb X G F (.type "tuple") tupF:=⟨_,hk▸z5J,z8K⟩
theorem z68(hk:X.K=G.K):Cb X G F (.type "list") z2S:=⟨_,hk▸z3h,z7r⟩
theorem se_cb{x:Str}{p:Pos}{es:List Expr}{ms:List (M D)}{g:List D→M D}{id:String}(hk:X.K=G.K)(hc:Cb X G F (.builtin id) g)(hgl:Gl X x)(hm:X.mg x=none)(hv:bootBuiltins x=some (.builtin id))(ha:SA X G F (e::es) (mArgs ms))(hn:x≠ "__name__" :=by decide)(hdb:(x==("__debug__" :Str))=false:=by decide)
 (he:starEach (e::es) X.env=(false,eval e X.env)::starEach es X.env:=by rfl) (hpl:(backTo pos (starEach es X.env)).any (·.1)=false:=by rfl):SE X G F (.Call (.Name x p) (e::es) [] pos) (mCB ms g):=by
 obtain⟨r,h1,h2⟩:=hc.h
 exact z7o hk h1 h2 hgl hm hv ha hn hdb he hpl
theorem se_ct{x:Str}{p:Pos}{es:List Expr}{ms:List (M D)}{g:List D→M D}{T:String}(hk:X.K=G.K)(hc:Cb X G F (.type T) g)(hgl:Gl X x)(hm:X.mg x=none)(hv:bootBuiltins x=some (.type T))(ha:SA X G F (e::es) (mArgs ms))(hn:x≠ "__name__" :=by decide)(hdb:(x==("__debug__" :Str))=false:=by decide)
 (he:starEach (e::es) X.env=(false,eval e X.env)::starEach es X.env:=by rfl) (hpl:(backTo pos (starEach es X.env)).any (·.1)=false:=by rfl):SE X G F (.Call (.Name x p) (e::es) [] pos) (mCB ms g):=by
 obtain⟨r,h1,h2⟩:=hc.h
 exact z5N hk h1 h2 hgl hm hv ha hn hdb he hpl
structure Cl(X:Cx)(G:Gx)(F:Fy)(id:String)(g:D→List D→M D):Prop where
 h: ∃r,MtR X id r∧MtOK G F r g
theorem z3r:Cl X G F "list.append" appD:=⟨_,z3i,zaS⟩
end
end Mi
namespace Mi
open PySem L2 PySem.Spec PyProof.Rows
section
variable{X:Cx}{G:Gx}{F:Fy}{e a b c:Expr}{pos:Pos}
noncomputable def isiAny(Ts:List String)(d:D):Option Bool:=match Ts with
 |[]=>some false
 |T::r=>match isiD T d,isiAny r d with
  |some b,some c=>some (b||c)
  |_,_=>none
noncomputable def zaW(Ts:List String)(m:M D):M D:=bd m fun d=>match isiAny Ts d with|some b=>rt (.bool b)|none=>fl
end
end Mi
namespace Mi
open PySem L2
section
variable{X:Cx}{G:Gx}{F:Fy}{e o:Expr}{es:List Expr}{apos cpos:Pos}
theorem se_cl{name:Str}{id:String}{mo:M D}{ms:List (M D)}{g:D→List D→M D}(hk:X.K=G.K)(slot:Slot "list" name id)(hty:typeOf (.builtin id)=pure (.type "method_descriptor"))(hm:Cl X G F id g)(ho:SE X G F o mo)(ha:SA X G F (e::es) (mArgs ms))
 (hbase:attributeBase o name X.env (eval o X.env)=eval o X.env:=by rfl)
 (hfew:((backTo cpos (starEach (e::es) X.env)).all (fun x=> !x.1)&&(backToKw cpos (keywordEach [] X.env)).all (fun x=>x.1.isSome)
  &&decide ((e::es).length+([]:List Keyword).length+(if([]:List Keyword).isEmpty then 0 else 1)<30))=true:=by rfl)
 (hline:(apos.endLine==cpos.line)=true:=by rfl) (hs:starEach (e::es) X.env=(false,eval e X.env)::starEach es X.env:=by rfl) (hplain:(backTo cpos (starEach es X.env)).any (·.1)=false:=by rfl):SE X G F (.Call (.Attribute o name apos) (e::es) [] cpos) (z1F mo ms g):=by
 obtain⟨r,h1,h2⟩:=hm.h
 exact z8N hk slot hty h1 h2 ho ha hbase hfew hline hs hplain
end
end Mi
namespace Mi
open PySem L2
inductive SEs(X:Cx)(G:Gx)(F:Fy):List Expr→List (M D)→Prop
 |nil:SEs X G F [] []
 |cons {e:Expr} {m:M D} {es:List Expr} {ms:List (M D)}:SE X G F e m→nst e=true→SEs X G F es ms→SEs X G F (e::es) (m::ms)
theorem sa_of{X:Cx}{G:Gx}{F:Fy}{es:List Expr}{ms:List (M D)}(hk:X.K=G.K)(h:SEs X G F es ms):SA X G F es (mArgs ms):=by
 induction h with
 |nil=>exact zax hk
 |cons h1 h2 _ ih=>exact z8F hk h1 ih h2
end Mi
namespace Mi
open PySem L2
section
variable{X:Cx}{G:Gx}{F:Fy}{tg iter elt:Expr}{pos:Pos}
end
end Mi
namespace Mi
open PySem L2
section
variable{X:Cx}{G:Gx}{F:Fy}{a b tg:Expr}{pos:Pos}
noncomputable def zaX(i:Nat):List (Option D)→Option (Option D)
 |some c::_=>(lstD c).map fun ds=>(ds[i]?).map fun d=> .tup [.int i,d]
 |_=>none
noncomputable def kEnm:ItK:=⟨1,zaX,z4x⟩
theorem z4B{a:Addr}:ItOK G (Ite G.K a) kEnm [some (.ref a)]:=by
 intro F ρ H σv tvp tv s i M
 dsimp only[kEnm]
 cases e:s.tm.drop tvp.length with
 |nil=>trivial
 |cons o r=>
  cases o with
  |none=>trivial
  |some c=>
   simp only[zaX]
   obtain⟨h,lb⟩:=MR.head (s:=s.popn tvp.length) M.popn e
   cases e1:lstD c with
   |none=>trivial
   |some ds=>
    simp only[Option.map_some]
    obtain⟨a',xs,ea,sq,rr,sub⟩:=h.lstq e1
    cases ea
    cases e2:ds[i]? with
    |none=>
     simp only[Option.map_none]
     refine⟨xs,sq, ?_⟩
     rw[←rr.length]
     exact List.getElem?_eq_none_iff.mp e2
    |some d=>
     simp only[Option.map_some]
     obtain⟨x,ex,rx⟩:=rr.get i d e2
     refine⟨⟨xs,x,sq,ex⟩, ?_⟩
     rintro x' H' ⟨p,y,hp,rfl,rfl,hx,kd⟩
     rw[hx xs sq] at ex
     cases ex
     have sm:=Same.new (.tup [.int i,x]) hp
     refine⟨M.same sm kd,RDs.one ?_,fun l hl=>lb l (sub l (labsL_mem (List.mem_of_getElem? e2) l (by simpa only[z00,labs,List.append_nil,List.nil_append] using hl)))⟩
     simp only[RD]
     refine⟨p,_,rfl,z09, ?_⟩
     have r1:=(RDs.one rx).same sm
     simp only[RDs] at r1⊢
     obtain⟨x,r,e,h1,h2⟩:=r1
     cases e
     exact⟨_,_,rfl,by simp only[RD],_,_,rfl,h1,rfl⟩
noncomputable def z86(i:Nat):List (Option D)→Option (Option D)
 |some (.tup ds)::_=>some ((ds[i]?).map fun d=> .tup [.int i,d])
 |_=>none
noncomputable def z8O:ItK:=⟨1,z86,z4x⟩
theorem z69{a:Addr}:ItOK G (Itet G.K a) z8O [some (.ref a)]:=by
 intro F ρ H σv tvp tv s i M
 dsimp only[z8O]
 cases e:s.tm.drop tvp.length with
 |nil=>trivial
 |cons o r=>
  cases o with
  |none=>trivial
  |some c=>
   obtain⟨h,lb⟩:=MR.head (s:=s.popn tvp.length) M.popn e
   cases c with
   |tup ds=>
    simp only[z86]
    obtain⟨a',xs,ea,sq,rr⟩:=h.tupq
    cases ea
    cases e2:ds[i]? with
    |none=>
     simp only[Option.map_none]
     refine⟨xs,sq, ?_⟩
     rw[←rr.length]
     exact List.getElem?_eq_none_iff.mp e2
    |some d=>
     simp only[Option.map_some]
     obtain⟨x,ex,rx⟩:=rr.get i d e2
     refine⟨⟨xs,x,sq,ex⟩, ?_⟩
     rintro x' H' ⟨p,y,hp,rfl,rfl,hx,kd⟩
     rw[hx xs sq] at ex
     cases ex
     have sm:=Same.new (.tup [.int i,x]) hp
     refine⟨M.same sm kd,RDs.one ?_,fun l hl=>lb l (by simp only[labs];exact labsL_mem (List.mem_of_getElem? e2) l (by simpa only[z00,labs,List.append_nil,List.nil_append] using hl))⟩
     simp only[RD]
     refine⟨p,_,rfl,z09, ?_⟩
     have r1:=(RDs.one rx).same sm
     simp only[RDs] at r1⊢
     obtain⟨x,r,e,h1,h2⟩:=r1
     cases e
     exact⟨_,_,rfl,by simp only[RD],_,_,rfl,h1,rfl⟩
   |_=>trivial
noncomputable def enmI(ts:List D):M ItK:=fun s=>match ts with
 |[.lst l ds]=> .ok kEnm (s.psh (.lst l ds))
 |[.ro ds]=> .ok kEnm (s.psh (.ro ds))
 |[.tup ds]=> .ok z8O (s.psh (.tup ds))
 |_=> .no
noncomputable def mEnm(ms:List (M D)):M ItK:=bd (mArgs ms) enmI
theorem si_enm{p tpos:Pos}{elts:List Expr}{x1:Nat}{ms:List (M D)}(hk:X.K=G.K)(hg:Gl X "enumerate")(hm:X.mg "enumerate" =none)(ha:SA X G F [a] (mArgs ms))(hs:starEach [a] X.env=[(false,eval a X.env)]:=by rfl):SI X G F (.Tuple elts x1 tpos) (.Call (.Name "enumerate" p) [a] [] pos) (mEnm ms):=by
 refine PI.imp0 (z7s hg hm ha hs) fun σ H R ⟨tv,hs,ρ,s,M,W⟩=>⟨tv,hs,ρ,s,M, ?_⟩
 unfold mEnm bd at W
 cases e:mArgs ms s with
 |ex d s1=>rw[e] at W;exact W
 |no=>rw[e] at W;exact W
 |ok ts s1=>
  rw[e] at W
  intro ρ1 vs H1 M1
  rw[hk]
  unfold enmI at W
  dsimp only at W
  split at W
  ·rename_i ts' K s' hh
   split at hh
   ·cases hh
    obtain⟨v,rfl,h,_⟩:=M1.one
    obtain⟨a,xs,rfl,sq,r,_⟩:=h.lstq (ds:=_) rfl
    exact⟨a,rfl, .inl ⟨⟨xs,sq⟩,W ρ1 H1 [some (.ref a)] _ rfl M1.push z4B⟩⟩
   ·cases hh
    obtain⟨v,rfl,h,_⟩:=M1.one
    obtain⟨a,xs,rfl,sq,r,_⟩:=h.lstq (ds:=_) rfl
    exact⟨a,rfl, .inl ⟨⟨xs,sq⟩,W ρ1 H1 [some (.ref a)] _ rfl M1.push z4B⟩⟩
   ·cases hh
    obtain⟨v,rfl,h,_⟩:=M1.one
    obtain⟨a,xs,rfl,sq,r⟩:=h.tupq
    exact⟨a,rfl, .inr ⟨⟨xs,sq⟩,W ρ1 H1 [some (.ref a)] _ rfl M1.push z69⟩⟩
   ·cases hh
  ·rename_i hh
   split at hh<;>cases hh
  ·exact False.elim W
end
end Mi
namespace Mi
open PySem L2
section
variable{X:Cx}{G:Gx}{F:Fy}{a b tg:Expr}{pos:Pos}
noncomputable def z1p(lo:Int)(n:Nat):List D:=(List.range n).map fun(k:Nat)=>D.int (lo+(k:Int))
theorem z6a{ρ:Nat→Addr}{H:Hp}(lo:Int): ∀ks:List Nat,RDs G ρ H (ks.map fun(k:Nat)=>D.int (lo+(k:Int))) (ks.map fun(k:Nat)=>V.int (lo+(k:Int)))
 |[]=>by simp only[List.map_nil,RDs]
 |k::ks=>by
  simp only[List.map_cons,RDs]
  exact⟨_,_,rfl,by simp only[RD],z6a lo ks⟩
theorem z4C(lo:Int): ∀ks:List Nat,z00 (ks.map fun(k:Nat)=>D.int (lo+(k:Int)))=[]
 |[]=>by simp only[List.map_nil,z00]
 |k::ks=>by simp only[List.map_cons,z00,labs,z4C lo ks,List.nil_append]
noncomputable def lrM(ts:List D):M D:=match ts with
 |[.int i, .int j]=>if(-(2^62)≤i∧i<2^62∧-(2^62)≤j∧j<2^62)∧(j -i).toNat≤sizeLine then newL (z1p i (j -i).toNat) else fl
 |_=>fl
theorem se_listRange{p p2 pos2:Pos}{ms:List (M D)}(hk:X.K=G.K)(hc:X.calm=true)(hgl:Gl X "list")(hml:X.mg "list" =none)(hgr:Gl X "range")(hmr:X.mg "range" =none)(ha:SA X G F [a,b] (mArgs ms))(hs:starEach [a,b] X.env=[(false,eval a X.env),(false,eval b X.env)]:=by rfl)(hs2:starEach [b] X.env=[(false,eval b X.env)]:=by rfl)
 (hso:starEach [.Call (.Name "range" p2) [a,b] [] pos2] X.env=[(false,eval (.Call (.Name "range" p2) [a,b] [] pos2) X.env)]:=by rfl):SE X G F (.Call (.Name "list" p) [.Call (.Name "range" p2) [a,b] [] pos2] [] pos) (mCB ms lrM):=by
 refine PE.imp hk (z3n hc hgl hml hgr hmr ha hs hs2 hso) fun σ H Q ⟨tv,hs,ρ,s,M,W⟩=>⟨tv,hs,ρ,s,M, ?_⟩
 unfold mCB bd at W
 cases e:mArgs ms s with
 |ex d s1=>rw[e] at W;exact W
 |no=>rw[e] at W;exact W
 |ok ts s1=>
  rw[e] at W
  intro ρ1 vs H1 M1
  unfold lrM at W
  dsimp only at W
  split at W
  ·split at W
   ·rename_i i j hc
    obtain⟨v,u,rfl,h,h'⟩:=M1.two
    simp only[RD] at h h'
    subst h h'
    refine⟨i,j,rfl,hc.1,hc.2,fun l hl kd=> ?_⟩
    exact z1e W M1.m (z6a i _) (fun l hl=>by unfold z1p at hl;rw[z4C] at hl;cases hl) hl kd
   ·exact False.elim W
  ·exact False.elim W
end
end Mi
namespace Mi
open PySem L2
section
variable{X:Cx}{G:Gx}{F:Fy}{a b tg:Expr}{pos:Pos}
mutual
theorem z6b: ∀t:D,(er t).hasDict=false
 | .non| .bool _| .int _| .str _| .dct _ _ _| .obj _ _ _ _| .exc _| .fn _| .fdc _ _=>by simp only[er,PyData.hasDict]
 | .tup ds=>by simp only[er,PyData.hasDict];exact z1h ds
 | .ro ds=>by simp only[er,PyData.hasDict];exact z1h ds
 | .lst _ ds=>by simp only[er,PyData.hasDict];exact z1h ds
theorem z1h: ∀ts:List D,PyData.hasDictAll (erL ts)=false
 |[]=>by simp only[erL,PyData.hasDictAll]
 |t::ts=>by simp only[erL,PyData.hasDictAll,z6b t,z1h ts,Bool.or_self]
end
end
end Mi
namespace L2
open PySem PySem.Spec PyProof.Rows
section
variable{P:Program}{w:World}{H H':Hp}{h h':Heap}{a:Addr}{o:HO}
theorem z0C.here(x:z0C P w H h a o): ∃u,h.get? a=some u:=by
 cases o with
 |lst xs=>obtain⟨_,_,_,_,e⟩:=x;exact⟨_,e⟩
 |tup xs=>obtain⟨_,_,_,ob,e,_⟩:=x;exact⟨_,e⟩
 |dK kvs=>obtain⟨_,_,_,_,o,_,_,e,_⟩:=x;exact⟨_,e⟩
 |dT kvs=>obtain⟨_,_,_,_,o,_,_,e,_⟩:=x;exact⟨_,e⟩
 |set S n=>obtain⟨o,_,_,_,e,_⟩:=x;exact⟨_,e⟩
 |ins C dx fs=>obtain⟨_,_,_,e,_⟩:=x;exact⟨_,e⟩
 |own y=>obtain⟨_,e⟩:=x;exact⟨_,e⟩
 |xd fs=>obtain⟨_,⟨_,_,_,e,_⟩,_⟩:=x;exact⟨_,e⟩
 |rng lo hi=>obtain⟨_,_,_,e⟩:=x;exact⟨_,e⟩
 |frz o u=>exact⟨_,x.1⟩
 |tbl ps=>exact⟨_,x⟩
 |met f y=>exact⟨_,x⟩
 |ext φ=>obtain⟨_,⟨_,e⟩,_⟩:=x;exact⟨_,e⟩
theorem HOk.none_of(x:HOk P w H h)(e:h.get? a=none):H a=none:=by
 cases q:H a with
 |none=>rfl
 |some u=>obtain⟨v,z⟩:=(x a u q).here;rw[e] at z;cases z
end
structure Fly(P:Program)(w:World)(outer:List Env)(H:Hp)(s:Shared)(H':Hp)(C:Value)(e:Addr)(s':Shared):Prop where
 os:s'.os=s.os
 bare:AllBare s'.gens
 un:Un (frs outer) [] H H' s.heap s'.heap
 hok:HOk P w H' s'.heap
 he:H' e=none
 se:s.heap.get? e=none
 tr: ∃oe vs a0 T oT ts,s'.heap.get? e=some oe∧(oe.cls=C∧vs[0]? =some a0)∧oe.data= .fields vs∧vs[1]? =some (.ref T)∧T≠e∧s'.heap.get? T=some oT∧oT.data= .fields ts∧ts[3]? =some .none∧H' T=none∧s.heap.get? T=none
noncomputable def CX1(P:Program)(w:World):CXT:=fun outer H s E e s'=> ∃a C H',e= .ref a∧Fly P w outer H s H' C a s'∧E C none H'
section
variable{X:Cx}{pins:List (Addr×Obj)}{σ:St}{H:Hp}{s:Shared}{h':Heap}
theorem Inv.frmem(I:Inv X pins σ H s): ∀env∈X.stack,∀a,env.frame=some a→a∈frs X.stack:=fun env he a e=>List.mem_filterMap.mpr ⟨env,he,e⟩
theorem z4D{ex:List Addr}(I:Inv X pins σ H s)(hx: ∀x∈ex,H x=none)(st:(PySem.W.hideAll s.heap (frs X.stack++ex)).StaysIn h'): ∀b u o,H b=some u→s.heap.get? b=some o→h'.get? b=some o:=fun b u o e q=>
 st b o (PySem.W.hideAll_get _ q fun hm=>by
  rcases List.mem_append.mp hm with z|z
  ·rw[I.stkFree b z] at e;cases e
  ·rw[hx b z] at e;cases e)
theorem z3Q{ex:List Addr}(I:Inv X pins σ H s)(hx: ∀x∈ex,H x=none)(st:(PySem.W.hideAll s.heap (frs X.stack++ex)).StaysIn h'):HOk X.prog X.w H h':=fun a o e=>
 (I.hok a o e).stay (fun b u hb q=>by
  rcases hb with rfl|hb
  ·exact z4D I hx st _ _ _ e q
  ·exact z4D I hx st _ _ _ hb q) (fun _ q=>q) fun _ _ q=>q
theorem z3R{ex:List Addr}(I:Inv X pins σ H s)(hex:X.ex=[])(hx: ∀x∈ex,H x=none)(hx0: ∀x∈ex,X.s₀.heap.get? x=none)(st:(PySem.W.hideAll s.heap (frs X.stack++ex)).StaysIn h')(up:s.heap.UpToSlots h'):Un (frs X.outer) [] X.H₀ H X.s₀.heap h':=by
 have nx: ∀b:Addr,b∉X.ex:=fun b z=>by rw[hex] at z;cases z
 have nst: ∀b o,X.s₀.heap.get? b=some o→b∉frs X.outer→b∉frs X.stack++ex:=fun b o q hb hm=>by
  rcases List.mem_append.mp hm with z|z
  ·rcases List.mem_cons.mp (I.stkSub b z) with z|z
   ·subst z;exact absurd (Heap.lt_size q) (Nat.not_lt.mpr I.ok.above)
   ·exact hb z
  ·rw[hx0 b z] at q;cases q
 have sl: ∀b o,X.s₀.heap.get? b=some o→b∈frs X.outer→∃sl,h'.get? b=some {o with slots:=sl}:=fun b o q hb=>by
  obtain⟨sl,z⟩:=I.base.slot b o q (I.ok.frf b hb) hb (nx b)
  obtain⟨_,o',ho',hd⟩:=I.ok.funs.mem hb
  rw[q] at ho';cases ho'
  obtain⟨sl2,z2⟩:=up b {o with slots:=sl} z hd
  exact⟨sl2,z2⟩
 refine⟨fun b o q n hb _=> ?_,fun b o q n hb _=>sl b o q hb,fun b o q n _=>I.base.free b o q n (nx b),fun b o q _=> ?_,I.base.tups,I.base.frzs,I.base.tbls⟩
 ·exact st b o (PySem.W.hideAll_get _ (I.base.keep b o q n hb (nx b)) (nst b o q hb))
 ·by_cases hb:b∈frs X.outer
  ·obtain⟨sl,z⟩:=sl b o q hb;exact⟨_,z⟩
  ·obtain⟨o',z⟩:=I.base.there b o q (nx b)
   exact⟨o',st b o' (PySem.W.hideAll_get _ z (nst b o q hb))⟩
theorem z2i(I:Inv X pins σ H s)(hex:X.ex=[]){b:Addr}(e:s.heap.get? b=none):X.s₀.heap.get? b=none:=by
 cases q:X.s₀.heap.get? b with
 |none=>rfl
 |some o=>obtain⟨o',z⟩:=I.base.there b o q (by rw[hex];simp);rw[e] at z;cases z
theorem z4E{ex:List Addr}{e:Addr}{cls a0:Value}(I:Inv X pins σ H s)(hex:X.ex=[])(hx: ∀x∈ex,H x=none)(hx0: ∀x∈ex,X.s₀.heap.get? x=none)(up:s.heap.UpToSlots h')(tr:h'.TracedW (PySem.W.hideAll s.heap (frs X.stack++ex)) e cls a0):
 ∃oe vs a0 T oT ts,h'.get? e=some oe∧(oe.cls=cls∧vs[0]? =some a0)∧oe.data= .fields vs∧vs[1]? =some (.ref T)∧T≠e∧h'.get? T=some oT∧oT.data= .fields ts∧ts[3]? =some .none∧H T=none∧X.s₀.heap.get? T=none:=by
 obtain⟨oe,vs,T,oT,ts,h1,h2,h3,h4,h5,h6,h7,h8,h9⟩:=tr
 have nm: ∀o,s.heap.get? T=some o→T∈ex:=fun o q=>by
  by_cases hm:T∈frs X.stack++ex
  ·rcases List.mem_append.mp hm with z|z
   ·obtain⟨_,o',ho',hd⟩:=I.stack.mem z
    obtain⟨sl,z'⟩:=up T o' ho' hd
    rw[h7] at z';cases z'
    exact absurd h8 (hd ts)
   ·exact z
  ·rw[PySem.W.hideAll_get _ q hm] at h5;cases h5
 have hT:H T=none:=by
  cases q:s.heap.get? T with
  |none=>exact I.hok.none_of q
  |some o=>exact hx T (nm o q)
 have hS:X.s₀.heap.get? T=none:=by
  cases q:s.heap.get? T with
  |none=>exact z2i I hex q
  |some o=>exact hx0 T (nm o q)
 exact⟨oe,vs,a0,T,oT,ts,h1,h2,h3,h4,h6,h7,h8,h9,hT,hS⟩
end
section
variable{P:Program}{w:World}{K:PySem.W.Frag}{mg:Str→Option Value}{base:Heap}{N:List Str}{qual:Str}{scope:Scope}{f:Addr}{cd:Value}{A:Around}{outer:List Env}{s:Shared}{H:Hp}{E:XK}
theorem z3S:z2C (CX1 P w) (cxOf (CX1 P w) P w K mg base N qual scope f cd A outer s H E) E:=by
 intro pins σ H1 s1 e s2 I ⟨a,C,H2,e1,F,hE⟩
 subst e1
 have I2:Inv (cxOf (CX1 P w) P w K mg base N qual scope f cd A outer s H E) pins σ H2 s2:=I.call' (ch:=[]) F.os F.un F.hok F.bare (fun b z=>absurd z (by simp))
 obtain⟨oe,vs,a0,T,oT,ts,h1,h2,h3,h4,h5,h6,h7,h8,h9,h10⟩:=F.tr
 have hx: ∀x∈[a,T],H2 x=none:=fun x hx=>by
  rcases List.mem_cons.mp hx with rfl|hx
  ·exact F.he
  ·rcases List.mem_cons.mp hx with rfl|hx
   ·exact h9
   ·cases hx
 have hx0: ∀x∈[a,T],s.heap.get? x=none:=fun x hx=>by
  rcases List.mem_cons.mp hx with rfl|hx
  ·exact z2i I rfl F.se
  ·rcases List.mem_cons.mp hx with rfl|hx
   ·exact z2i I rfl h10
   ·cases hx
 refine wpAny_leaves_onW (base:=PySem.W.hideAll s2.heap (frs (cxOf (CX1 P w) P w K mg base N qual scope f cd A outer s H E).stack++[a,T])) (L:=s.heap.objs.size) (cls:=C) (a0:=a0) I2.ok.frames rfl ⟨fun b o q=>PySem.W.of_hideAll _ q,PySem.W.hideAll_none _ (by simp),PySem.W.funFrames_hide I2.stack fun env he b hb=>List.mem_append_left _ (I2.frmem env he b hb),oe,vs,T,oT,ts,h1,h2,h3,h4,PySem.W.hideAll_none _ (by simp),h5,h6,h7,h8⟩ fun h' fl up=> ?_
 obtain⟨k1,k2,k3,k4⟩:=fl
 exact⟨a,C,H2,rfl,⟨F.os.trans I.os,F.bare,z3R I2 rfl hx hx0 k1 up,z3Q I2 hx k1,F.he,hx0 a (by simp),z4E I2 rfl hx hx0 up k4⟩,hE⟩
theorem zaY{pins:List (Addr×Obj)}{σ:St}{H1:Hp}{s1:Shared}{h':Heap}{e:Addr}{C:Value}{args:List Value}(I:Inv (cxOf (CX1 P w) P w K mg base N qual scope f cd A outer s H E) pins σ H1 s1)(hx:Heap.MadeExcOf s1.heap h' e C args)(hE:E C none H1):
 (cxOf (CX1 P w) P w K mg base N qual scope f cd A outer s H E).xe (.ref e) {s1 with heap:=h'}:=by
 have nn: ∀x∈([]:List Addr),H1 x=none:=fun x z=>absurd z (by simp)
 have nn0: ∀x∈([]:List Addr),s.heap.get? x=none:=fun x z=>absurd z (by simp)
 refine wpAny_leaves_madeW (base:=PySem.W.hideAll s1.heap (frs (cxOf (CX1 P w) P w K mg base N qual scope f cd A outer s H E).stack++[])) (h:=s1.heap) (L:=s.heap.objs.size) I.ok.frames rfl (fun b o q=>PySem.W.of_hideAll _ q) (PySem.W.funFrames_hide I.stack fun env he b hb=>List.mem_append_left _ (I.frmem env he b hb)) hx fun h2 t fl tp bt up=> ?_
 obtain⟨k1,k2,k3,k4⟩:=fl
 have up2:s1.heap.UpToSlots h2:=(Heap.UpToSlots.of_keeps hx.keeps).trans up
 exact⟨e,C,H1,rfl,⟨I.os,I.bare,z3R I rfl nn nn0 k1 up2,z3Q I nn k1,I.hok.none_of hx.new,z2i I rfl hx.new,z4E I rfl nn nn0 up2 k4⟩,hE⟩
end
end L2
namespace L2
open PySem PySem.Spec PyProof.Rows
section
variable{X:Cx}{pins:List (Addr×Obj)}{σ:St}{H:Hp}{s:Shared}{h':Heap}
theorem z6c{ex:List Addr}{t':Nat}(I:Inv X pins σ H s)(hex:X.ex=[])(hx: ∀x∈ex,H x=none)(hx0: ∀x∈ex,X.s₀.heap.get? x=none)(hxp: ∀p∈X.pn++pins,p.1∉ex)(st:(PySem.W.hideAll s.heap (frs X.stack++ex)).StaysIn h')(up:s.heap.UpToSlots h'):Inv X pins σ H {s with heap:=h',toks:=t'}:=by
 have cellK: ∀c v,s.heap.IsCell c v→h'.IsCell c v:=fun c v ⟨o,ho,hd⟩=>by
  obtain⟨sl,q⟩:=up c o ho (fun vs z=>by rw[hd] at z;cases z)
  exact⟨_,q,hd⟩
 have un:=z3R I hex hx hx0 st up
 refine⟨I.ok,I.os,I.bare,by rw[hex];exact un, ?_,fun y c e=> ?_,I.free,I.freeC,fun p hp=> ?_,z3Q I hx st,I.len⟩
 ·obtain⟨m,hn,hl⟩:=I.loc
  refine⟨m,up.ns hn,fun i x v e1 e2 e3=> ?_⟩
  obtain⟨u,r,l⟩:=hl i x v e1 e2 e3
  refine⟨u,r, ?_⟩
  rcases l with l|⟨k,c,e,z⟩
  ·exact .inl l
  ·exact .inr ⟨k,c,e,cellK c _ z⟩
 ·obtain⟨v,z⟩:=I.cell y c e
  exact⟨v,cellK c v z⟩
 ·obtain⟨e,n,ne,nf,d⟩:=I.pin p hp
  refine⟨st p.1 p.2 (PySem.W.hideAll_get _ e fun hm=> ?_),n,ne,nf,d⟩
  rcases List.mem_append.mp hm with z|z
  ·rcases List.mem_cons.mp (I.stkSub p.1 z) with z|z
   ·exact ne z
   ·exact nf z
  ·exact hxp p hp z
theorem Inv.track{a:Addr}{o:HO}(I:Inv X pins σ H s)(hn:H a=none)(h0:X.s₀.heap.get? a=none)(hL:a≠X.env.locals)(hC: ∀x c,X.env.cells.lookup x=some c→c≠a)(hp: ∀p∈X.pn++pins,p.1≠a)(ok:z0C X.prog X.w (upd H a o) s.heap a o):Inv X pins σ (upd H a o) s:=by
 have ne: ∀b u,H b=some u→upd H a o b=some u:=fun b u e=>by
  by_cases hb:b=a
  ·subst hb;rw[hn] at e;cases e
  ·rw[z05 hb];exact e
 refine⟨I.ok,I.os,I.bare,⟨I.base.keep,I.base.slot,fun b ob q n hx=> ?_,I.base.there,fun b xs e=>ne _ _ (I.base.tups b xs e),fun b u xs e=>ne _ _ (I.base.frzs b u xs e),fun b ps e=> ?_⟩,I.loc,I.cell, ?_,fun x c e=> ?_,fun p q=> ?_,fun b u e=> ?_,I.len⟩
 ·rw[z05 (fun z=>by rw[z,h0] at q;cases q)];exact I.base.free b ob q n hx
 ·obtain⟨m,z⟩:=I.base.tbls b ps e
  exact⟨m,ne _ _ z⟩
 ·rw[z05 (Ne.symm hL)];exact I.free
 ·rw[z05 (hC x c e)];exact I.freeC x c e
 ·obtain⟨e,n,r⟩:=I.pin p q
  exact⟨e,by rw[z05 (hp p q)];exact n,r⟩
 ·by_cases hb:b=a
  ·subst hb;rw[z09] at e;cases e;exact ok
  ·rw[z05 hb] at e
   exact(I.hok b u e).stay (fun _ _ _ q=>q) (fun c q=>ne _ _ q) fun c xs q=>ne _ _ q
noncomputable def z8P(N:List Str):St:=List.replicate N.length none
theorem Inv.forget{m':Str→Option Value}{t':Nat}(I:Inv X pins σ H s)(hn:h'.Ns X.env.locals m')(hs:Heap.SameBut X.env.locals s.heap h'):Inv X pins (z8P X.N) H {s with heap:=h',toks:=t'}:=by
 have neL: ∀b o,X.s₀.heap.get? b=some o→b≠X.env.locals:=fun b o e=>Nat.ne_of_lt (Nat.lt_of_lt_of_le (Heap.lt_size e) I.ok.above)
 refine⟨I.ok,I.os,I.bare,⟨fun b o e n hb hx=> ?_,fun b o e n hb hx=> ?_,I.base.free,fun b o e hx=> ?_,I.base.tups,I.base.frzs,I.base.tbls⟩,⟨m',hn,fun i x v _ e=> ?_⟩,fun y c e=> ?_,I.free,I.freeC,fun p hp=> ?_,fun b ob e=> ?_,by simp[z8P]⟩
 ·exact(hs.2 b (neL b o e)).trans (I.base.keep b o e n hb hx)
 ·obtain⟨sl,e1⟩:=I.base.slot b o e n hb hx
  exact⟨sl,(hs.2 b (neL b o e)).trans e1⟩
 ·obtain⟨o',e1⟩:=I.base.there b o e hx
  exact⟨o',(hs.2 b (neL b o e)).trans e1⟩
 ·unfold z8P at e
  rw[List.getElem?_replicate] at e
  split at e<;>cases e
 ·obtain⟨w',z⟩:=I.cell y c e
  exact⟨w',z.sameBut hs (I.cne y c e)⟩
 ·obtain⟨e,n,ne,nf,d⟩:=I.pin p hp
  exact⟨(hs.2 p.1 ne).trans e,n,ne,nf,d⟩
 ·refine(I.hok b ob e).stay (fun c w' hc q=>(hs.2 c ?_).trans q) (fun _ q=>q) fun _ _ q=>q
  rintro rfl
  rcases hc with rfl|hc
  ·rw[I.free] at e;cases e
  ·rw[I.free] at hc;cases hc
end
noncomputable def bmV:List Value:=[.type "ValueError", .type "Exception", .type "BaseException", .type "object"]
theorem zaZ{K:PySem.W.Frag}{h:Heap}{C:Addr}{bmB:List Value}{newId:String}(X:K.In h)(q:PySem.W.excIn K C bmB newId=true):
 ∃bm N nm qn bs hd sn sub ab col dd k0 k1 k2 k3 k5 mN,h.get? C=some (excClassObj nm qn C N bs bm hd sn sub ab col dd k0 k1 k2 k3 k5 newId)∧h.Ns N mN∧mN "__init__" =none∧OwnTail h bmB bm:=by
 unfold PySem.W.excIn at q
 split at q
 ·rename_i dd cd sl ho
  split at q
  ·rename_i C' bm k0 k1 k2 k3 n k5 hm hs
   simp only[Bool.and_eq_true,beq_iff_eq,Bool.not_eq_true'] at q
   obtain⟨⟨⟨⟨⟨rfl,rfl⟩,hdel⟩,ht⟩,hok⟩,hni⟩:=q
   obtain⟨nm,bs,mro,ns,qn,hd,sn,sub,ab,col,del⟩:=cd
   dsimp only at hm hdel hok hni
   subst hm hdel
   have hsl:sl= #[k0,k1,k2,k3,some (.builtin n),k5]:=by
    obtain⟨l⟩:=sl
    simp only at hs
    rw[hs]
   subst hsl
   exact⟨bm,ns,nm,qn,bs,hd,sn,sub,ab,col,dd,k0,k1,k2,k3,k5,_,X _ _ ho, .of_isNs (PySem.W.isNs_of_in X hok),PySem.W.nsMap_none_of_in X hok hni,PySem.W.tail_of_in X ht⟩
  ·cases q
 ·cases q
noncomputable def z2F(X:Cx)(E:St→XK):Prop:= ∀(pins:List (Addr×Obj)) (σ:St) (H:Hp) (s:Shared) (h':Heap) (e:Addr) (C:Value) (args:List Value),Inv X pins σ H s→Heap.MadeExcOf s.heap h' e C args→E σ C none H→X.xe (.ref e) {s with heap:=h'}
noncomputable def zb0(X:Cx)(E:St→XK):Prop:= ∀(pins:List (Addr×Obj)) (σ:St) (H:Hp) (s:Shared) (e:Value) (s':Shared),Inv X pins σ H s→CX1 X.prog X.w X.stack H s (E σ) e s'→X.xe e s'
section
variable{X:Cx}{C:Addr}{x y:Str}{np cpos pos p:Pos}{j:Nat}{E:St→XK}
noncomputable def zb1(C:Addr)(E:St→XK):TS:=fun _ σ H=>E σ (.ref C) none H
theorem z7B(hh:X.A.handled=none)(hx:z2F X E)(hg:Gl X x)(hm:X.mg x=some (.ref C))(hq:PySem.W.excIn X.K C bmV "ValueError.__new__" =true)(hd:(x==("__debug__" :Str))=false:=by decide):
 PS X (.Raise (some (.Call (.Name x np) [.Constant (.str y) j p] [] cpos)) none pos) (zb1 C E):=by
 intro pins s σ H D I h
 obtain⟨bm,N,nm,qn,bs,hdc,sn,sub,ab,col,dd,k0,k1,k2,k3,k5,mN,hC,hN,hni,T⟩:=zaZ I.ok.mod.kin hq
 refine wpAny_Raise_call_subU (C:=C) (nm:=nm) (q:=qn) (N:=N) (bs:=bs) (bm:=bm) (hdct:=hdc) (sn:=sn) (sub:=sub) (ab:=ab) (col:=col) (dd:=dd) (k0:=k0) (k1:=k1) (k2:=k2) (k3:=k3) (k5:=k5)
  F.excBase_ValueError (by decide+kernel) F.excBase_ValueError (mN:=mN) (T.hasType (by decide+kernel)) hh rfl hni (z21 I hg hm ⟨rfl, ?_⟩ hd)
 have he:starEach [Expr.Constant (.str y) j p] X.env=(false,eval (.Constant (.str y) j p) X.env)::starEach [] X.env:=by rfl
 rw[he]
 refine Calls.evalArgs_plain ?_
 have ha:PA X [Expr.Constant (.str y) j p] _:=z0a z5r z1O he
 have hp:=ha cpos pins s σ H (fun vs H1=>vs.length≤sizeLine∧H1=H) I ⟨by show 1≤sizeLine;decide,rfl⟩
 rw[he] at hp
 refine wpAny_mono hp (fun us s2 ⟨vs,H1,I1,r,hl,e1⟩=> ?_) fun _ _ z=>z
 subst e1
 exact⟨rfl,by rw[←r.length];exact hl,I1.bk _ _ hC,hN.keeps I1.bk,T.keeps I1.bk,fun h' e hm=>hx pins σ H1 s2 h' e (.ref C) us I1 hm h⟩
end
section
variable{X:Cx}{k:Nat}{f:Addr}{fd:FuncData}{ps:List Str}{sp:Sp}{E:St→XK}{x:Str}{p pos:Pos}{e:Expr}{es:List Expr}{t:TA}
noncomputable def zb2(sp:Sp)(E:St→XK)(t:TA):TE:=fun σ H Q=>t σ H fun vs H1=>sp vs H1 Q (E σ)
theorem z7C(F:FnOk X.prog X.w X.K X.mg X.base (CX1 X.prog X.w) k f fd ps sp)(hr:Room k X.A)(hg:Gl X x)(hm:X.mg x=some (.ref f))(hk:PySem.W.keepIn X.K (.ref f)=true)(hb:z1S X.K fd ps [])(hx:zb0 X E)
 (ha:PA X (e::es) t) (hdb:(x==("__debug__" :Str))=false:=by decide) (he:starEach (e::es) X.env=(false,eval e X.env)::starEach es X.env:=by rfl) (hpl:(backTo pos (starEach es X.env)).any (·.1)=false:=by rfl):
 PE X (.Call (.Name x p) (e::es) [] pos) (zb2 sp E t):=by
 intro pins s σ H Q I h
 refine wpAny_Call_Name_kw (z21 I hg hm ?_ hdb)
 refine PySem.W.callWith_K (h₀:=X.base) I.ok.mod.kin hk (thn (ha pos pins s σ H _ I h) fun us s1 ⟨vs,H1,I1,r,q⟩=>⟨I1.kIn, ?_⟩) he hpl
 have hl:us.length=ps.length:=by rw[←r.length];exact F.len _ _ _ _ q
 have hb2:=hb s1 us I1.kIn (by rw[List.append_nil];exact hl)
 rw[List.append_nil] at hb2
 refine wpAny_call (codeAny_mono (F.run X.A X.stack s1 H1 ⟨us,[]⟩ us vs Q (E σ) hr I1.env0 hb2 r q) fun r s' hq=> ?_)
 cases r with
 |error e=>exact hx pins σ H1 s1 e s' I1 hq
 |ok fl=>
  cases fl with
  |ret u=>exact I1.after hq
  |next=>exact False.elim hq
  |brk=>exact False.elim hq
  |cont=>exact False.elim hq
end
noncomputable abbrev Xt(X:Cx)(pl:List (Addr×Obj))(E:Value→Shared→Prop):Cx:={X with pn:=pl,xe:=E}
theorem Cx.Ok.xt{X:Cx}(ok:X.Ok)(pl:List (Addr×Obj))(E:Value→Shared→Prop):(Xt X pl E).Ok:=
 ⟨ok.mod,ok.kind,ok.glob,ok.blt,ok.above,ok.inj,ok.has,ok.cab,ok.hd,ok.frames,ok.stk,ok.exf,ok.bs,ok.bsz,ok.noex,ok.exfs,ok.funs,ok.frf⟩
theorem Cx.Ok.unxt{X:Cx}{pl:List (Addr×Obj)}{E:Value→Shared→Prop}(ok:(Xt X pl E).Ok):X.Ok:=
 ⟨ok.mod,ok.kind,ok.glob,ok.blt,ok.above,ok.inj,ok.has,ok.cab,ok.hd,ok.frames,ok.stk,ok.exf,ok.bs,ok.bsz,ok.noex,ok.exfs,ok.funs,ok.frf⟩
theorem Inv.xt{X:Cx}{pins:List (Addr×Obj)}{σ:St}{H:Hp}{s:Shared}{E:Value→Shared→Prop}(I:Inv X pins σ H s):Inv (Xt X (X.pn++pins) E) [] σ H s:=⟨I.ok.xt _ _,I.os,I.bare,I.base,I.loc,I.cell,I.free,I.freeC,fun p hp=>I.pin p (by rw[List.append_nil] at hp;exact hp),I.hok,I.len⟩
theorem Inv.unxt{X:Cx}{pins pins':List (Addr×Obj)}{σ:St}{H:Hp}{s:Shared}{E:Value→Shared→Prop}(I:Inv (Xt X (X.pn++pins) E) pins' σ H s):Inv X pins σ H s:=⟨I.ok.unxt,I.os,I.bare,I.base,I.loc,I.cell,I.free,I.freeC,fun p hp=>I.pin p (List.mem_append_left _ hp),I.hok,I.len⟩
noncomputable abbrev Xm(X:Cx)(a:Addr):Cx:={X with A:=X.A.mark (some (.ref a)),calm:=false,xe:=fun _ _=>False}
theorem Cx.Ok.xm{X:Cx}(ok:X.Ok)(a:Addr):(Xm X a).Ok:=
 ⟨ok.mod,ok.kind,ok.glob,ok.blt,ok.above,ok.inj,ok.has,ok.cab,fun z=>Bool.noConfusion z,ok.frames,ok.stk,ok.exf,ok.bs,ok.bsz,ok.noex,ok.exfs,ok.funs,ok.frf⟩
section
variable{X:Cx}{pins:List (Addr×Obj)}{σ:St}{H:Hp}{s s':Shared}
theorem Inv.xm(I:Inv X pins σ H s)(a:Addr):Inv (Xm X a) pins σ H s:=⟨I.ok.xm a,I.os,I.bare,I.base,I.loc,I.cell,I.free,I.freeC,I.pin,I.hok,I.len⟩
theorem Inv.unxm{a:Addr}(ok:X.Ok)(I:Inv (Xm X a) pins σ H s):Inv X pins σ H s:=⟨ok,I.os,I.bare,I.base,I.loc,I.cell,I.free,I.freeC,I.pin,I.hok,I.len⟩
noncomputable def z3s(o:Obj):HO:= .frz o (.ext fun _=>True)
noncomputable def zb3(K:PySem.W.Frag)(CB:Addr)(ie:Nat)(th:TS)(D:Ends):St→XK:=fun σ C _ H=>PySem.W.exmOne K C (.ref CB)=some true∧∀a o,H a=none→K.lookup a=none→o.cls=C→(∃vs,o.data= .fields vs)→th {nx:=fun _ _=>False,rt:=D.rt} (σ.set ie (some (.ref a))) (upd H a (z3s o))
noncomputable def z7D(X:Cx)(hs:List ExceptHandler)(Q:Flow→Shared→Prop):Value→Shared→Prop:=fun e s₁=>
 wpAny (model X.prog X.w) X.A (noteFrame e X.env) (fun _ s₂=>wpAny (model X.prog X.w) X.A (setFlight e none) (fun _ s₃=>wpAny (model X.prog X.w) X.A (handleBy e X.env hs) Q X.xe s₃) X.xe s₂) X.xe s₁
theorem z7E{CB:Addr}{x n:Str}{ie:Nat}{np hpos:Pos}{b₀:Stmt}{suite:List Stmt}{th:TS}{D:Ends}(hst:X.stack=X.env::X.outer)(hfr:X.env.frame=some X.env.locals)(hex:X.ex=[])(hg:Gl X x)(hm:X.mg x=some (.ref CB))(hN:X.N.Nodup)(hi:X.N[ie]? =some n)(hloc:X.env.scope.names.lookup n=some .local)
 (hb: ∀a,PSs (Xm X a) (b₀::suite) th) (hd:(x==("__debug__" :Str))=false:=by decide) {e:Value} (I:Inv X pins σ H s) (hc:CX1 X.prog X.w X.stack H s (zb3 X.K CB ie th D σ) e s'):
 z7D X [.ExceptHandler (some (.Name x np)) (some n) (b₀::suite) hpos] (SP X pins D) e s':=by
 obtain⟨a,C,H2,e1,F,hE⟩:=hc
 subst e1
 have I2:Inv X pins σ H2 s':=I.call' (ch:=[]) F.os F.un F.hok F.bare (fun b z=>absurd z (by simp))
 obtain⟨oe,vs,a0,T,oT,ts,h1,h2,h3,h4,h5,h6,h7,h8,h9,h10⟩:=F.tr
 have hx: ∀x∈[a,T],H2 x=none:=fun x hx=>by
  rcases List.mem_cons.mp hx with rfl|hx
  ·exact F.he
  ·rcases List.mem_cons.mp hx with rfl|hx
   ·exact h9
   ·cases hx
 have hs0: ∀x∈[a,T],s.heap.get? x=none:=fun x hx=>by
  rcases List.mem_cons.mp hx with rfl|hx
  ·exact F.se
  ·rcases List.mem_cons.mp hx with rfl|hx
   ·exact h10
   ·cases hx
 have hx0: ∀x∈[a,T],X.s₀.heap.get? x=none:=fun x hx=>z2i I hex (hs0 x hx)
 have hxp: ∀p∈X.pn++pins,p.1∉[a,T]:=fun p hp z=>by
  have:=(I.pin p hp).1
  rw[hs0 _ z] at this;cases this
 have aL:a≠X.env.locals:=fun z=>by
  obtain⟨m,⟨o,_,_,ho,_⟩,_⟩:=I.loc
  have:=F.se
  rw[z,ho] at this;cases this
 have aC: ∀x c,X.env.cells.lookup x=some c→c≠a:=fun x c e z=>by
  obtain⟨v,o,ho,_⟩:=I.cell x c e
  have:=F.se
  rw[←z,ho] at this;cases this
 have fl0:Heap.FlyingW (PySem.W.hideAll s'.heap (frs X.stack++[a,T])) (X.env::X.outer) a C a0 s'.heap:=⟨fun b o q=>PySem.W.of_hideAll _ q,PySem.W.hideAll_none _ (by simp),by rw[←hst];exact PySem.W.funFrames_hide I2.stack fun env he b hb=>List.mem_append_left _ (I2.frmem env he b hb),oe,vs,T,oT,ts,h1,h2,h3,h4,PySem.W.hideAll_none _ (by simp),h5,h6,h7,h8⟩
 unfold z7D
 refine wpAny_looks_onW (by rw[←hst];exact I2.ok.frames) hfr fl0 fun h4' held up4=> ?_
 refine wpAny_landsW held fun h5' fl5 up5=> ?_
 have up:=up4.trans up5
 have I5:Inv X pins σ H2 {s' with heap:=h5'}:=z6c (t':=s'.toks) I2 hex hx hx0 hxp fl5.1 up
 obtain⟨ob,hob,hobc⟩:=fl5.there
 refine wpAny_handleBy_cons (codeAny_handlers_test (z21 (X:=Xm X a) (I5.xm a) hg hm ?_ hd)) (by intro q;cases q)
 have LT:PySem.W.Looks (model X.prog X.w) h5' (typeOf (.ref a)) C:=hobc▸(PySem.W.Looks.ld hob).andThen .now
 refine(PySem.W.exm_one I5.kIn LT hE.1).here ?_
 refine codeAny_handlers_suite_as ?_
 refine lands_againW fl5 fun h6' fl6 up6=> ?_
 have I6:Inv X pins σ H2 {s' with heap:=h6'}:=z6c (t':=s'.toks) I2 hex hx hx0 hxp fl6.1 (up.trans up6)
 obtain⟨oe6,vs6,hoe6,hoec6,hoed6,_⟩:=fl6.first
 have I7:Inv X pins σ (upd H2 a (z3s oe6)) {s' with heap:=h6'}:=I6.track F.he (hx0 a (by simp)) aL aC (fun p hp z=>hxp p hp (by rw[z];simp)) ⟨hoe6,trivial,⟨_,hoe6⟩,fun _ _ _ _=>trivial⟩
 refine z2K (X:=Xm X a) (I7.xm a) hN hi (.inl hloc) (v:= .ref a) rfl (fun s8 I8=> ?_) (.inr hloc)
 refine wpAny_mono (hb a pins s8 _ _ _ I8 (hE.2 a oe6 F.he (by cases q:X.K.lookup a with|none=>rfl|some u=>have z:=I.kIn _ _ q;rw[F.se] at z;cases z) hoec6 ⟨_,hoed6⟩)) (fun fl s9 hq=> ?_) fun _ _ z=>z.elim
 have hkn:X.env.kindOf n=some .local:=hloc
 cases fl with
 |ret u=>
  obtain⟨v,σ',H',I9,r,q⟩:=hq
  have J:=I9.unxm I.ok
  obtain⟨m,hn,_⟩:=id J.loc
  refine wpAny_nameGoes hkn hn (by rw[I.ok.kind];rfl) fun h10 m' hn' hs=> ?_
  exact⟨v,_,H',J.forget (t':=s9.toks+1) hn' hs,r,q⟩
 |next=>obtain⟨_,_,_,q⟩:=hq;exact q.elim
 |brk=>obtain⟨_,_,_,q⟩:=hq;exact q.elim
 |cont=>obtain⟨_,_,_,q⟩:=hq;exact q.elim
end
end L2
namespace L2
open PySem PySem.Spec PySem.Calls PyProof.Rows Builtin Builtin.ObjectAttr Builtin.Getset_descriptor
section
variable{prog:Program}{w:World}{A:Around}{E:Value→Shared→Prop}{h:Heap}{g:Array GenState}{d:Drawn}{t:Nat}{os:OsState}{a C:Addr}{K:PySem.W.Frag}
theorem zb4{R:Result→Shared→Prop}{tp:Value}(X:K.In h)(L0:PySem.W.Looks (model prog w) h (typeOf (.ref a)) (.ref C))(hm:PySem.W.mroIn K C (.type "object")=some true)(hq:R (.ok (.ret (.ref C))) ⟨h,g,d,t,os⟩):
 codeAny (model prog w) A (.call (.builtin "getset_descriptor.__get__") ⟨[.builtin "object.__class__", .ref a,tp],[]⟩) R ⟨h,g,d,t,os⟩:=by
 have L1:=PySem.W.looks_mroIn (M:=model prog w) X hm
 refine codeAny_call_builtin PySem.W.KF.slot_gs.plain PySem.W.KF.entry_gs (PySem.W.KF.slot_gs.check _ _ _ _ _ _ _ _ PySem.W.KF.type_class (PySem.W.KF.args_gs _ _ _) ?_)
 unfold Builtin.«getset_descriptor.__get__» descrGet
 rw[PySem.W.dga_obj]
 refine wpAny_bind (wpAny_pure ?_)
 unfold descrGetter descrCheckInstance descrNameAndClass isInstance
 simp only[PySem.W.KF.owner_class]
 repeat lk
 refine⟨Code.quiet_builtin _ (by decide+kernel),codeAny_builtin PySem.W.KF.entry_class ?_⟩
 unfold Builtin.«object.__class__» shownTypeOf
 repeat lk
 exact hq
theorem z7F{tk:Tok}{Q:Fin→Shared→Prop}(X:K.In h)(L0:PySem.W.Looks (model prog w) h (typeOf (.ref a)) (.ref C))(hm:PySem.W.mroIn K C (.type "object")=some true)(f3:PySem.W.findIn K (.ref C) "__class__" =some (some (.builtin "object.__class__")))(hq:Q (.done (.ret (.ref C))) ⟨h,g,d,t,os⟩):
 wpAny (model prog w) A (Builtin.«object.__getattribute__» ⟨[.ref a, .str "__class__" tk],[]⟩) Q E ⟨h,g,d,t,os⟩:=by
 have L3:=PySem.W.looks_findIn (M:=model prog w) X f3
 have hT5:(⟨h,g,d,t,os⟩:Shared).TypeIs (.builtin "object.__class__") "getset_descriptor" :=F.typeOf_object_class
 have f5:=F.typeOf_object_class
 have f6:=F.slot_gs_get.lookup
 have f7:=F.slot_gs_set.lookup
 repeat (any_goals (first|assumption|with_reducible refine L0.at ?_|with_reducible refine L3.at ?_|wp_step))
 refine zb4 X L0 hm ?_
 repeat (any_goals (first|assumption|wp_step))
theorem z7G{M:Model}{nameV:Value}{Q:Unit→Shared→Prop}(X:K.In h)(L0:PySem.W.Looks M h (typeOf (.ref a)) (.ref C))(hm:PySem.W.mroIn K C (.type "BaseException")=some true)(hq:Q () ⟨h,g,d,t,os⟩):
 wpAny M A (checkBuiltinCall "BaseException.__getattribute__" ⟨[.ref a,nameV],[]⟩) Q E ⟨h,g,d,t,os⟩:=by
 have hk:builtinKind "BaseException.__getattribute__" =some .slot:=by decide+kernel
 have hsplit:splitId "BaseException.__getattribute__" =some ("BaseException", "__getattribute__"):=by decide+kernel
 have ha:=F.args_bexc_ga (.ref a) nameV
 have L1:=PySem.W.looks_mroIn (M:=M) X hm
 simp only[checkBuiltinCall,hk,hsplit]
 refine wpAny_bind ?_
 ·unfold isInstance
  repeat (first|with_reducible refine L0.at ?_|with_reducible refine L1.at ?_|wp_step)
  exact hq
theorem z8Q{tk:Tok}{R:Result→Shared→Prop}(X:K.In h)(L0:PySem.W.Looks (model prog w) h (typeOf (.ref a)) (.ref C))(hm:PySem.W.mroIn K C (.type "object")=some true)(hb:PySem.W.mroIn K C (.type "BaseException")=some true)(f3:PySem.W.findIn K (.ref C) "__class__" =some (some (.builtin "object.__class__")))(hq:R (.ok (.ret (.ref C))) ⟨h,g,d,t,os⟩):
 codeAny (model prog w) A (.call (.builtin "BaseException.__getattribute__") ⟨[.ref a, .str "__class__" tk],[]⟩) R ⟨h,g,d,t,os⟩:=
 codeAny_call_builtin F.excAttr_ValueError.ga.plain F.entry_bexc_ga (z7G X L0 hb (z7F X L0 hm f3 hq))
theorem zcc{tk:Tok}{fill expr:Bool}{Q:Value→Shared→Prop}(X:K.In h)(L0:PySem.W.Looks (model prog w) h (typeOf (.ref a)) (.ref C))(hm:PySem.W.mroIn K C (.type "object")=some true)(hb:PySem.W.mroIn K C (.type "BaseException")=some true)(f1:PySem.W.findIn K (.ref C) "__getattribute__" =some (some (.builtin "BaseException.__getattribute__")))(f2:PySem.W.findIn K (.ref C) "__getattr__" =some none)(f3:PySem.W.findIn K (.ref C) "__class__" =some (some (.builtin "object.__class__")))(hq:Q (.ref C) ⟨h,g,d,t,os⟩):
 wpAny (model prog w) A (getAttrBy (.ref a) (.str "__class__" tk) fill expr) Q E ⟨h,g,d,t,os⟩:=by
 have L1:=PySem.W.looks_findIn (M:=model prog w) X f1
 have L2:=PySem.W.looks_findIn (M:=model prog w) X f2
 have f3':=F.excAttr_ValueError.ga.bind (.ref a)
 have hx0:(expr&&onTheHeap (Value.builtin "BaseException.__getattribute__"))=false:=by cases expr<;>rfl
 have hx2:(Value.builtin "BaseException.__getattribute__" ==Value.builtin "object.__getattribute__")=false:=by decide+kernel
 have hx1:(onTheHeap (Value.ref C)&&Value.builtin "BaseException.__getattribute__" ==Value.builtin "object.__getattribute__")=false:=by rw[hx2];rfl
 repeat (any_goals (first|assumption|with_reducible refine L0.at ?_|with_reducible refine L1.at ?_|with_reducible refine L2.at ?_|wp_step))
 refine z8Q X L0 hm hb f3 ?_
 repeat (any_goals (first|assumption|wp_step))
theorem z8R{Q:Option Value→Shared→Prop}(X:K.In h)(L0:PySem.W.Looks (model prog w) h (typeOf (.ref a)) (.ref C))(hm:PySem.W.mroIn K C (.type "object")=some true)(hb:PySem.W.mroIn K C (.type "BaseException")=some true)(f1:PySem.W.findIn K (.ref C) "__getattribute__" =some (some (.builtin "BaseException.__getattribute__")))(f2:PySem.W.findIn K (.ref C) "__getattr__" =some none)(f3:PySem.W.findIn K (.ref C) "__class__" =some (some (.builtin "object.__class__")))(hq:Q (some (.ref C)) ⟨h,g,d,t+1,os⟩):
 wpAny (model prog w) A (getAttr? (.ref a) "__class__") Q E ⟨h,g,d,t,os⟩:=by
 unfold getAttr? getAttrBy?
 repeat (any_goals (first|assumption|with_reducible apply zcc X L0 hm hb f1 f2 f3|wp_step))
end
structure XCls(K:PySem.W.Frag)(C:Addr):Prop where
 ob:PySem.W.mroIn K C (.type "object")=some true
 ba:PySem.W.mroIn K C (.type "BaseException")=some true
 f1:PySem.W.findIn K (.ref C) "__getattribute__" =some (some (.builtin "BaseException.__getattribute__"))
 f2:PySem.W.findIn K (.ref C) "__getattr__" =some none
 f3:PySem.W.findIn K (.ref C) "__class__" =some (some (.builtin "object.__class__"))
theorem z4F{K:PySem.W.Frag}{a C:Addr}(Z:XCls K C):PySem.W.KitX K (.ref a) (.ref C) (fun h=> ∃o,h.get? a=some o∧o.cls= .ref C) where
 ty:=fun M h _ ⟨o,e,c⟩=>c▸(PySem.W.Looks.ld e).andThen .now
 it:=fun M h X _=>by
  obtain⟨cd,hc,_⟩:=Option.bind_eq_some_iff.mp Z.ob
  unfold PySem.W.clsIn at hc
  split at hc
  ·rename_i c' d' cd' sl' ho
   intro A' Q' E' s' k q
   unfold isType loadHead
   exact wpAny_bind (wpAny_loadPart (k _ _ (X _ _ ho)) (wpAny_pure q))
  ·cases hc
 ne:=fun h tp dd its n sl X htp=>by
  obtain⟨cd,hc,_⟩:=Option.bind_eq_some_iff.mp Z.ob
  refine Bool.eq_false_iff.mpr fun q=> ?_
  have e:C=tp:=Value.ref.inj (beq_iff_eq.mp q)
  subst e
  unfold PySem.W.clsIn at hc
  split at hc
  ·rename_i c' d' cd' sl' ho
   have z:=(X _ _ ho).symm.trans htp
   cases z
  ·cases hc
 ca:=fun{prog w A E Q s} X ⟨o,e,c⟩ k=>by
  obtain⟨hh,g,d,t,os⟩:=s
  exact z8R X (c▸(PySem.W.Looks.ld e).andThen .now) Z.ob Z.ba Z.f1 Z.f2 Z.f3 k
end L2
namespace L2
open PySem PySem.Spec PySem.Calls PyProof.Rows
noncomputable def cvV:V→Value
 | .ref a=> .ref a| .ty n=> .type n|_=> .none
noncomputable def clsV:V→Bool
 | .ref _=>true| .ty _=>true|_=>false
theorem z2U: ∀{cs:List V} {us:List Value},(∀c∈cs,clsV c=true)→Vals cs us→us=cs.map cvV
 |[],_,_, .nil=>rfl
 |c::cs,_,h, .cons r rs=>by
  rw[List.map_cons,←z2U (fun x hx=>h x (List.mem_cons_of_mem _ hx)) rs]
  have hc:=h c (List.mem_cons_self ..)
  cases c<;>first|(cases hc;done)|(have r:_=_:=r;rw[r];rfl)
noncomputable def clO(p:Addr)(us:List Value):HO:= .ext fun h=>h.get? p=some {cls:= .type "tuple",data:= .seq us.toArray}
section
variable{X:Cx}{pos:Pos}
noncomputable def tCls(us:List Value):TE:=fun _ H Q=> ∀p,H p=none→Q (.ref p) (upd H p (clO p us))
theorem z2V{es:List Expr}{k}{cs:List V}{t:TA}(h:PA X es t)(ht: ∀σ H Q,Q cs H→t σ H Q)(hca:cs.all clsV=true)(hl:Nat.ble cs.length 40=true):PE X (.Tuple es k pos) (tCls (cs.map cvV)):=by
 have hc: ∀c∈cs,clsV c=true:=List.all_eq_true.mp hca
 have hl:cs.length≤40:=Nat.le_of_ble_eq_true hl
 intro pins s σ H Q I hq
 refine wpAny_Tuple_spliced (thn (h pos pins s σ H (fun vs H1=>vs=cs∧H1=H) I (ht _ _ _ ⟨rfl,rfl⟩)) fun us s1 ⟨xs,H1,I1,r,e1,e2⟩=>⟨?_, ?_⟩)
 ·rw[←r.length,e1,sizeLine_eq];omega
 ·subst e1 e2
  have hu:=z2U hc r
  subst hu
  have hf:H1 s1.heap.objs.size=none:=I1.hok.fresh (Nat.le_refl _)
  refine⟨.ref s1.heap.objs.size,upd H1 s1.heap.objs.size (clO s1.heap.objs.size (xs.map cvV)),I1.laid (t':=s1.toks) (fun b u e=>Heap.get?_push_of_some _ e) (Nat.le_refl _) ?_,rfl,hq _ hf⟩
  exact⟨Heap.get?_push_size _ rfl,⟨_,Heap.get?_push_size _ rfl⟩,fun h1 h2 q k=>k _ q⟩
noncomputable def zcd(K:PySem.W.Frag)(c:V):List V→Hp→VK→Prop:=fun xs H Q=> ∃a o C b,xs=[.ref a,c]∧H a=some (z3s o)∧o.cls= .ref C∧XCls K C∧PySem.W.kitOne K (.ref C) (cvV c)=some b∧Q (.bl b) H
theorem z6d{c:V}(hc:clsV c=true):CallR X (.builtin "isinstance") (zcd X.K c):=by
 intro pins s σ H xs us Q I r ⟨a,o,C,b,e,hx,ho,Z,hk,q⟩
 subst e
 cases r with
 |cons r1 r2=>
  cases r2 with
  |cons r2 r3=>
   cases r3
   have e1:_=Value.ref a:=r1
   subst e1
   have e2:=z2U (cs:=[c]) (fun x hx=>by cases hx with|head=>exact hc|tail _ h=>cases h) (.cons r2 .nil)
   cases e2
   have hob:s.heap.get? a=some o:=(I.hok a _ hx).1
   exact PySem.W.kia_one (z4F Z) I.kIn ⟨o,hob,ho⟩ hk (by intro z;cases z) fun tk=>⟨.bl b,H,I.tok tk,rfl,q⟩
noncomputable def zce(K:PySem.W.Frag)(us:List Value):List V→Hp→VK→Prop:=fun xs H Q=> ∃a o C p b,xs=[.ref a, .ref p]∧H a=some (z3s o)∧o.cls= .ref C∧XCls K C∧H p=some (clO p us)∧PySem.W.kitAny K (.ref C) us=some b∧Q (.bl b) H
theorem z6e{us:List Value}:CallR X (.builtin "isinstance") (zce X.K us):=by
 intro pins s σ H xs vs Q I r ⟨a,o,C,p,b,e,hx,ho,Z,hp,hk,q⟩
 subst e
 cases r with
 |cons r1 r2=>
  cases r2 with
  |cons r2 r3=>
   cases r3
   have e1:_=Value.ref a:=r1
   subst e1
   have e2:_=Value.ref p:=r2
   subst e2
   have hob:s.heap.get? a=some o:=(I.hok a _ hx).1
   have htp:s.heap.get? p=some {cls:= .type "tuple",data:= .seq us.toArray}:=(I.hok p _ hp).1
   exact PySem.W.kia_tup (z4F Z) I.kIn ⟨o,hob,ho⟩ htp hk (by intro z;cases z) fun tk=>⟨.bl b,H,I.tok tk,rfl,q⟩
end
end L2
namespace L2
open PySem PySem.Spec PySem.SeqAt PySem.Calls PyProof.Rows
section
variable{X:Cx}
end
end L2
namespace L2
open PySem PySem.Spec PySem.Calls PyProof.Rows
structure zcf(k:Nat)(A:Around):Prop where
 dp:A.depth+3*k+5<recursionLimit
 un:A.units+16*k+200<cLine
 gd:A.guards=some []
structure FnOkH(P:Program)(w:World)(K:PySem.W.Frag)(mg:Str→Option Value)(base:Heap)(CX:CXT)(k:Nat)(f:Addr)(fd:FuncData)(ps:List Str)(sp:Sp):Prop where
 len: ∀vs H Q E,sp vs H Q E→vs.length=ps.length
 run: ∀(A:Around) (outer:List Env) (s:Shared) (H:Hp) (args:Args) (us:List Value) (vs:List V) (Q:VK) (E:XK),zcf k A→Env0 P w K mg base A outer s H→BindsTo s fd args (ps.zip us)→Vals vs us→sp vs H Q E→
  codeAny (model P w) A (.call (.ref f) args) (CR CX outer P w H s Q E) s
section
variable{P:Program}{w:World}{K:PySem.W.Frag}{mg:Str→Option Value}{base:Heap}
end
section
variable{X:Cx}{CX:CXT}{k:Nat}{f C:Addr}{fd:FuncData}{ps:List Str}{sp:Sp}{dvs:List V}{ds:List Value}{E:XK}{x m:Str}{p pos apos:Pos}{e o:Expr}{es:List Expr}{ta:TE}{t:TA}
end
end L2
namespace L2
open PySem PySem.Spec PyProof.Rows
section
variable{X:Cx}
end
end L2
namespace Mi
open PySem L2 PySem.Spec
open PyProof.Rows (envOfC)
structure XP(X:Cx)(G:Gx)(F:Fy)(E:L2.St→XK):Prop where
 ps:zb0 X E
 xw: ∀c s',F.xw (.exc c) s'→∀ρ σv tv H C,F.tv0<:+tv→MR G F.toFx ρ H σv tv s'→G.cl c=some C→E σv (.ref C) none H
 no: ∀d s',F.xw d s'→∃c,d= .exc c
noncomputable def z4G(c:Str):MS:=fun s=> .ex (.exc c) s
section
variable{X:Cx}{G:Gx}{F:Fy}{E:L2.St→XK}{C:Addr}{x y:Str}{np cpos pos p:Pos}{j:Nat}
theorem ss_raise(hh:X.A.handled=none)(hx:XP X G F E)(hr:z2F X E)(hcl:G.cl x=some C)(hg:Gl X x)(hm:X.mg x=some (.ref C))(hq:PySem.W.excIn X.K C bmV "ValueError.__new__" =true)(hd:(x==("__debug__" :Str))=false:=by decide):
 SS X G F (.Raise (some (.Call (.Name x np) [.Constant (.str y) j p] [] cpos)) none pos) (z4G x):=
 PS.imp0 (z7B hh hr hg hm hq hd) fun D σ H ⟨tv,hs,ρ,s,M,W⟩=>hx.xw x s W ρ σ tv H C hs M hcl
end
open Classical in
noncomputable def z1A(r:RF)(ts:List D):M D:=fun s=>match r with
 | .ok t ts' n'=>if ts'=ts then .ok t {s with n:=n'} else
  if ∀l∈z0v s,l∈z00 ts→(z0f l ts').isSome=true then .ok t {σ:=rpO (fun l=>z0f l ts') s.σ,tm:=rpO (fun l=>z0f l ts') s.tm,n:=n'} else .no
 | .ex d ts' n'=>if ts'=ts then .ex d {s with n:=n'} else
  if ∀l∈z0v s,l∈z00 ts→(z0f l ts').isSome=true then .ex d {σ:=rpO (fun l=>z0f l ts') s.σ,tm:=rpO (fun l=>z0f l ts') s.tm,n:=n'} else .no
 | .no=> .no
noncomputable def z1R(f:FM)(ms:List (M D)):M D:=bd (mArgs ms) fun ts s=>z1A (f ts s.n) ts s
noncomputable def spX(G:Gx)(np:Nat)(f:FM):Sp:=fun vs H Q E=>vs.length=np∧∃ρ n ts,RDs G ρ H ts vs∧(∀i j,i<n→j<n→ρ i=ρ j→i=j)∧(∀l,l<n→∃o,H (ρ l)=some o)∧(∀l∈z00 ts,l<n)∧KD G.K H∧match f ts n with
 | .ok t ts' n'=> ∀ρ' v H',z2T G ρ n ts vs H ρ' n' ts' H'→RD G ρ' H' t v→(∀l∈labs t,l<n'∧(l<n→l∈z00 ts))→Q v H'
 | .ex d ts' n'=> ∃c,d= .exc c∧∀ρ' H' C,z2T G ρ n ts vs H ρ' n' ts' H'→G.cl c=some C→E (.ref C) none H'
 | .no=>False
section
variable{X:Cx}{G:Gx}{F:Fy}{E:L2.St→XK}{ρ:Nat→Addr}{H:Hp}{σv tv:List (Option V)}{s:Stt}{np:Nat}
theorem z5b{ts:List D}{vs:List V}{f:FM}{Q:VK}(hx:XP X G F E)(hs:F.tv0<:+tv)(hl:vs.length=np)(M:MRL G F.toFx ρ H σv tv s ts vs)(W:wM G F σv tv (z1A (f ts s.n) ts s) Q):spX G np f vs H Q (E σv):=by
 refine⟨hl,ρ,s.n,ts,M.rd,M.m.inj,M.m.dom,fun l h=>(M.lb l h).1,M.m.kd, ?_⟩
 cases e:f ts s.n with
 |no=>rw[e] at W;exact W
 |ex d ts' n'=>
  rw[e] at W
  unfold z1A at W
  dsimp only at W
  split at W
  ·rename_i et
   subst et
   obtain⟨c,rfl⟩:=hx.no _ _ W
   exact⟨c,rfl,fun ρ' H' C P hc=>hx.xw c _ W ρ' σv tv H' C hs (M.m.call0 M.rd M.lb P) hc⟩
  ·split at W
   ·rename_i hc
    obtain⟨c,rfl⟩:=hx.no _ _ W
    exact⟨c,rfl,fun ρ' H' C P hcl=>hx.xw c _ W ρ' σv tv H' C hs (M.m.call M.rd M.lb P hc) hcl⟩
   ·exact False.elim W
 |ok t ts' n'=>
  rw[e] at W
  intro ρ' v H' P rd lbt
  have own: ∀l∈labs t,F.A0 (ρ' l)∨F.H0 (ρ' l)=none:=fun l h=>by
   obtain⟨b1,b2⟩:=lbt l h
   by_cases hn:l<s.n
   ·rw[P.old l hn];exact(M.lb l (b2 hn)).2
   ·exact .inr (M.m.fresh0 (P.new l (Nat.not_lt.mp hn) b1))
  unfold z1A at W
  dsimp only at W
  split at W
  ·rename_i et
   subst et
   exact W.out (M.m.call0 M.rd M.lb P) rd fun l h=>⟨(lbt l h).1,own l h⟩
  ·split at W
   ·rename_i hc
    exact W.out (M.m.call M.rd M.lb P hc) rd fun l h=>⟨(lbt l h).1,own l h⟩
   ·exact False.elim W
theorem se_callX{e:Expr}{es:List Expr}{pos p:Pos}{k:Nat}{fa:Addr}{fd:FuncData}{ps:List Str}{x:Str}{f:FM}{ms:List (M D)}(hx:XP X G F E)(Fn:FnOk X.prog X.w X.K X.mg X.base (CX1 X.prog X.w) k fa fd ps (spX G ps.length f))(hr:Room k X.A)(hg:Gl X x)(hm:X.mg x=some (.ref fa))(hkp:PySem.W.keepIn X.K (.ref fa)=true)(hb:z1S X.K fd ps [])
 (ha:SA X G F (e::es) (mArgs ms)) (hln:ms.length=ps.length) (hdb:(x==("__debug__" :Str))=false:=by decide) (he:starEach (e::es) X.env=(false,eval e X.env)::starEach es X.env:=by rfl) (hpl:(backTo pos (starEach es X.env)).any (·.1)=false:=by rfl):
 SE X G F (.Call (.Name x p) (e::es) [] pos) (z1R f ms):=by
 refine PE.imp0 (z7C Fn hr hg hm hkp hb hx.ps ha hdb he hpl) fun σ H Q ⟨tv,hs,ρ,s,M,W⟩=>⟨tv,hs,ρ,s,M, ?_⟩
 unfold z1R bd at W
 cases e1:mArgs ms s with
 |ex d s1=>rw[e1] at W;exact W
 |no=>rw[e1] at W;exact W
 |ok ts s1=>
  rw[e1] at W
  intro ρ1 vs H1 M1
  exact z5b hx hs (by rw[←M1.rd.length,z3p ms s ts s1 e1,hln]) M1 W
end
noncomputable def z1b(k:Nat)(tm:List (Option D)):List (Option D):=tm.drop (tm.length -k)
noncomputable def runX(nl:Nat)(mb:MS):FM:=fun ts n=>match mb {σ:=ts.map some++List.replicate (nl -ts.length) none,tm:=ts.map some,n:=n} with
 | .nx s'=>match z04 s'.tm with|some ts'=> .ok .non ts' s'.n|none=> .no
 | .rt t s'=>match z04 s'.tm with|some ts'=> .ok t ts' s'.n|none=> .no
 | .ex d s'=>match z04 (z1b ts.length s'.tm) with|some ts'=> .ex d ts' s'.n|none=> .no
 |_=> .no
noncomputable def zb5(G:Gx)(ρ:Nat→Addr)(n:Nat)(ts:List D)(vs:List V)(H:Hp)(lb: ∀l∈z00 ts,l<n)(dom: ∀l,l<n→∃o,H (ρ l)=some o)(E:XK):Fy:=
 {(z59 G ρ n ts vs H lb dom) with xw:=fun d s'=> ∃c ts',d= .exc c∧z04 (z1b ts.length s'.tm)=some ts'∧∀ρ' H' C,z2T G ρ n ts vs H ρ' s'.n ts' H'→G.cl c=some C→E (.ref C) none H'}
theorem MR.last{G:Gx}{F:Fx}{ρ:Nat→Addr}{H:Hp}{σv tv t0:List (Option V)}{s:Stt}(M:MR G F ρ H σv tv s)(h:t0<:+tv):MR G F ρ H σv t0 {s with tm:=z1b t0.length s.tm}:=by
 obtain⟨t1,rfl⟩:=h
 have hl:=M.tm.length
 have e:z1b t0.length s.tm=s.tm.drop t1.length:=by
  unfold z1b
  rw[hl,List.length_append]
  congr 1
  omega
 have sub: ∀l∈z06 (s.tm.drop t1.length),l∈z06 s.tm:=fun l hm=>by
  rw[←List.take_append_drop t1.length s.tm,z08]
  exact List.mem_append_right _ hm
 rw[e]
 refine⟨M.sl,(Sl.split t1 M.tm).2,M.inj,M.dom,fun l h=>M.lab l ?_,fun l h=>M.own l ?_,M.frm,M.kd,M.frb,M.bas⟩
 ·rcases List.mem_append.mp h with h|h
  ·exact List.mem_append_left _ h
  ·exact List.mem_append_right _ (sub l h)
 ·rcases List.mem_append.mp h with h|h
  ·exact List.mem_append_left _ h
  ·exact List.mem_append_right _ (sub l h)
theorem fn_X{G:Gx}{P:Program}{w:World}{K:PySem.W.Frag}{mg:Str→Option Value}{base:Heap}{x qual:Str}{st:Stmt}{fa:Addr}{fd:FuncData}{N ps:List Str}{k:Nat}{mb:MS}(Fn:Fun K x qual st fa fd)(S:z0w N ps (z01 st))(hG:G.K=K)
 (hb: ∀(cdv:Value) (A:Around) (outer:List Env) (s:Shared) (H:Hp) (E:XK) (F:Fy),Room k (A.deeper (envOfC qual (z01 st) s.heap.objs.size fa cdv))→XP (cxOf (CX1 P w) P w K mg base N qual (z01 st) fa cdv A outer s H E) G F (fun _=>E)→z2F (cxOf (CX1 P w) P w K mg base N qual (z01 st) fa cdv A outer s H E) (fun _=>E)→SSs (cxOf (CX1 P w) P w K mg base N qual (z01 st) fa cdv A outer s H E) G F (z0m st) mb):
 FnOk P w K mg base (CX1 P w) (k+1) fa fd ps (spX G ps.length (runX N.length mb)):=by
 obtain⟨oc,od,kV,doc,pm,an,cdv,ct,osl,rfl,lk,hcd⟩:=Fn.ex
 refine zal lk hcd S (fun vs H Q E h=>h.1) fun A outer s H vs Q E hr h=> ?_
 obtain⟨hl,ρ,n,ts,r,inj,dom,lb,kd,W⟩:=h
 have hlen:=r.length
 have hX:XP (cxOf (CX1 P w) P w K mg base N qual (z01 st) fa cdv A outer s H E) G (zb5 G ρ n ts vs H lb dom E) (fun _=>E):=by
  refine⟨fun pins σ H1 s1 e s2 I h=>z3S pins σ H1 s1 e s2 I h,fun c s' ⟨c',ts',e1,e2,q⟩ ρ' σv tv H' C hs M hc=> ?_,fun d s' ⟨c,ts',e1,_⟩=>⟨c,e1⟩⟩
  cases e1
  have M2:MR G (z59 G ρ n ts vs H lb dom).toFx ρ' H' σv (vs.map some) {s' with tm:=z1b ts.length s'.tm}:=by
   have:=MR.last (t0:=vs.map some) M hs
   rw[List.length_map,←hlen] at this
   exact this
  obtain⟨P,_⟩:=z1y inj M2 e2
  exact q ρ' H' C P hc
 have hR:z2F (cxOf (CX1 P w) P w K mg base N qual (z01 st) fa cdv A outer s H E) (fun _=>E):=fun pins σ H1 s1 h' e C args I hm hE=>zaY I hm hE
 refine⟨_,hb cdv A outer s H E (zb5 G ρ n ts vs H lb dom E) hr hX hR,vs.map some,List.suffix_refl _,ρ,{σ:=ts.map some++List.replicate (N.length -ts.length) none,tm:=ts.map some,n:=n}, ?_, ?_⟩
 ·obtain⟨r1,r2⟩:=RDs.sl r
  have sub: ∀l∈z0v {σ:=ts.map some++List.replicate (N.length -ts.length) none,tm:=ts.map some,n:=n},l∈z00 ts:=fun l h=>by
   rcases List.mem_append.mp h with h|h
   ·have h:l∈z06 (ts.map some++List.replicate (N.length -ts.length) none):=h
    rw[z08] at h
    rcases List.mem_append.mp h with h|h
    ·rw[←r2];exact h
    ·exact absurd h (z1x _)
   ·rw[←r2];exact h
  refine⟨?_,r1,inj,dom,fun l h=>lb l (sub l h),fun l h=> .inl ⟨l,sub l h,rfl⟩,fun a o e=>⟨⟨o,e⟩,fun _=>e⟩,kd,fun l hl z=>z.2 l hl rfl,⟨Nat.le_refl _,fun l _=>rfl⟩⟩
  show Sl G ρ H _ (vs.map some++List.replicate (N.length -vs.length) none)
  rw[←hlen]
  exact r1.append (Sl.none_map _)
 ·unfold runX at W
  cases e:mb {σ:=ts.map some++List.replicate (N.length -ts.length) none,tm:=ts.map some,n:=n} with
  |nx s'=>
   simp only[e] at W
   cases ea:z04 s'.tm with
   |none=>simp only[ea] at W
   |some ts'=>
    simp only[ea] at W
    intro ρ' σv' H' M
    obtain⟨P,_⟩:=z1y (lb:=lb) (dom:=dom) inj M ea
    exact W ρ' .non H' P (by simp only[RD]) fun l h=>by simp[labs] at h
  |rt t s'=>
   simp only[e] at W
   cases ea:z04 s'.tm with
   |none=>simp only[ea] at W
   |some ts'=>
    simp only[ea] at W
    intro ρ' σv' v H' M
    obtain⟨P,own⟩:=z1y (lb:=lb) (dom:=dom) inj M.m ea
    exact W ρ' v H' P M.rd1 fun l h=>⟨(M.lb1 l h).1,own l (M.lb1 l h).1 (M.lb1 l h).2⟩
  |bk s'=>simp only[e] at W
  |ct s'=>simp only[e] at W
  |ex d s'=>
   simp only[e] at W
   cases ea:z04 (z1b ts.length s'.tm) with
   |none=>simp only[ea] at W
   |some ts'=>
    simp only[ea] at W
    obtain⟨c,e1,q⟩:=W
    exact⟨c,ts',e1,ea,q⟩
  |no=>simp only[e] at W
noncomputable def sTry(k:Str→Bool)(ie:Nat)(mb mh:MS):MS:=fun s=>match mb s with
 | .ex (.exc c) s'=>if k c then(match mh {σ:=s'.σ.set ie (some (.exc c)),tm:=z1b s.tm.length s'.tm,n:=s'.n} with
  | .rt d s''=> .rt d s''
  |_=> .no) else .no
 | .ex _ _=> .no
 |r=>r
noncomputable def tryF(G:Gx)(F:Fy)(k:Str→Bool)(ie:Nat)(mh:MS)(tv:List (Option V))(D:Ends):Fy:=
 {F with tv0:=tv,xw:=fun d s'=> ∃c,d= .exc c∧k c=true∧wS G F tv (match mh {σ:=s'.σ.set ie (some (.exc c)),tm:=z1b tv.length s'.tm,n:=s'.n} with| .rt d s''=> .rt d s''|_=> .no) D}
section
variable{X:Cx}{G:Gx}{F:Fy}{np hpos pos:Pos}{b₀:Stmt}{suite body:List Stmt}{x n:Str}{ie:Nat}{CB:Addr}{mb mh:MS}{k:Str→Bool}
theorem ss_try(hst:X.stack=X.env::X.outer)(hfr:X.env.frame=some X.env.locals)(hex:X.ex=[])(hK:X.K=G.K)(hg:Gl X x)(hm:X.mg x=some (.ref CB))(hN:X.N.Nodup)(hi:X.N[ie]? =some n)(hloc:X.env.scope.names.lookup n=some .local)
 (hk: ∀c C,G.cl c=some C→k c=true→PySem.W.exmOne X.K (.ref C) (.ref CB)=some true)
 (hb: ∀(pl:List (Addr×Obj)) (E':Value→Shared→Prop) (F':Fy) (E:L2.St→XK),XP (Xt X pl E') G F' E→SSs (Xt X pl E') G F' body mb) (hh: ∀a,SSs (Xm X a) G F (b₀::suite) mh) (hd:(x==("__debug__" :Str))=false:=by decide):
 SS X G F (.Try body [.ExceptHandler (some (.Name x np)) (some n) (b₀::suite) hpos] [] [] pos) (sTry k ie mb mh):=by
 intro pins s σ H D I ⟨tv,hs,ρ,ms,M,W⟩
 refine wpAny_Try_except ?_
 have hlt:ms.tm.length=tv.length:=M.tm.length
 have hX:XP (Xt X (X.pn++pins) (z7D X [.ExceptHandler (some (.Name x np)) (some n) (b₀::suite) hpos] (SP X pins D))) G (tryF G F k ie mh tv D) (zb3 X.K CB ie (tS G F mh) D):=by
  refine⟨fun pins' σ' H' s' e s2 I' h=> ?_,fun c s' ⟨c',e1,hkc,q⟩ ρ' σv tv' H' C hs' M' hc=> ?_,fun d s' ⟨c,e1,_⟩=>⟨c,e1⟩⟩
  ·exact z7E hst hfr hex hg hm hN hi hloc hh hd I'.unxt h
  ·cases e1
   refine⟨hk c C hc hkc,fun a o hn hKn ho hf=>⟨tv,hs,ρ',{σ:=s'.σ.set ie (some (.exc c)),tm:=z1b tv.length s'.tm,n:=s'.n}, ?_, ?_⟩⟩
   ·have M1:MR G F.toFx ρ' H' σv tv {s' with tm:=z1b tv.length s'.tm}:=MR.last (t0:=tv) M' hs'
    have kd:KD G.K (upd H' a (z3s o)):=fun b ob q=>by
     by_cases hb:b=a
     ·subst hb;rw[←hK,hKn] at q;cases q
     ·rw[z05 hb];exact M1.kd b ob q
    have M2:=M1.same (Same.new (z3s o) hn) kd
    have rd:RD G ρ' (upd H' a (z3s o)) (.exc c) (.ref a):=by
     simp only[RD]
     exact⟨a,o,C,rfl,hc,ho,hf,z09⟩
    have M3:=MRL.setS ie (⟨M2,RDs.one rd,fun l hl=>by simp[z00,labs] at hl⟩:MRL G F.toFx ρ' (upd H' a (z3s o)) σv tv {s' with tm:=z1b tv.length s'.tm} [.exc c] [.ref a])
    exact M3.m
   ·revert q
    cases mh {σ:=s'.σ.set ie (some (.exc c)),tm:=z1b tv.length s'.tm,n:=s'.n} with
    |rt d s''=>exact fun q=>q
    |nx s''=>exact fun q=>q.elim
    |bk s''=>exact fun q=>q.elim
    |ct s''=>exact fun q=>q.elim
    |ex d s''=>exact fun q=>q.elim
    |no=>exact fun q=>q.elim
 have W':wS G (tryF G F k ie mh tv D) tv (mb ms) D:=by
  unfold sTry at W
  cases e:mb ms with
  |nx s'=>rw[e] at W;exact W
  |rt d s'=>rw[e] at W;exact W
  |bk s'=>rw[e] at W;exact W
  |ct s'=>rw[e] at W;exact W
  |no=>rw[e] at W;exact W
  |ex d s'=>
   rw[e] at W
   cases d with
   |exc c=>
    dsimp only at W
    by_cases hkc:k c=true
    ·rw[if_pos hkc,hlt] at W;exact⟨c,rfl,hkc,W⟩
    ·rw[if_neg hkc] at W;exact False.elim W
   |_=>exact False.elim W
 refine wpAny_mono (hb (X.pn++pins) (z7D X [.ExceptHandler (some (.Name x np)) (some n) (b₀::suite) hpos] (SP X pins D)) (tryF G F k ie mh tv D) _ hX [] s σ H D I.xt ⟨tv,List.suffix_refl _,ρ,ms,M,W'⟩) (fun f s1 q=> ?_) fun _ _ z=>z
 cases f with
 |next=>obtain⟨σ',H',I',q⟩:=q;exact wpAny_execs_nil ⟨σ',H',I'.unxt,q⟩
 |brk=>obtain⟨σ',H',I',q⟩:=q;exact⟨σ',H',I'.unxt,q⟩
 |cont=>obtain⟨σ',H',I',q⟩:=q;exact⟨σ',H',I'.unxt,q⟩
 |ret u=>obtain⟨v,σ',H',I',r,q⟩:=q;exact⟨v,σ',H',I'.unxt,r,q⟩
noncomputable def mIsX(tb:Str→Option Bool)(m:M D):M D:=bd m fun d=>match d with
 | .exc c=>(match tb c with|some b=>rt (.bool b)|none=>fl)
 |_=>fl
theorem se_isX1{p:Pos}{x y:Expr}{m:M D}{c:V}{tb:Str→Option Bool}(hK:X.K=G.K)(hc:clsV c=true)(ht: ∀r C b,G.cl r=some C→tb r=some b→XCls X.K C∧PySem.W.kitOne X.K (.ref C) (cvV c)=some b)(hgl:Gl X "isinstance")(hm:X.mg "isinstance" =none)(ha:SE X G F x m)(hy:PE X y (tC c))
 (he:starEach [x,y] X.env=(false,eval x X.env)::starEach [y] X.env:=by rfl) (he2:starEach [y] X.env=(false,eval y X.env)::starEach [] X.env:=by rfl) (hpl:(backTo pos (starEach [y] X.env)).any (·.1)=false:=by rfl):SE X G F (.Call (.Name "isinstance" p) [x,y] [] pos) (mIsX tb m):=by
 refine PE.imp hK (z1V (z6d (c:=c) hc) hgl hm PyProof.Rows.Boot.«isinstance» (z0a ha (z0a hy z1O he2) he) (by decide) (by decide) he hpl) fun σ H Q ⟨tv,h⟩=>⟨tv,(z3m h).mono fun v H1 ⟨ρ1,s1,t,M1,W⟩=> ?_⟩
 cases t with
 |exc r=>
  have h1:=M1.rd1
  simp only[RD] at h1
  obtain⟨a,o,C,e,hcl,ho,hf,hH⟩:=h1
  cases e
  cases eb:tb r with
  |none=>simp only[eb] at W;exact False.elim W
  |some b=>
   simp only[eb] at W
   obtain⟨z1,z2⟩:=ht r C b hcl eb
   exact⟨a,o,C,b,rfl,hH,ho,z1,z2,fun _=>W.flat M1.m rfl⟩
 |_=>exact False.elim W
theorem se_isXT{p:Pos}{x y:Expr}{m:M D}{us:List Value}{tb:Str→Option Bool}(hK:X.K=G.K)(ht: ∀r C b,G.cl r=some C→tb r=some b→XCls X.K C∧PySem.W.kitAny X.K (.ref C) us=some b)(hgl:Gl X "isinstance")(hm:X.mg "isinstance" =none)(ha:SE X G F x m)(hy:PE X y (tCls us))
 (he:starEach [x,y] X.env=(false,eval x X.env)::starEach [y] X.env:=by rfl) (he2:starEach [y] X.env=(false,eval y X.env)::starEach [] X.env:=by rfl) (hpl:(backTo pos (starEach [y] X.env)).any (·.1)=false:=by rfl):SE X G F (.Call (.Name "isinstance" p) [x,y] [] pos) (mIsX tb m):=by
 refine PE.imp hK (z1V (z6e (us:=us)) hgl hm PyProof.Rows.Boot.«isinstance» (z0a ha (z0a hy z1O he2) he) (by decide) (by decide) he hpl) fun σ H Q ⟨tv,h⟩=>⟨tv,(z3m h).mono fun v H1 ⟨ρ1,s1,t,M1,W⟩=> ?_⟩
 cases t with
 |exc r=>
  have h1:=M1.rd1
  simp only[RD] at h1
  obtain⟨a,o,C,e,hcl,ho,hf,hH⟩:=h1
  cases e
  cases eb:tb r with
  |none=>simp only[eb] at W;exact False.elim W
  |some b=>
   simp only[eb] at W
   obtain⟨z1,z2⟩:=ht r C b hcl eb
   intro q hq
   have sm:=Same.new (clO q us) hq
   exact⟨a,o,C,q,b,rfl,sm _ _ hH,ho,z1,z09,z2,fun k=>W.flat (M1.m.same sm k) rfl⟩
 |_=>exact False.elim W
end
end Mi
namespace Mi
open PySem L2 PySem.Spec
inductive Al(Φ:Addr→Prop):List (Str×Addr)→Prop
 |nil:Al Φ []
 |cons {c:Str} {a:Addr} {l:List (Str×Addr)}:Φ a→Al Φ l→Al Φ ((c,a)::l)
theorem Al.at{Φ:Addr→Prop}{l:List (Str×Addr)}(h:Al Φ l){c:Str}{a:Addr}(e:l.lookup c=some a):Φ a:=by
 induction h with
 |nil=>cases e
 | @cons c' a' l h _ ih=>
  rw[List.lookup_cons] at e
  cases q:c==c' with
  |true=>rw[q] at e;cases e;exact h
  |false=>rw[q] at e;exact ih e
inductive Al2{β:Type}(Φ:Addr→β→Prop):List (Str×Addr)→List (Str×β)→Prop
 |nil:Al2 Φ [] []
 |cons {c:Str} {a:Addr} {b:β} {l:List (Str×Addr)} {r:List (Str×β)}:Φ a b→Al2 Φ l r→Al2 Φ ((c,a)::l) ((c,b)::r)
 |skip {c:Str} {a:Addr} {l:List (Str×Addr)} {r:List (Str×β)}:r.lookup c=none→Al2 Φ l r→Al2 Φ ((c,a)::l) r
theorem Al2.at{β:Type}{Φ:Addr→β→Prop}{l:List (Str×Addr)}{r:List (Str×β)}(h:Al2 Φ l r): ∀{c:Str} {a:Addr} {b:β},l.lookup c=some a→r.lookup c=some b→Φ a b:=by
 induction h with
 |nil=>intro c a b e;cases e
 | @cons c' a' b' l r h _ ih=>
  intro c a b e e2
  rw[List.lookup_cons] at e e2
  cases q:c==c' with
  |true=>rw[q] at e e2;cases e;cases e2;exact h
  |false=>rw[q] at e e2;exact ih e e2
 | @skip c' a' l r hn _ ih=>
  intro c a b e e2
  rw[List.lookup_cons] at e
  cases q:c==c' with
  |true=>rw[beq_iff_eq] at q;subst q;rw[hn] at e2;cases e2
  |false=>rw[q] at e;exact ih e e2
theorem z1G: ∀{l:List (Str×Addr)} {c:Str} {a:Addr},l.lookup c=some a→a∈l.map (·.2)
 |(c',a')::l,c,a,e=>by
  rw[List.lookup_cons] at e
  cases q:c==c' with
  |true=>rw[q] at e;cases e;exact List.mem_cons_self ..
  |false=>rw[q] at e;exact List.mem_cons_of_mem _ (z1G e)
theorem z2G: ∀{l:List (Str×Addr)},(l.map (·.2)).Nodup→∀{c c':Str} {a:Addr},l.lookup c=some a→l.lookup c'=some a→c=c'
 |(k,v)::l,nd,c,c',a,e,e'=>by
  rw[List.map_cons,List.nodup_cons] at nd
  rw[List.lookup_cons] at e e'
  cases q:c==k with
  |true=>
   rw[q] at e;cases e
   cases q':c'==k with
   |true=>rw[beq_iff_eq] at q q';rw[q,q']
   |false=>rw[q'] at e';exact absurd (z1G e') nd.1
  |false=>
   rw[q] at e
   cases q':c'==k with
   |true=>rw[q'] at e';cases e';exact absurd (z1G e) nd.1
   |false=>rw[q'] at e';exact z2G nd.2 e e'
noncomputable def NSq(K:PySem.W.Frag)(a:Addr):Prop:= ∃o,K.lookup a=some o∧∀its n,o.data≠ .seq its n
theorem z8S{K:PySem.W.Frag}{C:Addr}{bm:List Value}{i:String}(q:PySem.W.excIn K C bm i=true):NSq K C:=by
 unfold PySem.W.excIn at q
 split at q
 ·rename_i dd cd sl ho
  exact⟨_,ho,fun its n z=>by cases z⟩
 ·cases q
noncomputable def mkG(K:PySem.W.Frag)(l:List (Str×Addr))(nd:(l.map (·.2)).Nodup)(ok:Al (NSq K) l):Gx:=⟨K,fun c=>l.lookup c,fun _ _ _ h h'=>z2G nd h h',fun _ _ h=>ok.at h⟩
noncomputable def mFnv(c:Str):M D:=rt (.fn c)
noncomputable def z87(i:Nat)(tb:Str→Option FM)(ms:List (M D)):M D:=bd (mVar i) fun d=>match d with
 | .fn c=>(match tb c with|some f=>z1R f ms|none=>fl)
 |_=>fl
section
variable{X:Cx}{G:Gx}{F:Fy}{E:L2.St→XK}
structure FnV(X:Cx)(G:Gx)(np:Nat)(a:Addr)(f:FM):Prop where
 ex: ∃k fd ps,ps.length=np∧FnOk X.prog X.w X.K X.mg X.base (CX1 X.prog X.w) k a fd ps (spX G np f)∧Room k X.A∧PySem.W.keepIn X.K (.ref a)=true∧z1S X.K fd ps []
end
end Mi
namespace Mi
open PySem L2 PySem.Spec
open PyProof.Rows (envOfC)
section
variable{G:Gx}{ρ ρ':Nat→Addr}{H H':Hp}
variable{F:Fy}{σv tv:List (Option V)}{s:Stt}{np:Nat}
end
section
variable{X:Cx}{G:Gx}{F:Fy}
end
end Mi
namespace Mi
open PySem L2 PySem.Spec
noncomputable def z5c:D→Option Key
 | .int i=>some (.inl i)
 | .str x=>some (.inr x)
 |_=>none
noncomputable def z1o:List D→Option (List Key)
 |[]=>some []
 |d::ds=>match z5c d with
  |some k=>match z1o ds with
   |some ks=>some (k::ks)
   |none=>none
  |none=>none
noncomputable def tkey:D→Option (List Key)
 | .tup ds=>z1o ds
 |_=>none
noncomputable def isT:List D→Bool
 | .non::_=>false
 |_=>true
section
variable{G:Gx}{ρ:Nat→Addr}{H:Hp}
theorem z7H{d:D}{v:V}{k:Key}(h:RD G ρ H d v)(e:z5c d=some k):v=kV k∧d=keyD k:=by
 cases d<;>simp only[z5c] at e<;>cases e<;>(simp only[RD] at h;exact⟨h,rfl⟩)
theorem z3t: ∀{ds:List D} {xs:List V} {ks:List Key},RDs G ρ H ds xs→z1o ds=some ks→xs=ks.map kV∧ds=ks.map keyD
 |[],xs,ks,h,e=>by simp only[RDs] at h;simp only[z1o] at e;cases e;exact⟨h,rfl⟩
 |d::ds,xs,ks,h,e=>by
  simp only[RDs] at h
  obtain⟨x,r,rfl,h1,h2⟩:=h
  simp only[z1o] at e
  cases e1:z5c d with
  |none=>rw[e1] at e;cases e
  |some k=>
   rw[e1] at e
   cases e2:z1o ds with
   |none=>simp only[e2] at e;cases e
   |some ks'=>
    simp only[e2] at e
    cases e
    obtain⟨a1,a2⟩:=z7H h1 e1
    obtain⟨b1,b2⟩:=z3t h2 e2
    rw[a1,b1,a2,b2]
    exact⟨rfl,rfl⟩
theorem z8T{t:D}{v:V}{k:List Key}(h:RD G ρ H t v)(e:tkey t=some k): ∃b,v= .ref b∧H b=some (.tup (k.map kV))∧t=dkD k:=by
 cases t<;>simp only[tkey] at e<;>try cases e
 simp only[RD] at h
 obtain⟨a,xs,e1,s,r⟩:=h
 obtain⟨b1,b2⟩:=z3t r e
 exact⟨a,e1,b1▸s,by rw[b2];rfl⟩
theorem z2H: ∀k:List Key,z1o (k.map keyD)=some k
 |[]=>rfl
 |k::ks=>by
  simp only[List.map_cons,z1o]
  have:z5c (keyD k)=some k:=by cases k<;>rfl
  rw[this,z2H ks]
theorem z6f(k:List Key):tkey (dkD k)=some k:=z2H k
noncomputable def rdD:D→Option (List D×List D)
 | .dct _ ks vs=>if isT ks=true then some (ks,vs) else none
 | .fdc ks vs=>some (ks,vs)
 |_=>none
theorem RD.rdq{t:D}{ks vs:List D}{v:V}(h:RD G ρ H t v)(e:rdD t=some (ks,vs)): ∃a kvs,v= .ref a∧Rd H a (.dT kvs)∧ks=kvs.map (fun p:List Key×V=>dkD p.1)∧RDs G ρ H vs (kvs.map (·.2))∧∀l∈z00 vs,l∈labs t:=by
 cases t<;>simp only[rdD] at e<;>try cases e
 ·rename_i l ks' vs'
  by_cases hT:isT ks'=true
  ·rw[if_pos hT] at e;cases e
   simp only[RD] at h
   obtain⟨e,⟨kvs,s,s2,r⟩|⟨kvs,s,s2,r⟩⟩:=h
   ·rw[s2] at hT;cases hT
   ·exact⟨ρ l,kvs,e, .inl s,s2,r,fun j hj=>by simp only[labs];exact List.mem_cons_of_mem _ (List.mem_append_right _ hj)⟩
  ·rw[if_neg hT] at e;cases e
 ·simp only[RD] at h
  obtain⟨a,o,kvs,e,s,s2,r⟩:=h
  exact⟨a,kvs,e, .inr ⟨o,s⟩,s2,r,fun j hj=>by simp only[labs];exact hj⟩
theorem RD.dctq{l:Nat}{ks vs:List D}{v:V}(h:RD G ρ H (.dct l ks vs) v)(hn:isT ks=true):v= .ref (ρ l)∧∃kvs:List (List Key×V),H (ρ l)=some (.dT kvs)∧ks=kvs.map (fun p=>dkD p.1)∧RDs G ρ H vs (kvs.map (·.2)):=by
 simp only[RD] at h
 obtain⟨e,⟨kvs,s,s2,r⟩|h⟩:=h
 ·rw[s2] at hn;cases hn
 ·exact⟨e,h⟩
noncomputable def z6g(ks:List D)(k:List Key):List D:=if(ks.any fun d=>decide (tkey d=some k))=true then ks else ks++[dkD k]
noncomputable def z3T(ks vs:List D)(k:List Key)(v:D):List D:=if(ks.any fun d=>decide (tkey d=some k))=true then List.zipWith (fun d w=>if tkey d=some k then v else w) ks vs else vs++[v]
theorem zb6{k:List Key}(kvs:List (List Key×V)):((kvs.map fun p=>dkD p.1).any fun d=>decide (tkey d=some k))=kvs.any fun kv=>decide (kv.1=k):=by
 rw[List.any_map]
 congr 1
 funext p
 simp only[Function.comp,z6f,Option.some.injEq]
theorem z3U{k:List Key}{t:D}{v:V}(h:RD G ρ H t v): ∀(kvs:List (List Key×V)) (vs:List D),RDs G ρ H vs (kvs.map (·.2))→
 RDs G ρ H (List.zipWith (fun d w=>if tkey d=some k then t else w) (kvs.map fun p=>dkD p.1) vs) ((kvs.map (fun kv=>if kv.1=k then(kv.1,v) else kv)).map (·.2))
 |[],[],_=>by simp[RDs]
 |[],_::_,h=>by simp only[List.map_nil,RDs] at h;obtain⟨_,_,e,_⟩:=h;cases e
 |p::kvs,[],h=>by simp only[List.map_cons,RDs] at h;cases h
 |p::kvs,w::vs,h'=>by
  simp only[List.map_cons,RDs] at h'
  obtain⟨x,r,e1,h1,h2⟩:=h'
  cases e1
  simp only[List.map_cons,List.zipWith_cons_cons,RDs,z6f,Option.some.injEq]
  by_cases hk:p.1=k
  ·rw[if_pos hk,if_pos hk];exact⟨_,_,rfl,h,z3U h kvs vs h2⟩
  ·rw[if_neg hk,if_neg hk];exact⟨_,_,rfl,h1,z3U h kvs vs h2⟩
theorem zb7{k:List Key}{t:D}{v:V}{kvs:List (List Key×V)}{vs:List D}(h:RD G ρ H t v)(r:RDs G ρ H vs (kvs.map (·.2))):
 z6g (kvs.map fun p=>dkD p.1) k=(putK kvs k v).map (fun p=>dkD p.1)∧RDs G ρ H (z3T (kvs.map fun p=>dkD p.1) vs k t) ((putK kvs k v).map (·.2)):=by
 unfold z6g z3T putK
 rw[zb6]
 cases e:kvs.any fun kv=>decide (kv.1=k) with
 |true=>
  simp only[if_true]
  refine⟨?_,z3U h kvs vs r⟩
  rw[List.map_map]
  refine List.map_congr_left fun p _=> ?_
  simp only[Function.comp]
  split<;>rfl
 |false=>
  simp only[Bool.false_eq_true,if_false,List.map_append,List.map_cons,List.map_nil]
  exact⟨trivial,r.append (RDs.one h)⟩
end
section
variable{X:Cx}{G:Gx}{F:Fy}{a b e:Expr}{ma mb:M D}{pos:Pos}
noncomputable def z5d:M D:=fun s=> .ok (.dct s.n [] []) s.nxt
theorem se_dnew(hk:X.K=G.K):SE X G F (.Dict [] [] pos) z5d:=
 PE.imp hk z7j fun σ H Q ⟨tv,hs,ρ,s,M,W⟩ p hp k=>by
  refine wM.out (ρ:=ext ρ s.n p) W (M.new hp k) ?_ fun l hl=> ?_
  ·simp only[RD]
   rw[z0x]
   exact⟨rfl, .inr ⟨[],z09,rfl,by simp[RDs]⟩⟩
  ·simp only[labs,z00,List.append_nil,List.mem_singleton] at hl
   rw[hl]
   exact⟨Nat.lt_succ_self _,by rw[z0x];exact .inr (M.fresh0 hp)⟩
noncomputable def z1U(o i v:D):MS:=fun s=>match o with
 | .dct l ks vs=>match tkey i with
  |some k=>if isT ks=true∧ks.length<sizeLine∧labs v=[]∧z00 vs=[] then .nx (s.put l (.dct l (z6g ks k) (z3T ks vs k v))) else .no
  |none=> .no
 |_=> .no
theorem z4H: ∀k:List Key,z00 (k.map keyD)=[]
 |[]=>rfl
 |k::ks=>by simp only[List.map_cons,z00,z4H ks];cases k<;>rfl
theorem z2W: ∀kvs:List (List Key×V),z00 (kvs.map fun p=>dkD p.1)=[]
 |[]=>rfl
 |p::kvs=>by
  have e:labs (dkD p.1)=[]:=z4H p.1
  simp only[List.map_cons,z00,e,z2W kvs];rfl
theorem z0E: ∀{ds:List D},(∀d∈ds,labs d=[])→z00 ds=[]
 |[],_=>rfl
 |d::ds,h=>by simp only[z00,h d (List.mem_cons_self ..),z0E fun x hx=>h x (List.mem_cons_of_mem _ hx)];rfl
theorem z3u{ds:List D}(h:z00 ds=[]): ∀d∈ds,labs d=[]:=fun d hd=>by
 cases e:labs d with
 |nil=>rfl
 |cons l r=>exact absurd (labsL_mem hd l (by rw[e];exact List.mem_cons_self ..)) (by rw[h];exact List.not_mem_nil)
theorem z4I{ks vs:List D}{k:List Key}{v:D}(hv:labs v=[])(h:z00 vs=[]):z00 (z3T ks vs k v)=[]:=by
 have h':=z3u h
 unfold z3T
 split
 ·refine z0E fun d hd=> ?_
  obtain⟨i,hi,e⟩:=List.getElem_of_mem hd
  rw[List.getElem_zipWith] at e
  subst e
  split
  ·exact hv
  ·exact h' _ (List.getElem_mem _)
 ·refine z0E fun d hd=> ?_
  rcases List.mem_append.mp hd with q|q
  ·exact h' d q
  ·rw[List.mem_singleton.mp q];exact hv
theorem z8U{ρ:Nat→Addr}{s:Stt}{t1 t2 t3:D}{v o i:V}{H:Hp}{σv tv:List (Option V)}{Dd:Ends}(M:MRL G F.toFx ρ H σv tv s [t1,t2,t3] [v,o,i])(W:wS G F tv (z1U t2 t3 t1 s) Dd): ∃a H4,o= .ref a∧DPut H a i v H4∧Dd.nx σv H4:=by
 have h:=M.rd
 simp only[RDs] at h
 obtain⟨_,_,e,h1,_,_,e2,h2,_,_,e3,h3,_⟩:=h
 cases e;cases e2;cases e3
 have b2:LB F.toFx ρ s.n (labs t2):=fun l h=>M.lb l (by simp only[z00];exact List.mem_append_right _ (List.mem_append_left _ h))
 unfold z1U at W
 cases t2 with
 |dct l ks vs=>
  dsimp only at W
  cases ek:tkey t3 with
  |none=>rw[ek] at W;exact False.elim W
  |some k=>
   rw[ek] at W
   dsimp only at W
   by_cases hc:isT ks=true∧ks.length<sizeLine∧labs t1=[]∧z00 vs=[]
   ·rw[if_pos hc] at W
    obtain⟨hT,hz,hv,hvs⟩:=hc
    obtain⟨rfl,kvs,hx,rfl,r⟩:=h2.dctq hT
    obtain⟨b,rfl,hb,_⟩:=z8T h3 ek
    have bl:=b2 l (by simp only[labs];exact List.mem_cons_self ..)
    have st:z0H H (upd H (ρ l) (.dT (putK kvs k v))):=
     ⟨fun b ys q=>by rw[z05 (z3J q hx (by intro z;cases z))];exact q,fun b o u q=>by rw[z05 (z3J q hx (by intro z;cases z))];exact q⟩
    have pr:=zb7 (k:=k) h1 r
    refine⟨ρ l,_,rfl,DPut.t hx hb (by simpa using hz),W ρ σv _ (M.m.put2 bl.1 bl.2 st (z84 M.m.kd hx) ?_ fun j hj=> ?_)⟩
    ·simp only[RD]
     refine⟨trivial, .inr ⟨putK kvs k v,z09,pr.1, ?_⟩⟩
     exact RDs.stay st _ _ pr.2 fun j hj=>by rw[z4I hv hvs] at hj;cases hj
    ·simp only[labs,pr.1,z2W,z4I hv hvs,List.append_nil,List.mem_singleton] at hj
     rw[hj];exact bl
   ·rw[if_neg hc] at W;exact False.elim W
 |_=>exact False.elim W
theorem ss_dput{ob ix:Expr}{pos tpos:Pos}{mo mi me:M D}(hu:X.A.units+64<cLine)(he:SE X G F e me)(ho:SE X G F ob mo)(hi:SE X G F ix mi)(hs:swapsWith e (some (.Subscript ob ix tpos)) pos.line X.env=pure false:=by rfl):
 SS X G F (.Assign [.Subscript ob ix tpos] e pos) (mTri me mo mi z1U):=by
 refine PS.imp0 (z8w (show X.A.units+1<cLine by omega) ho hi he hs) fun Dd σ H ⟨tv,h⟩=> ?_
 exact(z65 h).mono fun v H1 h1=>h1.mono fun o H2 h2=>h2.mono fun i H3 ⟨ρ,s,t1,t2,t3,M,W⟩=>z8U M W
end
end Mi
namespace Mi
open PySem L2 PySem.Spec
section
variable{G:Gx}{F:Fy}{ρ:Nat→Addr}{H:Hp}{σv tv:List (Option V)}{s:Stt}{a:Addr}{o:HO}{ha:F.A0 a∨F.H0 a=none}{hz: ¬F.Z a}
end
section
variable{X:Cx}{G:Gx}{F:Fy}{tg iter elt:Expr}{pos:Pos}
end
end Mi
namespace Mi
open PySem L2 PySem.Spec
section
variable{X:Cx}{G:Gx}{F:Fy}{pos:Pos}{kx vx:Expr}
end
end Mi
namespace Mi
open PySem L2
section
variable{X:Cx}{G:Gx}{F:Fy}{e a b c tg iter:Expr}{pos:Pos}
noncomputable def z6h(lo c:Int)(n:Nat):ItK:=⟨0,fun i _=>some (if i<n then some (.int (lo+(i:Int)*c)) else none),fun _=>n⟩
noncomputable def rng3(ts:List D):M ItK:=match ts with
 |[.int i, .int j, .int c]=>if Rg3 i j c then rt (z6h i c (Builtin.Range.rangeSize i j c).toNat) else fl
 |_=>fl
noncomputable def z3V(ms:List (M D)):M ItK:=bd (mArgs ms) rng3
theorem z6i{lo c:Int}{n:Nat}:ItOK G (Itr3 lo c n) (z6h lo c n) []:=by
 intro F ρ H σv tvp tv s i M
 simp only[z6h]
 by_cases h:i<n
 ·rw[if_pos h]
  refine⟨h, ?_⟩
  rintro x H' ⟨rfl,rfl⟩
  exact⟨M,RDs.one (by simp only[RD]),fun l hl=>by simp[z00,labs] at hl⟩
 ·rw[if_neg h]
  exact Nat.not_lt.mp h
theorem si_rng3{p:Pos}{ms:List (M D)}(hg:Gl X "range")(hm:X.mg "range" =none)(ha:SA X G F [a,b,c] (mArgs ms))(hs:starEach [a,b,c] X.env=[(false,eval a X.env),(false,eval b X.env),(false,eval c X.env)]:=by rfl)(hs2:starEach [b,c] X.env=[(false,eval b X.env),(false,eval c X.env)]:=by rfl):SI X G F tg (.Call (.Name "range" p) [a,b,c] [] pos) (z3V ms):=by
 refine PI.imp0 (z60 hg hm ha hs hs2) fun σ H R ⟨tv,hs,ρ,s,M,W⟩=>⟨tv,hs,ρ,s,M, ?_⟩
 unfold z3V bd at W
 cases e:mArgs ms s with
 |ex d s1=>rw[e] at W;exact W
 |no=>rw[e] at W;exact W
 |ok ts s1=>
  rw[e] at W
  intro ρ1 vs H1 M1
  unfold rng3 at W
  dsimp only at W
  split at W
  ·rename_i ts' j K s' hh
   split at hh
   ·split at hh
    ·rename_i i' j' c' hc
     cases hh
     have rd:=M1.rd
     simp only[RDs,RD] at rd
     obtain⟨_,_,rfl,rfl,_,_,rfl,rfl,_,_,rfl,rfl,rfl⟩:=rd
     exact⟨i',j',c',rfl,hc,W ρ1 H1 [] _ rfl M1.m z6i⟩
    ·cases hh
   ·cases hh
  ·rename_i hh
   split at hh
   ·split at hh<;>cases hh
   ·cases hh
  ·exact False.elim W
end
end Mi
namespace PySem
theorem z8V{prog:Program}{w:World}{d:Addr}{o:Obj}{es:Array DictEntry}{ep:Nat}(hd:(d==sysModules)=false)(hc:o.ExactDict)(hdat:o.data= .dict es ep):
 PySem.W.KdlSrc prog w "dict" d d es.size (fun i v=> ∃en,es[i]? =some en∧v=en.key) (fun h=>h.get? d=some o) where
 type:=fun s ho=>⟨o,ho,hc.1⟩
 there:=fun h ho=>⟨Heap.lt_size ho,Heap.lt_size ho⟩
 keep:=fun h h' ho k=>k d (.inl rfl) o ho
 notList:=by decide
 notTuple:=by decide
 hint:=fun _ _ _ _ ho hq=>PySem.W.kdl_hint_dict ⟨o,ho,hc.1⟩ hq
 iter:=fun A s hh ho=>by
  have hne:d≠s.heap.objs.size:=Nat.ne_of_lt (Heap.lt_size ho)
  refine⟨{cls:= .type "dict_keyiterator",data:= .fields #[.ref d, .int 0 0, .int es.size 0, .int ep 0]},fun i h=>h.IsKeyIter s.heap.objs.size d i es.size ep∧h.get? d=some o,fun E Q hq=>z29 hd ho hc hdat hq,⟨?_, ?_, ?_, ?_, ?_⟩,⟨_,Heap.get?_push_size _ rfl,rfl,rfl⟩,Heap.get?_push_of_some _ ho⟩
  ·intro b hb;simp only[List.mem_singleton] at hb;subst hb;simp
  ·rintro i h h' ⟨st,e⟩ k
   exact⟨st.at fun o e=>k _ (by simp) o e,k d (by simp) _ e⟩
  ·rintro i s' Q E hi ⟨st,e⟩ hQ
   obtain⟨en,he⟩: ∃en,es[i]? =some en:=⟨es[i],by simp[hi]⟩
   refine z2a st e hdat he fun h' st' sb=> ?_
   exact hQ _ h' s'.toks ⟨en,he,rfl⟩ ⟨st',(sb.2 d hne).trans e⟩ fun b u hb q=>(sb.2 b (by simpa using hb)).trans q
  ·rintro s' Q E ⟨st,e⟩ hQ
   exact z2x hh st e hdat (Nat.le_refl _) fun h' eb=>hQ h' s'.toks fun b u hb q=>eb b u (by simpa using hb) q
  ·rintro i s' Q E ⟨st,e⟩ h
   exact wpAny_pyIter_keyiter st h
end PySem
namespace L2
open PySem PySem.Spec PyProof.Rows
section
variable{X:Cx}
theorem KT.keysV{H:Hp}: ∀{kvs:List (List Key×V)} {xs:List (List Key×Addr×Value)},KT H kvs xs→Paired (fun(p:List Key×V) (y:V)=> ∃b,y= .ref b∧H b=some (.tup (p.1.map kV))) kvs (xs.map fun x=>V.ref x.2.1)
 |_,_, .nil=> .nil
 |_,_, .cons h t=> .cons ⟨_,rfl,h.2.1⟩ (KT.keysV t)
theorem z3v{es:Array DictEntry}{knd:HeapKind P w (List Key)}: ∀{xs:List (List Key×Addr×Value)} {its:List Value},its=xs.map (fun x=>Value.ref x.2.1)→Vals (xs.map fun x=>V.ref x.2.1) its
 |[],_,h=>by subst h;exact .nil
 |x::xs,_,h=>by subst h;exact .cons rfl (z3v (es:=es) (knd:=knd) rfl)
noncomputable def z88(xs:List V)(H:Hp)(Q:VK):Prop:= ∃p kvs,xs=[.ref p]∧Rd H p (.dT kvs)∧∀l ys,H l=none→Paired (fun(p:List Key×V) (y:V)=> ∃b,y= .ref b∧H b=some (.tup (p.1.map kV))) kvs ys→Q (.ref l) (upd H l (.lst ys))
theorem z3W(hh:X.A.handled=none):CallR X (.type "list") z88:=by
 intro pins s σ H xs us Q I r h
 obtain⟨p,kvs,rfl,hd,q⟩:=h
 obtain⟨u,rfl,rx⟩:=z4U r
 cases rx
 obtain⟨z,y,xs,rk,o,es,ep,e',c,d,l,nd⟩:=(show z0C X.prog X.w H s.heap p (.dT kvs) from z8v I.hok hd)
 have hl:kvs.length=xs.length:=Paired.length rk
 have hs:es.size=xs.length:=size_of_entries l
 refine PySem.W.kdl_call (z8V y c d) hh e' (by omega) fun h' tk acc' c' hk hD hacc=> ?_
 have hits:acc'.toList=xs.map (fun x=>Value.ref x.2.1):=by
  apply List.ext_getElem?
  intro j
  rw[List.getElem?_map]
  cases e:xs[j]? with
  |none=>
   have:xs.length≤j:=by rw[List.getElem?_eq_none_iff] at e;exact e
   rw[Option.map_none,List.getElem?_eq_none_iff,Array.length_toList,hacc.1];omega
  |some x=>
   have hj:j<xs.length:=by
    rcases Nat.lt_or_ge j xs.length with h|h
    ·exact h
    ·rw[List.getElem?_eq_none_iff.mpr h] at e;cases e
   have hj':j<acc'.size:=by rw[hacc.1];omega
   obtain⟨en,he,hv⟩:=hacc.2 j acc'[j] (by simp[hj'])
   have hi:=entry_at l j
   rw[e] at hi
   rw[he] at hi
   simp only[Option.map_some,Option.some.injEq] at hi
   rw[Array.getElem?_toList,Array.getElem?_eq_getElem hj',hv,hi]
   rfl
 have rv:Vals (xs.map fun x=>V.ref x.2.1) acc'.toList:=z3v (es:=es) (knd:=tupleKind (z0t X.prog X.w)) hits
 exact⟨.ref s.heap.objs.size,_,I.laid (t':=tk) hk (Nat.le_refl _) (show z0C X.prog X.w _ h' _ (.lst (xs.map fun x=>V.ref x.2.1)) from⟨by rw[List.length_map];omega,acc'.toList,c',rv,by simpa using hD⟩),rfl,q _ _ (I.hok.fresh (Nat.le_refl _)) (KT.keysV rk)⟩
end
end L2
namespace Mi
open PySem L2 PySem.Spec
section
variable{X:Cx}{G:Gx}{F:Fy}
noncomputable def z3w(ts:List D):M D:=fun s=>match ts with
 |[t]=>match rdD t with
  |some (ks,_)=> .ok (.lst s.n ks) s.nxt
  |none=> .no
 |_=> .no
theorem z2X{ρ:Nat→Addr}{H:Hp}: ∀k:List Key,RDs G ρ H (k.map keyD) (k.map kV)
 |[]=>by simp only[List.map_nil,RDs]
 | .inl i::k=>by simp only[List.map_cons,RDs];exact⟨_,_,rfl,by simp only[keyD,RD];rfl,z2X k⟩
 | .inr i::k=>by simp only[List.map_cons,RDs];exact⟨_,_,rfl,by simp only[keyD,RD];rfl,z2X k⟩
theorem z6j{ρ:Nat→Addr}{H:Hp}: ∀{kvs:List (List Key×V)} {ys:List V},Paired (fun(p:List Key×V) (y:V)=> ∃b,y= .ref b∧H b=some (.tup (p.1.map kV))) kvs ys→RDs G ρ H (kvs.map fun p=>dkD p.1) ys
 |_,_, .nil=>by simp only[List.map_nil,RDs]
 |_,_, .cons ⟨b,e,hb⟩ t=>by
  simp only[List.map_cons,RDs]
  exact⟨_,_,rfl,by simp only[dkD,RD];exact⟨b,_,e,hb,z2X _⟩,z6j t⟩
theorem z7I:z0R G F z88 z3w:=by
 intro ρ s ts vs H σv tv Q M W
 unfold z3w at W
 split at W
 ·rename_i t
  obtain⟨v,rfl,h,lb⟩:=M.one
  cases e:rdD t with
  |none=>rw[e] at W;exact False.elim W
  |some p=>
   obtain⟨ks,ws⟩:=p
   rw[e] at W
   obtain⟨a,kvs,rfl,hd,ek,r,sub⟩:=h.rdq e
   subst ek
   exact⟨a,kvs,rfl,hd,fun l ys hl hp k=>z1e W M.m (z6j hp) (fun j hj=>by rw[z2W] at hj;cases hj) hl k⟩
 ·exact False.elim W
theorem z7J(hk:X.K=G.K)(hd:X.A.handled=none):Cb X G F (.type "list") z3w:=⟨_,z3W hd,z7I⟩
end
end Mi
namespace My
open PySem L2 PySem.Spec PyProof.Rows Mi
@[irreducible] noncomputable def SE(X:Cx)(G:Gx)(F:Fy)(e:Expr)(m:M D):Prop:=Mi.SE X G F e m
theorem eSE(X:Cx)(G:Gx)(F:Fy)(e:Expr)(m:M D):SE X G F e m=Mi.SE X G F e m:=by unfold SE;rfl
@[irreducible] noncomputable def SA(X:Cx)(G:Gx)(F:Fy)(e:List Expr)(m:M (List D)):Prop:=Mi.SA X G F e m
theorem eSA(X:Cx)(G:Gx)(F:Fy)(e:List Expr)(m:M (List D)):SA X G F e m=Mi.SA X G F e m:=by unfold SA;rfl
@[irreducible] noncomputable def SB(X:Cx)(G:Gx)(F:Fy)(e:Expr)(m:M Bool):Prop:=Mi.SB X G F e m
theorem eSB(X:Cx)(G:Gx)(F:Fy)(e:Expr)(m:M Bool):SB X G F e m=Mi.SB X G F e m:=by unfold SB;rfl
@[irreducible] noncomputable def SW(X:Cx)(G:Gx)(F:Fy)(e:Expr)(m:M Bool):Prop:=Mi.SW X G F e m
theorem eSW(X:Cx)(G:Gx)(F:Fy)(e:Expr)(m:M Bool):SW X G F e m=Mi.SW X G F e m:=by unfold SW;rfl
@[irreducible] noncomputable def SS(X:Cx)(G:Gx)(F:Fy)(e:Stmt)(m:MS):Prop:=Mi.SS X G F e m
theorem eSS(X:Cx)(G:Gx)(F:Fy)(e:Stmt)(m:MS):SS X G F e m=Mi.SS X G F e m:=by unfold SS;rfl
@[irreducible] noncomputable def SSs(X:Cx)(G:Gx)(F:Fy)(e:List Stmt)(m:MS):Prop:=Mi.SSs X G F e m
theorem eSSs(X:Cx)(G:Gx)(F:Fy)(e:List Stmt)(m:MS):SSs X G F e m=Mi.SSs X G F e m:=by unfold SSs;rfl
@[irreducible] noncomputable def SG(X:Cx)(G:Gx)(F:Fy)(e:Expr)(m:Tg):Prop:=Mi.SG X G F e m
theorem eSG(X:Cx)(G:Gx)(F:Fy)(e:Expr)(m:Tg):SG X G F e m=Mi.SG X G F e m:=by unfold SG;rfl
@[irreducible] noncomputable def SGs(X:Cx)(G:Gx)(F:Fy)(e:List Expr)(m:List Tg):Prop:=Mi.SGs X G F e m
theorem eSGs(X:Cx)(G:Gx)(F:Fy)(e:List Expr)(m:List Tg):SGs X G F e m=Mi.SGs X G F e m:=by unfold SGs;rfl
@[irreducible] noncomputable def SI(X:Cx)(G:Gx)(F:Fy)(tg e:Expr)(m:M ItK):Prop:=Mi.SI X G F tg e m
theorem eSI(X:Cx)(G:Gx)(F:Fy)(tg e:Expr)(m:M ItK):SI X G F tg e m=Mi.SI X G F tg e m:=by unfold SI;rfl
@[irreducible] noncomputable def SO(X:Cx)(G:Gx)(F:Fy)(e:Option Expr)(m:Option (M D)):Prop:=Mi.SO X G F e m
theorem eSO(X:Cx)(G:Gx)(F:Fy)(e:Option Expr)(m:Option (M D)):SO X G F e m=Mi.SO X G F e m:=by unfold SO;rfl
@[irreducible] noncomputable def STs(X:Cx)(G:Gx)(F:Fy)(e:List Expr)(m:M Bool):Prop:=Mi.STs X G F e m
theorem eSTs(X:Cx)(G:Gx)(F:Fy)(e:List Expr)(m:M Bool):STs X G F e m=Mi.STs X G F e m:=by unfold STs;rfl
local macro_rules | `(tactic| walk_at "go") => `(tactic| (simp only [eSE, eSA, eSB, eSW, eSS, eSSs, eSG, eSGs, eSI, eSO, eSTs] at *))
set_option Elab.async false
set_option linter.all false
set_option maxRecDepth 100000
set_option maxHeartbeats 4000000
section
variable{G:Gx}{F:Fy}{ρ ρ':Nat→Addr}{H H':Hp}{σv tv:List (Option V)}{s:Stt}{t t':D}{v u:V}{ts:List D}{vs:List V}{Q:VK}
end
section
variable{X:Cx}{G:Gx}{F:Fy}{e a b c:Expr}{pos:Pos}
theorem se_var(i:Nat){x:Str}(hk:X.K=G.K)(h:PE X (.Name x pos) (tVar i)):SE X G F (.Name x pos) (mVar i):=by
 walk_at "go"
 exact Mi.se_var i hk h
theorem se_c{d:D}{v:V}(hk:X.K=G.K)(h:PE X e (tC v))(hd:cV d=some v:=by rfl):SE X G F e (mC d):=by
 walk_at "go"
 exact Mi.se_c hk h hd
end
set_option Elab.async false
set_option linter.all false
set_option maxRecDepth 100000
set_option maxHeartbeats 4000000
section
end
section
end
section
variable{G:Gx}{F:Fy}{ρ:Nat→Addr}{H H':Hp}{σv tv:List (Option V)}{s:Stt}{t t':D}{v u:V}{ts ds:List D}{vs xs:List V}{Q:VK}
section
end
end
section
variable{G:Gx}{F:Fy}
end
set_option Elab.async false
set_option linter.all false
set_option maxRecDepth 100000
set_option maxHeartbeats 4000000
section
variable{X:Cx}{G:Gx}{F:Fy}{e a b c:Expr}{pos:Pos}
theorem so_some{m:M D}(h:SE X G F e m):SO X G F (some e) (some m):=by
 walk_at "go"
 exact Mi.so_some h
theorem se_slice{lo hi:Option Expr}{p2:Pos}{m:M D}{ml mh:Option (M D)}(hk:X.K=G.K)(he:SE X G F e m)(hl:SO X G F lo ml)(hh:SO X G F hi mh):SE X G F (.Subscript e (.Slice lo hi none p2) pos) (mSl m ml mh):=by
 walk_at "go"
 exact Mi.se_slice hk he hl hh
theorem se_tup{es:List Expr}{ms:List (M D)}{x1}(hk:X.K=G.K)(h:SA X G F es (mArgs ms)):SE X G F (.Tuple es x1 pos) (mCB ms tupD):=by
 walk_at "go"
 exact Mi.se_tup hk h
theorem se_lst{es:List Expr}{ms:List (M D)}(hk:X.K=G.K)(h:SA X G F es (mArgs ms)):SE X G F (.List es pos) (mCB ms lstM):=by
 walk_at "go"
 exact Mi.se_lst hk h
theorem sb_truth{m:M D}(hk:X.K=G.K)(ha:SE X G F a m)(he: ∀whole,isTrue a X.env whole=(do let v←whole;standAt a.pos;holding [v] (truthy v)):=by intro _;rfl):SB X G F a (z1v m):=by
 walk_at "go"
 exact Mi.sb_truth hk ha he
theorem SW.sb{m:M Bool}(h:SW X G F e m):SB X G F e m:=by
 walk_at "go"
 exact Mi.SW.sb h
theorem sw_and1{m:M Bool}(h:SB X G F a m):SW X G F (.BoolOp .And [a] pos) m:=by
 walk_at "go"
 exact Mi.sw_and1 h
theorem sw_or1{m:M Bool}(h:SB X G F a m):SW X G F (.BoolOp .Or [a] pos) m:=by
 walk_at "go"
 exact Mi.sw_or1 h
theorem sw_and{rest:List Expr}{m m':M Bool}(ha:SB X G F a m)(hb:SW X G F (.BoolOp .And (b::rest) pos) m'):SW X G F (.BoolOp .And (a::b::rest) pos) (mAnd m m'):=by
 walk_at "go"
 exact Mi.sw_and ha hb
theorem sw_or{rest:List Expr}{m m':M Bool}(ha:SB X G F a m)(hb:SW X G F (.BoolOp .Or (b::rest) pos) m'):SW X G F (.BoolOp .Or (a::b::rest) pos) (mOr m m'):=by
 walk_at "go"
 exact Mi.sw_or ha hb
theorem sb_not{m:M Bool}(ha:SB X G F a m):SB X G F (.UnaryOp .Not a pos) (mNot m):=by
 walk_at "go"
 exact Mi.sb_not ha
theorem se_one{op}{m:M D}(h:SE X G F a m):SE X G F (.BoolOp op [a] pos) m:=by
 walk_at "go"
 exact Mi.se_one h
theorem se_and{rest:List Expr}{m m':M D}(ha:SE X G F a m)(hb:SE X G F (.BoolOp .And (b::rest) pos) m'):SE X G F (.BoolOp .And (a::b::rest) pos) (z54 m m'):=by
 walk_at "go"
 exact Mi.se_and ha hb
theorem se_or{rest:List Expr}{m m':M D}(ha:SE X G F a m)(hb:SE X G F (.BoolOp .Or (b::rest) pos) m'):SE X G F (.BoolOp .Or (a::b::rest) pos) (mOrV m m'):=by
 walk_at "go"
 exact Mi.se_or ha hb
theorem se_not{m:M D}(ha:SE X G F a m):SE X G F (.UnaryOp .Not a pos) (z5Q m):=by
 walk_at "go"
 exact Mi.se_not ha
end
set_option Elab.async false
set_option linter.all false
set_option maxRecDepth 100000
set_option maxHeartbeats 4000000
section
variable{X:Cx}{G:Gx}{F:Fy}{e a b c:Expr}{pos:Pos}
theorem se_isi{p:Pos}{x y:Expr}{T:String}{m:M D}(hk:X.K=G.K)(hT:T= "int" ∨T= "bool" ∨T= "tuple" ∨T= "list" ∨T= "str")(hgl:Gl X "isinstance")(hm:X.mg "isinstance" =none)(ha:SE X G F x m)(hy:PE X y (tC (.ty T)))
 (he:starEach [x,y] X.env=(false,eval x X.env)::starEach [y] X.env:=by rfl) (he2:starEach [y] X.env=(false,eval y X.env)::starEach [] X.env:=by rfl) (hpl:(backTo pos (starEach [y] X.env)).any (·.1)=false:=by rfl):SE X G F (.Call (.Name "isinstance" p) [x,y] [] pos) (mIsi T m):=by
 walk_at "go"
 exact Mi.se_isi hk hT hgl hm ha hy he he2 hpl
end
set_option Elab.async false
set_option linter.all false
set_option maxRecDepth 100000
set_option maxHeartbeats 4000000
section
end
section
variable{X:Cx}{G:Gx}{F:Fy}{e a b c:Expr}{st:Stmt}{sts rest:List Stmt}{pos:Pos}
theorem ss_nil:SSs X G F [] sNx:=by
 walk_at "go"
 exact Mi.ss_nil
theorem ss_cons{m m':MS}(h1:SS X G F st m)(h2:SSs X G F rest m'):SSs X G F (st::rest) (seqS m m'):=by
 walk_at "go"
 exact Mi.ss_cons h1 h2
theorem ss_one{m:MS}(h1:SS X G F st m):SSs X G F [st] m:=by
 walk_at "go"
 exact Mi.ss_one h1
theorem ss_expr{m:M D}(he:SE X G F e m)(hs:swapsWith e none pos.line X.env=pure false:=by rfl):SS X G F (.Expr e pos) (z2f m):=by
 walk_at "go"
 exact Mi.ss_expr he hs
theorem ss_ret{m:M D}(he:SE X G F e m):SS X G F (.Return (some e) pos) (sRet m):=by
 walk_at "go"
 exact Mi.ss_ret he
theorem ss_if{x y:List Stmt}{mc:M Bool}{m m':MS}(hc:SB X G F c mc)(ha:SSs X G F x m)(hb:SSs X G F y m'):SS X G F (.If c x y pos) (sIf mc m m'):=by
 walk_at "go"
 exact Mi.ss_if hc ha hb
theorem sg_name{i:Nat}{x:Str}{p:Pos}(h:PG X (.Name x p) (z4P i)):SG X G F (.Name x p) (.nm i):=by
 walk_at "go"
 exact Mi.sg_name h
theorem sgs_nil:SGs X G F [] []:=by
 walk_at "go"
 exact Mi.sgs_nil
theorem sgs_cons{es:List Expr}{g:Tg}{gs:List Tg}(h1:SG X G F e g)(h2:SGs X G F es gs)(hs:(assignEach (e::es) X.env).map (·.2)=assign e X.env::(assignEach es X.env).map (·.2):=by rfl):SGs X G F (e::es) (g::gs):=by
 walk_at "go"
 exact Mi.sgs_cons h1 h2 hs
theorem sg_tup{es:List Expr}{k:Nat}{gs:List Tg}(hk:X.K=G.K)(hc:X.calm=true)(h:SGs X G F es gs)(hn:(assignEach es X.env).length=gs.length:=by rfl)(hst:(assignEach es X.env).findIdx? (·.1)=none:=by rfl):SG X G F (.Tuple es k pos) (.tp gs):=by
 walk_at "go"
 exact Mi.sg_tup hk hc h hn hst
theorem ss_set{i:Nat}{x:Str}{p:Pos}{m:M D}(h: ∀{te:TE},PE X e te→PS X (.Assign [.Name x p] e pos) (tAsg te (z4P i)))(he:SE X G F e m):SS X G F (.Assign [.Name x p] e pos) (sAsg (.nm i) m):=by
 walk_at "go"
 exact Mi.ss_set h he
end
set_option Elab.async false
set_option linter.all false
set_option maxRecDepth 100000
set_option maxHeartbeats 4000000
section
variable{X:Cx}{G:Gx}{F:Fy}{e a b c tg iter:Expr}{pos:Pos}
theorem si_seq{m:M D}(hk:X.K=G.K)(h:SE X G F e m):SI X G F tg e (z0Y m):=by
 walk_at "go"
 exact Mi.si_seq hk h
theorem si_rng1{p:Pos}{ms:List (M D)}(hg:Gl X "range")(hm:X.mg "range" =none)(ha:SA X G F [a] (mArgs ms))(hs:starEach [a] X.env=[(false,eval a X.env)]:=by rfl):SI X G F tg (.Call (.Name "range" p) [a] [] pos) (z0Z ms):=by
 walk_at "go"
 exact Mi.si_rng1 hg hm ha hs
theorem si_rng2{p:Pos}{ms:List (M D)}(hg:Gl X "range")(hm:X.mg "range" =none)(ha:SA X G F [a,b] (mArgs ms))(hs:starEach [a,b] X.env=[(false,eval a X.env),(false,eval b X.env)]:=by rfl)(hs2:starEach [b] X.env=[(false,eval b X.env)]:=by rfl):SI X G F tg (.Call (.Name "range" p) [a,b] [] pos) (z3O ms):=by
 walk_at "go"
 exact Mi.si_rng2 hg hm ha hs hs2
theorem ss_for{body:List Stmt}{mi:M ItK}{g:Tg}{mb:MS}(hp:PassesOwn (model X.prog X.w) X.A X.env X.xe)(hc:X.calm=true)(hi:SI X G F tg iter mi)(hg:SG X G F tg g)(hb:SSs X G F body mb)(hst: ∀x,foldedSetIterable iter X.env x=pure x:=by intro _;rfl):SS X G F (.For tg iter body [] pos) (sFor mi g mb):=by
 walk_at "go"
 exact Mi.ss_for hp hc hi hg hb hst
end
set_option Elab.async false
set_option linter.all false
set_option maxRecDepth 100000
set_option maxHeartbeats 4000000
section
variable{X:Cx}{G:Gx}{F:Fy}{e a b c tg iter elt:Expr}{pos:Pos}
theorem sts_nil:STs X G F [] (rt true):=by
 walk_at "go"
 exact Mi.sts_nil
theorem se_comp{scope:Scope}{own frees:List Str}{ix:List Nat}{ifs:List Expr}{mi:M ItK}{g:Tg}{mt:M Bool}{me:M D}(hk:X.K=G.K)(hc:X.calm=true)(S:z1d X.env.scope scope own frees X.N ix)(hi:SI X G F tg iter mi)
 (hg: ∀(F:Fy) cl C s₀ H₀ fp pn,SG (z0X X scope own frees cl C s₀ H₀ fp pn) G F tg g) (ht: ∀(F:Fy) cl C s₀ H₀ fp pn,STs (z0X X scope own frees cl C s₀ H₀ fp pn) G F ifs mt) (he: ∀(F:Fy) cl C s₀ H₀ fp pn,SE (z0X X scope own frees cl C s₀ H₀ fp pn) G F elt me)
 (hs: ∀x,foldedSetIterable iter X.env x=pure x:=by intro _;rfl):SE X G F (.ListComp elt [⟨tg,iter,ifs,0⟩] scope pos) (z0y mi g mt me own.length ix):=by
 walk_at "go"
 exact Mi.se_comp hk hc S hi hg ht he hs
end
set_option Elab.async false
set_option linter.all false
set_option maxRecDepth 100000
set_option maxHeartbeats 4000000
section
end
section
variable{G:Gx}{ρ:Nat→Addr}{H:Hp}
section
end
section
variable(k:KD G.K H){n:Nat}(inj: ∀i j,i<n→j<n→ρ i=ρ j→i=j)
include k inj
section
end
end
end
set_option Elab.async false
set_option linter.all false
set_option maxRecDepth 100000
set_option maxHeartbeats 4000000
section
variable{G:Gx}{ρ ρ':Nat→Addr}{H H':Hp}
section
end
section
end
section
variable(k:KD G.K H){n:Nat}(inj: ∀i j,i<n→j<n→ρ i=ρ j→i=j){ts:List D}{vs:List V}(r:RDs G ρ H ts vs)(lb: ∀l∈z00 ts,l<n)
include k inj r lb
section
end
end
variable{F:Fy}{σv tv:List (Option V)}{s:Stt}{np:Nat}
theorem se_call{X:Cx}{e:Expr}{es:List Expr}{pos p:Pos}{CX:CXT}{k:Nat}{fa:Addr}{fd:FuncData}{ps:List Str}{x:Str}{E:XK}{f:FM}{ms:List (M D)}(hk:X.K=G.K)(Fn:FnOk X.prog X.w X.K X.mg X.base CX k fa fd ps (spM G ps.length f))(hr:Room k X.A)(hg:Gl X x)(hm:X.mg x=some (.ref fa))(hkp:PySem.W.keepIn X.K (.ref fa)=true)(hb:z1S X.K fd ps [])(hx:z2C CX X E)
 (ha:SA X G F (e::es) (mArgs ms)) (hln:ms.length=ps.length) (hdb:(x==("__debug__" :Str))=false:=by decide) (he:starEach (e::es) X.env=(false,eval e X.env)::starEach es X.env:=by rfl) (hpl:(backTo pos (starEach es X.env)).any (·.1)=false:=by rfl):
 SE X G F (.Call (.Name x p) (e::es) [] pos) (z0b f ms):=by
 walk_at "go"
 exact Mi.se_call hk Fn hr hg hm hkp hb hx ha hln hdb he hpl
theorem fn_M{P:Program}{w:World}{K:PySem.W.Frag}{mg:Str→Option Value}{base:Heap}{x qual:Str}{st:Stmt}{fa:Addr}{fd:FuncData}{N ps:List Str}{k:Nat}{mb:MS}(Fn:Fun K x qual st fa fd)(S:z0w N ps (z01 st))(hG:G.K=K)
 (hb: ∀(cdv:Value) (A:Around) (outer:List Env) (s:Shared) (H:Hp) (E:XK) (F:Fy),Room k (A.deeper (envOfC qual (z01 st) s.heap.objs.size fa cdv))→SSs (cxOf CX0 P w K mg base N qual (z01 st) fa cdv A outer s H E).nox G F (z0m st) mb):
 FnOk P w K mg base CX0 (k+1) fa fd ps (spM G ps.length (runF N.length mb)):=by
 walk_at "go"
 exact Mi.fn_M Fn S hG hb
end
set_option Elab.async false
set_option linter.all false
set_option maxRecDepth 100000
set_option maxHeartbeats 4000000
section
end
section
end
section
variable{G:Gx}{F:Fy}{ρ:Nat→Addr}{H:Hp}{σv tv:List (Option V)}{s:Stt}{t:D}{ts ds es:List D}{v:V}{vs xs ys:List V}{l:Nat}{Q:VK}
end
section
variable{X:Cx}{G:Gx}{F:Fy}{e o:Expr}{es:List Expr}{apos cpos:Pos}
theorem ss_setI{ob ix:Expr}{pos tpos:Pos}{mo mi me:M D}(he:SE X G F e me)(ho:SE X G F ob mo)(hi:SE X G F ix mi)(hg: ∀{to ti:TE},PE X ob to→PE X ix ti→PG X (.Subscript ob ix tpos) (gSub to ti z7g))(hs:swapsWithSole [.Subscript ob ix tpos] e pos.line X.env=pure false:=by rfl)(hw:swappedStores [.Subscript ob ix tpos] e X.env=pure none:=by rfl)
 (h1:(assignEach [.Subscript ob ix tpos] X.env).map (·.2)=[assign (.Subscript ob ix tpos) X.env]:=by rfl):SS X G F (.Assign [.Subscript ob ix tpos] e pos) (mTri me mo mi setD):=by
 walk_at "go"
 exact Mi.ss_setI he ho hi hg hs hw h1
end
set_option Elab.async false
set_option linter.all false
set_option maxRecDepth 100000
set_option maxHeartbeats 4000000
section
variable{X:Cx}{G:Gx}{F:Fy}{e a b c:Expr}{pos:Pos}{ma mb mc m:M D}
theorem se_add(hk:X.K=G.K)(ha:SE X G F a ma)(hb:SE X G F b mb):SE X G F (.BinOp a .Add b pos) (mBin ma mb addD):=by
 walk_at "go"
 exact Mi.se_add hk ha hb
theorem se_sub(hk:X.K=G.K)(ha:SE X G F a ma)(hb:SE X G F b mb):SE X G F (.BinOp a .Sub b pos) (mBin ma mb subD):=by
 walk_at "go"
 exact Mi.se_sub hk ha hb
theorem se_mul(hk:X.K=G.K)(ha:SE X G F a ma)(hb:SE X G F b mb):SE X G F (.BinOp a .Mult b pos) (mBin ma mb mulD):=by
 walk_at "go"
 exact Mi.se_mul hk ha hb
theorem se_fdiv(hk:X.K=G.K)(ha:SE X G F a ma)(hb:SE X G F b mb):SE X G F (.BinOp a .FloorDiv b pos) (mBin ma mb z1u):=by
 walk_at "go"
 exact Mi.se_fdiv hk ha hb
theorem se_mod(hk:X.K=G.K)(ha:SE X G F a ma)(hb:SE X G F b mb):SE X G F (.BinOp a .Mod b pos) (mBin ma mb modD):=by
 walk_at "go"
 exact Mi.se_mod hk ha hb
theorem se_pow(hk:X.K=G.K)(ha:SE X G F a ma)(hb:SE X G F b mb):SE X G F (.BinOp a .Pow b pos) (mBin ma mb powD):=by
 walk_at "go"
 exact Mi.se_pow hk ha hb
theorem se_neg(hk:X.K=G.K)(ha:SE X G F a ma):SE X G F (.UnaryOp .USub a pos) (bd ma negD):=by
 walk_at "go"
 exact Mi.se_neg hk ha
theorem sb_cmp{op:CmpOp}{g:D→D→M D}(hc:Cm X G F op g)(ha:SE X G F a ma)(hb:SE X G F b mb)(hm:behindInMarks op b=false):SB X G F (.Compare a [op] [b] pos) (mBoo (mBin ma mb g)):=by
 walk_at "go"
 exact Mi.sb_cmp hc ha hb hm
theorem sb_cmp2{op op':CmpOp}{g g':D→D→M D}(hc:Cm X G F op g)(hc':Cm X G F op' g')(ha:SE X G F a ma)(hb:SE X G F b mb)(hcc:SE X G F c mc)(hm:lastMarks [op,op'] [b,c]=false:=by with_unfolding_all rfl):SB X G F (.Compare a [op,op'] [b,c] pos) (mBoo (z0h ma mb mc g g')):=by
 walk_at "go"
 exact Mi.sb_cmp2 hc hc' ha hb hcc hm
theorem se_idx(hk:X.K=G.K)(ha:SE X G F a ma)(hb:SE X G F b mb)(hs:z2L b):SE X G F (.Subscript a b pos) (mBin ma mb ixD):=by
 walk_at "go"
 exact Mi.se_idx hk ha hb hs
theorem se_cb{x:Str}{p:Pos}{es:List Expr}{ms:List (M D)}{g:List D→M D}{id:String}(hk:X.K=G.K)(hc:Cb X G F (.builtin id) g)(hgl:Gl X x)(hm:X.mg x=none)(hv:bootBuiltins x=some (.builtin id))(ha:SA X G F (e::es) (mArgs ms))(hn:x≠ "__name__" :=by decide)(hdb:(x==("__debug__" :Str))=false:=by decide)
 (he:starEach (e::es) X.env=(false,eval e X.env)::starEach es X.env:=by rfl) (hpl:(backTo pos (starEach es X.env)).any (·.1)=false:=by rfl):SE X G F (.Call (.Name x p) (e::es) [] pos) (mCB ms g):=by
 walk_at "go"
 exact Mi.se_cb hk hc hgl hm hv ha hn hdb he hpl
theorem se_ct{x:Str}{p:Pos}{es:List Expr}{ms:List (M D)}{g:List D→M D}{T:String}(hk:X.K=G.K)(hc:Cb X G F (.type T) g)(hgl:Gl X x)(hm:X.mg x=none)(hv:bootBuiltins x=some (.type T))(ha:SA X G F (e::es) (mArgs ms))(hn:x≠ "__name__" :=by decide)(hdb:(x==("__debug__" :Str))=false:=by decide)
 (he:starEach (e::es) X.env=(false,eval e X.env)::starEach es X.env:=by rfl) (hpl:(backTo pos (starEach es X.env)).any (·.1)=false:=by rfl):SE X G F (.Call (.Name x p) (e::es) [] pos) (mCB ms g):=by
 walk_at "go"
 exact Mi.se_ct hk hc hgl hm hv ha hn hdb he hpl
end
set_option Elab.async false
set_option linter.all false
set_option maxRecDepth 100000
set_option maxHeartbeats 4000000
section
variable{X:Cx}{G:Gx}{F:Fy}{e a b c:Expr}{pos:Pos}
end
set_option Elab.async false
set_option linter.all false
set_option maxRecDepth 100000
set_option maxHeartbeats 4000000
section
variable{X:Cx}{G:Gx}{F:Fy}{e o:Expr}{es:List Expr}{apos cpos:Pos}
theorem se_cl{name:Str}{id:String}{mo:M D}{ms:List (M D)}{g:D→List D→M D}(hk:X.K=G.K)(slot:Slot "list" name id)(hty:typeOf (.builtin id)=pure (.type "method_descriptor"))(hm:Cl X G F id g)(ho:SE X G F o mo)(ha:SA X G F (e::es) (mArgs ms))
 (hbase:attributeBase o name X.env (eval o X.env)=eval o X.env:=by rfl)
 (hfew:((backTo cpos (starEach (e::es) X.env)).all (fun x=> !x.1)&&(backToKw cpos (keywordEach [] X.env)).all (fun x=>x.1.isSome)
  &&decide ((e::es).length+([]:List Keyword).length+(if([]:List Keyword).isEmpty then 0 else 1)<30))=true:=by rfl)
 (hline:(apos.endLine==cpos.line)=true:=by rfl) (hs:starEach (e::es) X.env=(false,eval e X.env)::starEach es X.env:=by rfl) (hplain:(backTo cpos (starEach es X.env)).any (·.1)=false:=by rfl):SE X G F (.Call (.Attribute o name apos) (e::es) [] cpos) (z1F mo ms g):=by
 walk_at "go"
 exact Mi.se_cl hk slot hty hm ho ha hbase hfew hline hs hplain
end
set_option Elab.async false
set_option linter.all false
set_option maxRecDepth 100000
set_option maxHeartbeats 4000000
section
variable{X:Cx}{G:Gx}{F:Fy}{tg iter elt:Expr}{pos:Pos}
end
set_option Elab.async false
set_option linter.all false
set_option maxRecDepth 100000
set_option maxHeartbeats 4000000
section
variable{X:Cx}{G:Gx}{F:Fy}{a b tg:Expr}{pos:Pos}
theorem si_enm{p tpos:Pos}{elts:List Expr}{x1:Nat}{ms:List (M D)}(hk:X.K=G.K)(hg:Gl X "enumerate")(hm:X.mg "enumerate" =none)(ha:SA X G F [a] (mArgs ms))(hs:starEach [a] X.env=[(false,eval a X.env)]:=by rfl):SI X G F (.Tuple elts x1 tpos) (.Call (.Name "enumerate" p) [a] [] pos) (mEnm ms):=by
 walk_at "go"
 exact Mi.si_enm hk hg hm ha hs
end
set_option Elab.async false
set_option linter.all false
set_option maxRecDepth 100000
set_option maxHeartbeats 4000000
section
variable{X:Cx}{G:Gx}{F:Fy}{a b tg:Expr}{pos:Pos}
theorem se_listRange{p p2 pos2:Pos}{ms:List (M D)}(hk:X.K=G.K)(hc:X.calm=true)(hgl:Gl X "list")(hml:X.mg "list" =none)(hgr:Gl X "range")(hmr:X.mg "range" =none)(ha:SA X G F [a,b] (mArgs ms))(hs:starEach [a,b] X.env=[(false,eval a X.env),(false,eval b X.env)]:=by rfl)(hs2:starEach [b] X.env=[(false,eval b X.env)]:=by rfl)
 (hso:starEach [.Call (.Name "range" p2) [a,b] [] pos2] X.env=[(false,eval (.Call (.Name "range" p2) [a,b] [] pos2) X.env)]:=by rfl):SE X G F (.Call (.Name "list" p) [.Call (.Name "range" p2) [a,b] [] pos2] [] pos) (mCB ms lrM):=by
 walk_at "go"
 exact Mi.se_listRange hk hc hgl hml hgr hmr ha hs hs2 hso
end
set_option Elab.async false
set_option linter.all false
set_option maxRecDepth 100000
set_option maxHeartbeats 4000000
section
variable{X:Cx}{G:Gx}{F:Fy}{a b tg:Expr}{pos:Pos}
section
end
end
set_option Elab.async false
set_option linter.all false
set_option maxRecDepth 100000
set_option maxHeartbeats 4000000
section
variable{X:Cx}{G:Gx}{F:Fy}{E:L2.St→XK}{C:Addr}{x y:Str}{np cpos pos p:Pos}{j:Nat}
theorem ss_raise(hh:X.A.handled=none)(hx:XP X G F E)(hr:z2F X E)(hcl:G.cl x=some C)(hg:Gl X x)(hm:X.mg x=some (.ref C))(hq:PySem.W.excIn X.K C bmV "ValueError.__new__" =true)(hd:(x==("__debug__" :Str))=false:=by decide):
 SS X G F (.Raise (some (.Call (.Name x np) [.Constant (.str y) j p] [] cpos)) none pos) (z4G x):=by
 walk_at "go"
 exact Mi.ss_raise hh hx hr hcl hg hm hq hd
end
section
variable{X:Cx}{G:Gx}{F:Fy}{E:L2.St→XK}{ρ:Nat→Addr}{H:Hp}{σv tv:List (Option V)}{s:Stt}{np:Nat}
theorem se_callX{e:Expr}{es:List Expr}{pos p:Pos}{k:Nat}{fa:Addr}{fd:FuncData}{ps:List Str}{x:Str}{f:FM}{ms:List (M D)}(hx:XP X G F E)(Fn:FnOk X.prog X.w X.K X.mg X.base (CX1 X.prog X.w) k fa fd ps (spX G ps.length f))(hr:Room k X.A)(hg:Gl X x)(hm:X.mg x=some (.ref fa))(hkp:PySem.W.keepIn X.K (.ref fa)=true)(hb:z1S X.K fd ps [])
 (ha:SA X G F (e::es) (mArgs ms)) (hln:ms.length=ps.length) (hdb:(x==("__debug__" :Str))=false:=by decide) (he:starEach (e::es) X.env=(false,eval e X.env)::starEach es X.env:=by rfl) (hpl:(backTo pos (starEach es X.env)).any (·.1)=false:=by rfl):
 SE X G F (.Call (.Name x p) (e::es) [] pos) (z1R f ms):=by
 walk_at "go"
 exact Mi.se_callX hx Fn hr hg hm hkp hb ha hln hdb he hpl
end
theorem fn_X{G:Gx}{P:Program}{w:World}{K:PySem.W.Frag}{mg:Str→Option Value}{base:Heap}{x qual:Str}{st:Stmt}{fa:Addr}{fd:FuncData}{N ps:List Str}{k:Nat}{mb:MS}(Fn:Fun K x qual st fa fd)(S:z0w N ps (z01 st))(hG:G.K=K)
 (hb: ∀(cdv:Value) (A:Around) (outer:List Env) (s:Shared) (H:Hp) (E:XK) (F:Fy),Room k (A.deeper (envOfC qual (z01 st) s.heap.objs.size fa cdv))→XP (cxOf (CX1 P w) P w K mg base N qual (z01 st) fa cdv A outer s H E) G F (fun _=>E)→z2F (cxOf (CX1 P w) P w K mg base N qual (z01 st) fa cdv A outer s H E) (fun _=>E)→SSs (cxOf (CX1 P w) P w K mg base N qual (z01 st) fa cdv A outer s H E) G F (z0m st) mb):
 FnOk P w K mg base (CX1 P w) (k+1) fa fd ps (spX G ps.length (runX N.length mb)):=by
 walk_at "go"
 exact Mi.fn_X Fn S hG hb
section
variable{X:Cx}{G:Gx}{F:Fy}{np hpos pos:Pos}{b₀:Stmt}{suite body:List Stmt}{x n:Str}{ie:Nat}{CB:Addr}{mb mh:MS}{k:Str→Bool}
theorem ss_try(hst:X.stack=X.env::X.outer)(hfr:X.env.frame=some X.env.locals)(hex:X.ex=[])(hK:X.K=G.K)(hg:Gl X x)(hm:X.mg x=some (.ref CB))(hN:X.N.Nodup)(hi:X.N[ie]? =some n)(hloc:X.env.scope.names.lookup n=some .local)
 (hk: ∀c C,G.cl c=some C→k c=true→PySem.W.exmOne X.K (.ref C) (.ref CB)=some true)
 (hb: ∀(pl:List (Addr×Obj)) (E':Value→Shared→Prop) (F':Fy) (E:L2.St→XK),XP (Xt X pl E') G F' E→SSs (Xt X pl E') G F' body mb) (hh: ∀a,SSs (Xm X a) G F (b₀::suite) mh) (hd:(x==("__debug__" :Str))=false:=by decide):
 SS X G F (.Try body [.ExceptHandler (some (.Name x np)) (some n) (b₀::suite) hpos] [] [] pos) (sTry k ie mb mh):=by
 walk_at "go"
 exact Mi.ss_try hst hfr hex hK hg hm hN hi hloc hk hb hh hd
theorem se_isX1{p:Pos}{x y:Expr}{m:M D}{c:V}{tb:Str→Option Bool}(hK:X.K=G.K)(hc:clsV c=true)(ht: ∀r C b,G.cl r=some C→tb r=some b→XCls X.K C∧PySem.W.kitOne X.K (.ref C) (cvV c)=some b)(hgl:Gl X "isinstance")(hm:X.mg "isinstance" =none)(ha:SE X G F x m)(hy:PE X y (tC c))
 (he:starEach [x,y] X.env=(false,eval x X.env)::starEach [y] X.env:=by rfl) (he2:starEach [y] X.env=(false,eval y X.env)::starEach [] X.env:=by rfl) (hpl:(backTo pos (starEach [y] X.env)).any (·.1)=false:=by rfl):SE X G F (.Call (.Name "isinstance" p) [x,y] [] pos) (mIsX tb m):=by
 walk_at "go"
 exact Mi.se_isX1 hK hc ht hgl hm ha hy he he2 hpl
theorem se_isXT{p:Pos}{x y:Expr}{m:M D}{us:List Value}{tb:Str→Option Bool}(hK:X.K=G.K)(ht: ∀r C b,G.cl r=some C→tb r=some b→XCls X.K C∧PySem.W.kitAny X.K (.ref C) us=some b)(hgl:Gl X "isinstance")(hm:X.mg "isinstance" =none)(ha:SE X G F x m)(hy:PE X y (tCls us))
 (he:starEach [x,y] X.env=(false,eval x X.env)::starEach [y] X.env:=by rfl) (he2:starEach [y] X.env=(false,eval y X.env)::starEach [] X.env:=by rfl) (hpl:(backTo pos (starEach [y] X.env)).any (·.1)=false:=by rfl):SE X G F (.Call (.Name "isinstance" p) [x,y] [] pos) (mIsX tb m):=by
 walk_at "go"
 exact Mi.se_isXT hK ht hgl hm ha hy he he2 hpl
end
set_option Elab.async false
set_option linter.all false
set_option maxRecDepth 100000
set_option maxHeartbeats 4000000
section
variable{X:Cx}{G:Gx}{F:Fy}{E:L2.St→XK}
end
set_option Elab.async false
set_option linter.all false
set_option maxRecDepth 100000
set_option maxHeartbeats 4000000
section
variable{G:Gx}{ρ ρ':Nat→Addr}{H H':Hp}
variable{F:Fy}{σv tv:List (Option V)}{s:Stt}{np:Nat}
end
section
variable{X:Cx}{G:Gx}{F:Fy}
end
set_option Elab.async false
set_option linter.all false
set_option maxRecDepth 100000
set_option maxHeartbeats 4000000
section
variable{G:Gx}{ρ:Nat→Addr}{H:Hp}
end
section
variable{X:Cx}{G:Gx}{F:Fy}{a b e:Expr}{ma mb:M D}{pos:Pos}
theorem se_dnew(hk:X.K=G.K):SE X G F (.Dict [] [] pos) z5d:=by
 walk_at "go"
 exact Mi.se_dnew hk
theorem ss_dput{ob ix:Expr}{pos tpos:Pos}{mo mi me:M D}(hu:X.A.units+64<cLine)(he:SE X G F e me)(ho:SE X G F ob mo)(hi:SE X G F ix mi)(hs:swapsWith e (some (.Subscript ob ix tpos)) pos.line X.env=pure false:=by rfl):
 SS X G F (.Assign [.Subscript ob ix tpos] e pos) (mTri me mo mi z1U):=by
 walk_at "go"
 exact Mi.ss_dput hu he ho hi hs
end
set_option Elab.async false
set_option linter.all false
set_option maxRecDepth 100000
set_option maxHeartbeats 4000000
section
variable{G:Gx}{F:Fy}{ρ:Nat→Addr}{H:Hp}{σv tv:List (Option V)}{s:Stt}{a:Addr}{o:HO}{ha:F.A0 a∨F.H0 a=none}{hz: ¬F.Z a}
end
section
variable{X:Cx}{G:Gx}{F:Fy}{tg iter elt:Expr}{pos:Pos}
end
set_option Elab.async false
set_option linter.all false
set_option maxRecDepth 100000
set_option maxHeartbeats 4000000
section
variable{X:Cx}{G:Gx}{F:Fy}{pos:Pos}{kx vx:Expr}
end
set_option Elab.async false
set_option linter.all false
set_option maxRecDepth 100000
set_option maxHeartbeats 4000000
section
variable{X:Cx}{G:Gx}{F:Fy}{e a b c tg iter:Expr}{pos:Pos}
theorem si_rng3{p:Pos}{ms:List (M D)}(hg:Gl X "range")(hm:X.mg "range" =none)(ha:SA X G F [a,b,c] (mArgs ms))(hs:starEach [a,b,c] X.env=[(false,eval a X.env),(false,eval b X.env),(false,eval c X.env)]:=by rfl)(hs2:starEach [b,c] X.env=[(false,eval b X.env),(false,eval c X.env)]:=by rfl):SI X G F tg (.Call (.Name "range" p) [a,b,c] [] pos) (z3V ms):=by
 walk_at "go"
 exact Mi.si_rng3 hg hm ha hs hs2
end
set_option Elab.async false
set_option linter.all false
set_option maxRecDepth 100000
set_option maxHeartbeats 4000000
section
variable{X:Cx}{G:Gx}{F:Fy}
end
inductive SEs(X:Cx)(G:Gx)(F:Fy):List Expr→List (M D)→Prop
 |nil:SEs X G F [] []
 |cons {e:Expr} {m:M D} {es:List Expr} {ms:List (M D)}:SE X G F e m→nst e=true→SEs X G F es ms→SEs X G F (e::es) (m::ms)
theorem eSEs{X:Cx}{G:Gx}{F:Fy}{es:List Expr}{ms:List (M D)}(h:SEs X G F es ms):Mi.SEs X G F es ms:=by
 induction h with
 |nil=>exact .nil
 |cons h n _ ih=>rw[eSE] at h;exact .cons h n ih
theorem sa_of{X:Cx}{G:Gx}{F:Fy}{es:List Expr}{ms:List (M D)}(hk:X.K=G.K)(h:SEs X G F es ms):SA X G F es (mArgs ms):=by
 rw[eSA];exact Mi.sa_of hk (eSEs h)
end My
namespace My
open PySem L2 Mi
noncomputable def top(i:Nat):Stmt:=PySem.Challenge.pw_signbench_k39_pages.main.body.getD i (.Pass ⟨0,0,0,0⟩)
noncomputable abbrev z11:Stmt:=top 26
noncomputable abbrev z0L:Stmt:=top 27
noncomputable abbrev z1H:Stmt:=top 29
noncomputable abbrev z1i:Stmt:=top 30
noncomputable abbrev z1j:Stmt:=top 31
noncomputable abbrev z12:Stmt:=top 32
noncomputable abbrev z2Y:Stmt:=top 33
theorem z5e:z0w ["signs", "size"] ["signs", "size"] (z01 z11):=⟨rfl,rfl,rfl,by decide+kernel,rfl,by decide+kernel,by decide+kernel⟩
theorem z3X:z0w ["signs", "size", "page", "figure"] ["signs", "size", "page", "figure"] (z01 z0L):=⟨rfl,rfl,rfl,by decide+kernel,rfl,by decide+kernel,by decide+kernel⟩
theorem z18:z0w ["_law_script", "_law_at", "_law_cell", "_law_mix", "_law_k"] ["_law_script", "_law_at"] (z01 z1H):=⟨rfl,rfl,rfl,by decide+kernel,rfl,by decide+kernel,by decide+kernel⟩
theorem z3x:z0w ["_law_bag_here", "_law_many", "_law_digit"] ["_law_bag_here", "_law_many"] (z01 z1i):=⟨rfl,rfl,rfl,by decide+kernel,rfl,by decide+kernel,by decide+kernel⟩
theorem z1g:z0w ["_law_signs", "_law_size", "_law_page", "_law_figure", "e", "_law_others"] ["_law_signs", "_law_size", "_law_page", "_law_figure"] (z01 z1j):=⟨rfl,rfl,rfl,by decide+kernel,rfl,by decide+kernel,by decide+kernel⟩
theorem z0M:z0w ["_law_signs", "_law_size", "_law_handed", "_law_turn", "_law_told_here", "_law_at", "_law_page"] ["_law_signs", "_law_size"] (z01 z12):=⟨rfl,rfl,rfl,by decide+kernel,rfl,by decide+kernel,by decide+kernel⟩
theorem z0T:z0w ["_law_script", "_law_at", "_law_bag_here", "_law_found", "_law_k", "_law_signs", "_law_size", "_law_many", "_law_far", "_law_handed", "_law_page", "_law_figure", "_law_due"] ["_law_script"] (z01 z2Y):=⟨rfl,rfl,rfl,by decide+kernel,rfl,by decide+kernel,by decide+kernel⟩
structure Dx(K:PySem.W.Frag)(mg:Str→Option Value)(x:Str)(st:Stmt)(ps:List Str) where
 f:Addr
 d:FuncData
 F:Fun K x x st f d
 b:z1S K d ps []
 m:mg x=some (.ref f)
set_option genInjectivity false in
set_option genSizeOf false in
set_option genSizeOfSpec false in
structure Wd(K:PySem.W.Frag)(mg:Str→Option Value) where
 x_p_pages:Dx K mg "pages" z11 ["signs", "size"]
 x_p_picked:Dx K mg "picked" z0L ["signs", "size", "page", "figure"]
 x_l_bag:Dx K mg "_law_bag" z1H ["_law_script", "_law_at"]
 x_l_take:Dx K mg "_law_take" z1i ["_law_bag_here", "_law_many"]
 x_l_told:Dx K mg "_law_told" z1j ["_law_signs", "_law_size", "_law_page", "_law_figure"]
 x_l_right:Dx K mg "_law_right" z12 ["_law_signs", "_law_size"]
 x_law:Dx K mg "law" z2Y ["_law_script"]
 n_ValueError:mg "ValueError" =none
 n_abs:mg "abs" =none
 n_all:mg "all" =none
 n_enumerate:mg "enumerate" =none
 n_isinstance:mg "isinstance" =none
 n_len:mg "len" =none
 n_list:mg "list" =none
 n_max:mg "max" =none
 n_min:mg "min" =none
 n_range:mg "range" =none
 n_tuple:mg "tuple" =none
 C_Barred:Addr
 cm_Barred:mg "Barred" =some (.ref C_Barred)
 C_BenchError:Addr
 cm_BenchError:mg "BenchError" =some (.ref C_BenchError)
 C_Fight:Addr
 cm_Fight:mg "Fight" =some (.ref C_Fight)
 C_Full:Addr
 cm_Full:mg "Full" =some (.ref C_Full)
 C_Marked:Addr
 cm_Marked:mg "Marked" =some (.ref C_Marked)
 C_Missing:Addr
 cm_Missing:mg "Missing" =some (.ref C_Missing)
 C_NoChoice:Addr
 cm_NoChoice:mg "NoChoice" =some (.ref C_NoChoice)
 C_NoCutting:Addr
 cm_NoCutting:mg "NoCutting" =some (.ref C_NoCutting)
 C_NoDeed:Addr
 cm_NoDeed:mg "NoDeed" =some (.ref C_NoDeed)
 C_NoMark:Addr
 cm_NoMark:mg "NoMark" =some (.ref C_NoMark)
 C_NoNode:Addr
 cm_NoNode:mg "NoNode" =some (.ref C_NoNode)
 C_NoPlace:Addr
 cm_NoPlace:mg "NoPlace" =some (.ref C_NoPlace)
 C_NoSaying:Addr
 cm_NoSaying:mg "NoSaying" =some (.ref C_NoSaying)
 C_NoStanding:Addr
 cm_NoStanding:mg "NoStanding" =some (.ref C_NoStanding)
 C_NoTable:Addr
 cm_NoTable:mg "NoTable" =some (.ref C_NoTable)
 C_NoText:Addr
 cm_NoText:mg "NoText" =some (.ref C_NoText)
 C_NoTurn:Addr
 cm_NoTurn:mg "NoTurn" =some (.ref C_NoTurn)
 C_NoWish:Addr
 cm_NoWish:mg "NoWish" =some (.ref C_NoWish)
 C_NoWord:Addr
 cm_NoWord:mg "NoWord" =some (.ref C_NoWord)
 C_Nothing:Addr
 cm_Nothing:mg "Nothing" =some (.ref C_Nothing)
 C_TooLong:Addr
 cm_TooLong:mg "TooLong" =some (.ref C_TooLong)
 C_TooMany:Addr
 cm_TooMany:mg "TooMany" =some (.ref C_TooMany)
 C_Twice:Addr
 cm_Twice:mg "Twice" =some (.ref C_Twice)
 C_Waits:Addr
 cm_Waits:mg "Waits" =some (.ref C_Waits)
 ce_NoChoice:PySem.W.excIn K C_NoChoice bmV "ValueError.__new__" =true
 cxob_NoChoice:PySem.W.mroIn K C_NoChoice (.type "object")=some true
 cxba_NoChoice:PySem.W.mroIn K C_NoChoice (.type "BaseException")=some true
 cxf1_NoChoice:PySem.W.findIn K (.ref C_NoChoice) "__getattribute__" =some (some (.builtin "BaseException.__getattribute__"))
 cxf2_NoChoice:PySem.W.findIn K (.ref C_NoChoice) "__getattr__" =some none
 cxf3_NoChoice:PySem.W.findIn K (.ref C_NoChoice) "__class__" =some (some (.builtin "object.__class__"))
 ch_NoChoice_BenchError:PySem.W.exmOne K (.ref C_NoChoice) (.ref C_BenchError)=some true
 ck_0_NoChoice:PySem.W.kitAny K (.ref C_NoChoice) [.ref C_NoWord, .ref C_Twice, .ref C_TooMany, .ref C_Missing, .ref C_NoPlace, .ref C_NoMark, .ref C_Marked, .ref C_Barred, .ref C_TooLong]=some false
 ck_1_NoChoice:PySem.W.kitAny K (.ref C_NoChoice) [.ref C_NoStanding, .ref C_NoDeed, .ref C_Full, .ref C_NoNode, .ref C_NoText, .ref C_Nothing, .ref C_NoWish, .ref C_Fight]=some false
 ck_2_NoChoice:PySem.W.kitAny K (.ref C_NoChoice) [.ref C_NoCutting, .ref C_Waits, .ref C_NoTurn, .ref C_NoTable, .ref C_NoSaying]=some false
 ck_3_NoChoice:PySem.W.kitOne K (.ref C_NoChoice) (.ref C_NoChoice)=some true
 ck_4_NoChoice:PySem.W.kitOne K (.ref C_NoChoice) (.type "ValueError")=some true
 cnd:[C_NoChoice].Nodup
section
variable{K:PySem.W.Frag}{mg:Str→Option Value}
noncomputable abbrev GT(T:Wd K mg):Gx:=mkG K [("NoChoice",T.C_NoChoice)] T.cnd (.cons (z8S T.ce_NoChoice) .nil)
theorem z3Y(T:Wd K mg):(GT T).cl "NoChoice" =some T.C_NoChoice:=rfl
noncomputable def z0J(c:Str):Bool:=[("NoChoice" :Str)].contains c
theorem z2Z(T:Wd K mg): ∀c C,(GT T).cl c=some C→z0J c=true→PySem.W.exmOne K (.ref C) (.ref T.C_BenchError)=some true:=fun c C h1 h2=>by
 have h3:([("NoChoice",())]:List (Str×Unit)).lookup c=some ():=by
  unfold z0J at h2;simp only[List.contains_cons,List.contains_nil,Bool.or_eq_true,Bool.or_false,beq_iff_eq] at h2
  subst h2;rfl
 exact Al2.at (Φ:=fun C (_:Unit)=>PySem.W.exmOne K (.ref C) (.ref T.C_BenchError)=some true) (.cons (b:=()) T.ch_NoChoice_BenchError .nil) h1 h3
noncomputable def tb_0(c:Str):Option Bool:=[(("NoChoice" :Str),false)].lookup c
theorem ht_0(T:Wd K mg): ∀r C b,(GT T).cl r=some C→tb_0 r=some b→XCls K C∧PySem.W.kitAny K (.ref C) ([V.ref T.C_NoWord,V.ref T.C_Twice,V.ref T.C_TooMany,V.ref T.C_Missing,V.ref T.C_NoPlace,V.ref T.C_NoMark,V.ref T.C_Marked,V.ref T.C_Barred,V.ref T.C_TooLong].map cvV)=some b:=fun r C b h1 h2=>Al2.at (Φ:=fun C b=>XCls K C∧PySem.W.kitAny K (.ref C) ([V.ref T.C_NoWord,V.ref T.C_Twice,V.ref T.C_TooMany,V.ref T.C_Missing,V.ref T.C_NoPlace,V.ref T.C_NoMark,V.ref T.C_Marked,V.ref T.C_Barred,V.ref T.C_TooLong].map cvV)=some b) (.cons ⟨⟨T.cxob_NoChoice,T.cxba_NoChoice,T.cxf1_NoChoice,T.cxf2_NoChoice,T.cxf3_NoChoice⟩,T.ck_0_NoChoice⟩ .nil) h1 h2
noncomputable def tb_1(c:Str):Option Bool:=[(("NoChoice" :Str),false)].lookup c
theorem ht_1(T:Wd K mg): ∀r C b,(GT T).cl r=some C→tb_1 r=some b→XCls K C∧PySem.W.kitAny K (.ref C) ([V.ref T.C_NoStanding,V.ref T.C_NoDeed,V.ref T.C_Full,V.ref T.C_NoNode,V.ref T.C_NoText,V.ref T.C_Nothing,V.ref T.C_NoWish,V.ref T.C_Fight].map cvV)=some b:=fun r C b h1 h2=>Al2.at (Φ:=fun C b=>XCls K C∧PySem.W.kitAny K (.ref C) ([V.ref T.C_NoStanding,V.ref T.C_NoDeed,V.ref T.C_Full,V.ref T.C_NoNode,V.ref T.C_NoText,V.ref T.C_Nothing,V.ref T.C_NoWish,V.ref T.C_Fight].map cvV)=some b) (.cons ⟨⟨T.cxob_NoChoice,T.cxba_NoChoice,T.cxf1_NoChoice,T.cxf2_NoChoice,T.cxf3_NoChoice⟩,T.ck_1_NoChoice⟩ .nil) h1 h2
noncomputable def tb_2(c:Str):Option Bool:=[(("NoChoice" :Str),false)].lookup c
theorem ht_2(T:Wd K mg): ∀r C b,(GT T).cl r=some C→tb_2 r=some b→XCls K C∧PySem.W.kitAny K (.ref C) ([V.ref T.C_NoCutting,V.ref T.C_Waits,V.ref T.C_NoTurn,V.ref T.C_NoTable,V.ref T.C_NoSaying].map cvV)=some b:=fun r C b h1 h2=>Al2.at (Φ:=fun C b=>XCls K C∧PySem.W.kitAny K (.ref C) ([V.ref T.C_NoCutting,V.ref T.C_Waits,V.ref T.C_NoTurn,V.ref T.C_NoTable,V.ref T.C_NoSaying].map cvV)=some b) (.cons ⟨⟨T.cxob_NoChoice,T.cxba_NoChoice,T.cxf1_NoChoice,T.cxf2_NoChoice,T.cxf3_NoChoice⟩,T.ck_2_NoChoice⟩ .nil) h1 h2
noncomputable def tb_3(c:Str):Option Bool:=[(("NoChoice" :Str),true)].lookup c
theorem ht_3(T:Wd K mg): ∀r C b,(GT T).cl r=some C→tb_3 r=some b→XCls K C∧PySem.W.kitOne K (.ref C) (cvV (.ref T.C_NoChoice))=some b:=fun r C b h1 h2=>Al2.at (Φ:=fun C b=>XCls K C∧PySem.W.kitOne K (.ref C) (cvV (.ref T.C_NoChoice))=some b) (.cons ⟨⟨T.cxob_NoChoice,T.cxba_NoChoice,T.cxf1_NoChoice,T.cxf2_NoChoice,T.cxf3_NoChoice⟩,T.ck_3_NoChoice⟩ .nil) h1 h2
noncomputable def tb_4(c:Str):Option Bool:=[(("NoChoice" :Str),true)].lookup c
theorem ht_4(T:Wd K mg): ∀r C b,(GT T).cl r=some C→tb_4 r=some b→XCls K C∧PySem.W.kitOne K (.ref C) (cvV (.ty "ValueError"))=some b:=fun r C b h1 h2=>Al2.at (Φ:=fun C b=>XCls K C∧PySem.W.kitOne K (.ref C) (cvV (.ty "ValueError"))=some b) (.cons ⟨⟨T.cxob_NoChoice,T.cxba_NoChoice,T.cxf1_NoChoice,T.cxf2_NoChoice,T.cxf3_NoChoice⟩,T.ck_4_NoChoice⟩ .nil) h1 h2
end
end My
namespace My
open PySem L2 Mi
section
variable{P:Program}{w:World}{K:PySem.W.Frag}{mg:Str→Option Value}{base:Heap}
noncomputable def z2j:MS:=(sRet (z0y (z3V [(mC (.int 0)),(mCB [(mVar 0)] lenD),(mVar 1)]) (.nm 0) (rt true) (mSl (mVar 1) (some (mVar 0)) (some (mBin (mVar 0) (mVar 2) addD))) 1 [0,1]))
noncomputable def z13:FM:=runF 2 z2j
theorem z5f(T:Wd K mg):FnOk P w K mg base CX0 1 T.x_p_pages.f T.x_p_pages.d ["signs", "size"] (spM (GT T) 2 z13):=by
 have h:FnOk P w K mg base CX0 (1) T.x_p_pages.f T.x_p_pages.d ["signs", "size"] (spM (GT T) (List.length (["signs", "size"]:List Str)) (runF (List.length (["signs", "size"]:List Str)) z2j)):=fn_M T.x_p_pages.F z5e rfl fun cdv A outer s H E F hr=>by
  have h64:=hr.units
  exact(ss_one (ss_ret (se_comp (own:=["at"]) (frees:=["signs", "size"]) (ix:=[0,1]) rfl rfl (z2b.sc (by kernel_rfl)) (si_rng3 rfl T.n_range (sa_of rfl (.cons (se_c rfl z02) rfl (.cons (se_cb rfl (z1z rfl) rfl T.n_len PyProof.Rows.Boot.«len» (sa_of rfl (.cons (se_var 0 rfl (pv 0)) rfl .nil))) rfl (.cons (se_var 1 rfl (pv 1)) rfl .nil))))) (fun _ _ _ _ _ _ _=>(sg_name (z0F (i:=0) (show List.Nodup (["at", "signs", "size"]:List Str) by decide+kernel) rfl (Or.inl rfl)))) (fun _ _ _ _ _ _ _=>sts_nil) (fun _ _ _ _ _ _ _=>(se_slice rfl (se_var 1 rfl (pv 1)) (so_some (se_var 0 rfl (pv 0))) (so_some (se_add rfl (se_var 0 rfl (pv 0)) (se_var 2 rfl (pv 2)))))))))
 exact h
end
end My
namespace My
open PySem L2 Mi
section
variable{P:Program}{w:World}{K:PySem.W.Frag}{mg:Str→Option Value}{base:Heap}
noncomputable def z1k:MS:=(seqS (sIf (mOr (mNot (mBoo (z0h (mC (.int 1)) (mVar 3) (mVar 1) leD leD))) (mNot (mBoo (z0h (mC (.int 0)) (mBin (mBin (mBin (mVar 2) (mVar 1) mulD) (mVar 3) addD) (mC (.int 1)) subD) (mCB [(mVar 0)] lenD) leD ltD)))) (z4G "NoChoice") sNx)
 (sRet (mBin (mVar 0) (mBin (mBin (mBin (mVar 2) (mVar 1) mulD) (mVar 3) addD) (mC (.int 1)) subD) ixD)))
noncomputable def z0N:FM:=runX 4 z1k
theorem z3Z(T:Wd K mg):FnOk P w K mg base (CX1 P w) 1 T.x_p_picked.f T.x_p_picked.d ["signs", "size", "page", "figure"] (spX (GT T) 4 z0N):=by
 have h:FnOk P w K mg base (CX1 P w) (1) T.x_p_picked.f T.x_p_picked.d ["signs", "size", "page", "figure"] (spX (GT T) (List.length (["signs", "size", "page", "figure"]:List Str)) (runX (List.length (["signs", "size", "page", "figure"]:List Str)) z1k)):=fn_X T.x_p_picked.F z3X rfl fun cdv A outer s H E F hr hx hrx=>by
  have h64:=hr.units
  exact(ss_cons (ss_if (SW.sb (sw_or (sb_not (sb_cmp2 z5a z5a (se_c rfl z02) (se_var 3 rfl (pv 3)) (se_var 1 rfl (pv 1)))) (sw_or1 (sb_not (sb_cmp2 z5a z7z (se_c rfl z02) (se_sub rfl (se_add rfl (se_mul rfl (se_var 2 rfl (pv 2)) (se_var 1 rfl (pv 1))) (se_var 3 rfl (pv 3))) (se_c rfl z02)) (se_cb rfl (z1z rfl) rfl T.n_len PyProof.Rows.Boot.«len» (sa_of rfl (.cons (se_var 0 rfl (pv 0)) rfl .nil)))))))) (ss_one (ss_raise hr.hd hx hrx (z3Y T) rfl T.cm_NoChoice T.ce_NoChoice)) ss_nil)
  (ss_one (ss_ret (se_idx rfl (se_var 0 rfl (pv 0)) (se_sub rfl (se_add rfl (se_mul rfl (se_var 2 rfl (pv 2)) (se_var 1 rfl (pv 1))) (se_var 3 rfl (pv 3))) (se_c rfl z02)) (fun _ _=>rfl)))))
 exact h
end
end My
namespace My
open PySem L2 Mi
section
variable{P:Program}{w:World}{K:PySem.W.Frag}{mg:Str→Option Value}{base:Heap}
noncomputable def z40:MS:=(seqS (sAsg (.nm 2) (mC (.int 0)))
 (seqS (sIf (mBoo (mBin (mVar 1) (mCB [(mVar 0)] lenD) ltD)) (sAsg (.nm 2) (mCB [(mBin (mVar 0) (mVar 1) ixD)] absD)) sNx)
 (seqS (sAsg (.nm 3) (mBin (mBin (mBin (mBin (mBin (mVar 2) (mC (.int 2147483629)) modD) (mBin (mC (.int 104729)) (mVar 1) mulD) addD) (mC (.int 17)) addD) (mC (.int 5)) powD) (mC (.int 2147483647)) modD))
 (seqS (sFor (z0Z [(mCB [(mCB [(mVar 0)] lenD),(mC (.int 60))] minD)]) (.nm 4) (sAsg (.nm 3) (mBin (mBin (mBin (mBin (mVar 3) (mC (.int 48271)) mulD) (mBin (mBin (mBin (mVar 0) (mVar 4) ixD) (mC (.int 2147483587)) modD) (mBin (mVar 4) (mC (.int 3)) addD) mulD) addD) (mVar 4) addD) (mC (.int 2147483629)) modD)))
 (seqS (sIf (mBoo (mBin (mVar 2) (mBin (mC (.int 10)) (mC (.int 18)) powD) ltD)) (sAsg (.nm 2) (mC (.int 0))) sNx)
 (sRet (mCB [(mVar 2),(mVar 3)] lstM)))))))
noncomputable def z1I:FM:=runF 5 z40
theorem z7K(T:Wd K mg):FnOk P w K mg base CX0 1 T.x_l_bag.f T.x_l_bag.d ["_law_script", "_law_at"] (spM (GT T) 2 z1I):=by
 have h:FnOk P w K mg base CX0 (1) T.x_l_bag.f T.x_l_bag.d ["_law_script", "_law_at"] (spM (GT T) (List.length (["_law_script", "_law_at"]:List Str)) (runF (List.length (["_law_script", "_law_at", "_law_cell", "_law_mix", "_law_k"]:List Str)) z40)):=fn_M T.x_l_bag.F z18 rfl fun cdv A outer s H E F hr=>by
  have h64:=hr.units
  exact(ss_cons (ss_set (fun{te} h=>z0u (i:=2) z18.nd rfl (Or.inl rfl) h) (se_c rfl z02))
  (ss_cons (ss_if (sb_cmp z7z (se_var 1 rfl (pv 1)) (se_cb rfl (z1z rfl) rfl T.n_len PyProof.Rows.Boot.«len» (sa_of rfl (.cons (se_var 0 rfl (pv 0)) rfl .nil))) (z1N _)) (ss_one (ss_set (fun{te} h=>z0u (i:=2) z18.nd rfl (Or.inl rfl) h) (se_cb rfl zaU rfl T.n_abs PyProof.Rows.Boot.«abs» (sa_of rfl (.cons (se_idx rfl (se_var 0 rfl (pv 0)) (se_var 1 rfl (pv 1)) (fun _ _=>rfl)) rfl .nil))))) ss_nil)
  (ss_cons (ss_set (fun{te} h=>z0u (i:=3) z18.nd rfl (Or.inl rfl) h) (se_mod rfl (se_pow rfl (se_add rfl (se_add rfl (se_mod rfl (se_var 2 rfl (pv 2)) (se_c rfl z02)) (se_mul rfl (se_c rfl z02) (se_var 1 rfl (pv 1)))) (se_c rfl z02)) (se_c rfl z02)) (se_c rfl z02)))
  (ss_cons (ss_for PassesOwn.never rfl (si_rng1 rfl T.n_range (sa_of rfl (.cons (se_cb rfl (z67 rfl) rfl T.n_min PyProof.Rows.Boot.«min» (sa_of rfl (.cons (se_cb rfl (z1z rfl) rfl T.n_len PyProof.Rows.Boot.«len» (sa_of rfl (.cons (se_var 0 rfl (pv 0)) rfl .nil))) rfl (.cons (se_c rfl z02) rfl .nil)))) rfl .nil))) (sg_name (z0F (i:=4) z18.nd rfl (Or.inl rfl))) (ss_one (ss_set (fun{te} h=>z0u (i:=3) z18.nd rfl (Or.inl rfl) h) (se_mod rfl (se_add rfl (se_add rfl (se_mul rfl (se_var 3 rfl (pv 3)) (se_c rfl z02)) (se_mul rfl (se_mod rfl (se_idx rfl (se_var 0 rfl (pv 0)) (se_var 4 rfl (pv 4)) (fun _ _=>rfl)) (se_c rfl z02)) (se_add rfl (se_var 4 rfl (pv 4)) (se_c rfl z02)))) (se_var 4 rfl (pv 4))) (se_c rfl z02)))))
  (ss_cons (ss_if (sb_cmp z7z (se_var 2 rfl (pv 2)) (se_pow rfl (se_c rfl z02) (se_c rfl z02)) (z1N _)) (ss_one (ss_set (fun{te} h=>z0u (i:=2) z18.nd rfl (Or.inl rfl) h) (se_c rfl z02))) ss_nil)
  (ss_one (ss_ret (se_lst rfl (sa_of rfl (.cons (se_var 2 rfl (pv 2)) rfl (.cons (se_var 3 rfl (pv 3)) rfl .nil)))))))))))
 exact h
end
end My
namespace My
open PySem L2 Mi
section
variable{P:Program}{w:World}{K:PySem.W.Frag}{mg:Str→Option Value}{base:Heap}
noncomputable def z30:MS:=(seqS (sIf (mBoo (mBin (mBin (mVar 0) (mC (.int 0)) ixD) (mC (.int 0)) gtD)) (seqS (sAsg (.nm 2) (mBin (mBin (mVar 0) (mC (.int 0)) ixD) (mVar 1) modD))
 (seqS (mTri (mBin (mBin (mVar 0) (mC (.int 0)) ixD) (mVar 1) z1u) (mVar 0) (mC (.int 0)) setD)
 (sRet (mVar 2)))) sNx)
 (seqS (mTri (mBin (mBin (mBin (mBin (mVar 0) (mC (.int 1)) ixD) (mC (.int 48271)) mulD) (mC (.int 7919)) addD) (mC (.int 2147483647)) modD) (mVar 0) (mC (.int 1)) setD)
 (sRet (mBin (mBin (mBin (mBin (mBin (mBin (mBin (mVar 0) (mC (.int 1)) ixD) (mC (.int 3)) powD) (mC (.int 2147483587)) modD) (mC (.int 7)) z1u) (mC (.int 69621)) mulD) (mC (.int 1073741789)) modD) (mVar 1) modD))))
noncomputable def z03:FM:=runF 3 z30
theorem z14(T:Wd K mg):FnOk P w K mg base CX0 1 T.x_l_take.f T.x_l_take.d ["_law_bag_here", "_law_many"] (spM (GT T) 2 z03):=by
 have h:FnOk P w K mg base CX0 (1) T.x_l_take.f T.x_l_take.d ["_law_bag_here", "_law_many"] (spM (GT T) (List.length (["_law_bag_here", "_law_many"]:List Str)) (runF (List.length (["_law_bag_here", "_law_many", "_law_digit"]:List Str)) z30)):=fn_M T.x_l_take.F z3x rfl fun cdv A outer s H E F hr=>by
  have h64:=hr.units
  exact(ss_cons (ss_if (sb_cmp zcb (se_idx rfl (se_var 0 rfl (pv 0)) (se_c rfl z02) (fun _ _=>rfl)) (se_c rfl z02) (z1N _)) (ss_cons (ss_set (fun{te} h=>z0u (i:=2) z3x.nd rfl (Or.inl rfl) h) (se_mod rfl (se_idx rfl (se_var 0 rfl (pv 0)) (se_c rfl z02) (fun _ _=>rfl)) (se_var 1 rfl (pv 1))))
  (ss_cons (ss_setI (se_fdiv rfl (se_idx rfl (se_var 0 rfl (pv 0)) (se_c rfl z02) (fun _ _=>rfl)) (se_var 1 rfl (pv 1))) (se_var 0 rfl (pv 0)) (se_c rfl z02) (fun{to ti} h1 h2=>z80 h1 h2 z4q))
  (ss_one (ss_ret (se_var 2 rfl (pv 2)))))) ss_nil)
  (ss_cons (ss_setI (se_mod rfl (se_add rfl (se_mul rfl (se_idx rfl (se_var 0 rfl (pv 0)) (se_c rfl z02) (fun _ _=>rfl)) (se_c rfl z02)) (se_c rfl z02)) (se_c rfl z02)) (se_var 0 rfl (pv 0)) (se_c rfl z02) (fun{to ti} h1 h2=>z80 h1 h2 z4q))
  (ss_one (ss_ret (se_mod rfl (se_mod rfl (se_mul rfl (se_fdiv rfl (se_mod rfl (se_pow rfl (se_idx rfl (se_var 0 rfl (pv 0)) (se_c rfl z02) (fun _ _=>rfl)) (se_c rfl z02)) (se_c rfl z02)) (se_c rfl z02)) (se_c rfl z02)) (se_c rfl z02)) (se_var 1 rfl (pv 1)))))))
 exact h
end
end My
namespace My
open PySem L2 Mi
section
variable{P:Program}{w:World}{K:PySem.W.Frag}{mg:Str→Option Value}{base:Heap}
noncomputable def z1Z:MS:=(sTry z0J 4 (sRet (z1R z0N [(mVar 0),(mVar 1),(mVar 2),(mVar 3)])) (seqS (sAsg (.nm 5) (mIsX tb_0 (mVar 4)))
 (seqS (sAsg (.nm 5) (mOrV (mVar 5) (mIsX tb_1 (mVar 4))))
 (seqS (sAsg (.nm 5) (mOrV (mVar 5) (mIsX tb_2 (mVar 4))))
 (sRet (mCB [(mC (.str ("refused" :Str))),(z54 (mIsX tb_3 (mVar 4)) (z54 (mIsX tb_4 (mVar 4)) (z5Q (mVar 5))))] tupD))))))
noncomputable def z0s:FM:=runF 6 z1Z
theorem z6k(T:Wd K mg):FnOk P w K mg base CX0 2 T.x_l_told.f T.x_l_told.d ["_law_signs", "_law_size", "_law_page", "_law_figure"] (spM (GT T) 4 z0s):=by
 have h:FnOk P w K mg base CX0 (2) T.x_l_told.f T.x_l_told.d ["_law_signs", "_law_size", "_law_page", "_law_figure"] (spM (GT T) (List.length (["_law_signs", "_law_size", "_law_page", "_law_figure"]:List Str)) (runF (List.length (["_law_signs", "_law_size", "_law_page", "_law_figure", "e", "_law_others"]:List Str)) z1Z)):=fn_M T.x_l_told.F z1g rfl fun cdv A outer s H E F hr=>by
  have h64:=hr.units
  exact(ss_one (ss_try rfl rfl rfl rfl rfl T.cm_BenchError z1g.nd rfl rfl (z2Z T) (fun pl E1 F1 E2 hx=>(ss_one (ss_ret (se_callX hx ((z3Z T).mono (by omega)) hr rfl T.x_p_picked.m T.x_p_picked.F.kp T.x_p_picked.b (sa_of rfl (.cons (se_var 0 rfl (pv 0)) rfl (.cons (se_var 1 rfl (pv 1)) rfl (.cons (se_var 2 rfl (pv 2)) rfl (.cons (se_var 3 rfl (pv 3)) rfl .nil))))) rfl)))) (fun ax=>(ss_cons (ss_set (fun{te} h=>z0u (i:=5) z1g.nd rfl (Or.inl rfl) h) (se_isXT rfl (ht_0 T) rfl T.n_isinstance (se_var 4 rfl (pv 4)) (z2V (cs:=[.ref T.C_NoWord, .ref T.C_Twice, .ref T.C_TooMany, .ref T.C_Missing, .ref T.C_NoPlace, .ref T.C_NoMark, .ref T.C_Marked, .ref T.C_Barred, .ref T.C_TooLong]) (z0a (z0c (v:= .ref T.C_NoWord) rfl T.cm_NoWord rfl) (z0a (z0c (v:= .ref T.C_Twice) rfl T.cm_Twice rfl) (z0a (z0c (v:= .ref T.C_TooMany) rfl T.cm_TooMany rfl) (z0a (z0c (v:= .ref T.C_Missing) rfl T.cm_Missing rfl) (z0a (z0c (v:= .ref T.C_NoPlace) rfl T.cm_NoPlace rfl) (z0a (z0c (v:= .ref T.C_NoMark) rfl T.cm_NoMark rfl) (z0a (z0c (v:= .ref T.C_Marked) rfl T.cm_Marked rfl) (z0a (z0c (v:= .ref T.C_Barred) rfl T.cm_Barred rfl) (z0a (z0c (v:= .ref T.C_TooLong) rfl T.cm_TooLong rfl) z1O))))))))) (fun _ _ _ q=>q) rfl rfl)))
  (ss_cons (ss_set (fun{te} h=>z0u (i:=5) z1g.nd rfl (Or.inl rfl) h) (se_or (se_var 5 rfl (pv 5)) (se_one (se_isXT rfl (ht_1 T) rfl T.n_isinstance (se_var 4 rfl (pv 4)) (z2V (cs:=[.ref T.C_NoStanding, .ref T.C_NoDeed, .ref T.C_Full, .ref T.C_NoNode, .ref T.C_NoText, .ref T.C_Nothing, .ref T.C_NoWish, .ref T.C_Fight]) (z0a (z0c (v:= .ref T.C_NoStanding) rfl T.cm_NoStanding rfl) (z0a (z0c (v:= .ref T.C_NoDeed) rfl T.cm_NoDeed rfl) (z0a (z0c (v:= .ref T.C_Full) rfl T.cm_Full rfl) (z0a (z0c (v:= .ref T.C_NoNode) rfl T.cm_NoNode rfl) (z0a (z0c (v:= .ref T.C_NoText) rfl T.cm_NoText rfl) (z0a (z0c (v:= .ref T.C_Nothing) rfl T.cm_Nothing rfl) (z0a (z0c (v:= .ref T.C_NoWish) rfl T.cm_NoWish rfl) (z0a (z0c (v:= .ref T.C_Fight) rfl T.cm_Fight rfl) z1O)))))))) (fun _ _ _ q=>q) rfl rfl)))))
  (ss_cons (ss_set (fun{te} h=>z0u (i:=5) z1g.nd rfl (Or.inl rfl) h) (se_or (se_var 5 rfl (pv 5)) (se_one (se_isXT rfl (ht_2 T) rfl T.n_isinstance (se_var 4 rfl (pv 4)) (z2V (cs:=[.ref T.C_NoCutting, .ref T.C_Waits, .ref T.C_NoTurn, .ref T.C_NoTable, .ref T.C_NoSaying]) (z0a (z0c (v:= .ref T.C_NoCutting) rfl T.cm_NoCutting rfl) (z0a (z0c (v:= .ref T.C_Waits) rfl T.cm_Waits rfl) (z0a (z0c (v:= .ref T.C_NoTurn) rfl T.cm_NoTurn rfl) (z0a (z0c (v:= .ref T.C_NoTable) rfl T.cm_NoTable rfl) (z0a (z0c (v:= .ref T.C_NoSaying) rfl T.cm_NoSaying rfl) z1O))))) (fun _ _ _ q=>q) rfl rfl)))))
  (ss_one (ss_ret (se_tup rfl (sa_of rfl (.cons (se_c rfl z5r) rfl (.cons (se_and (se_isX1 (c:= .ref T.C_NoChoice) rfl rfl (ht_3 T) rfl T.n_isinstance (se_var 4 rfl (pv 4)) (z0c (v:= .ref T.C_NoChoice) rfl T.cm_NoChoice rfl)) (se_and (se_isX1 (c:= .ty "ValueError") rfl rfl (ht_4 T) rfl T.n_isinstance (se_var 4 rfl (pv 4)) (z3K (v:= .ty "ValueError") rfl T.n_ValueError PyProof.Rows.Boot.«ValueError» rfl)) (se_one (se_not (se_var 5 rfl (pv 5)))))) rfl .nil))))))))))))
 exact h
end
end My
namespace My
open PySem L2 Mi
section
variable{P:Program}{w:World}{K:PySem.W.Frag}{mg:Str→Option Value}{base:Heap}
noncomputable def z2k:MS:=(seqS (sAsg (.nm 2) (mCB [(mVar 0)] z2S))
 (seqS (sFor (z0Z [(mC (.int 2))]) (.nm 3) (seqS (sAsg (.nm 4) (z0b z13 [(mVar 2),(mVar 1)]))
 (seqS (sIf (mOr (mNot (z1v (mIsi "list" (mVar 4)))) (mBoo (mBin (mVar 2) (mVar 0) neD))) (sRet (mC (.bool false))) sNx)
 (seqS (sIf (mNot (z1v (mCB [(z0y (z0Y (mVar 4)) (.nm 0) (rt true) (mIsi "list" (mVar 0)) 1 [])] allD))) (sRet (mC (.bool false))) sNx)
 (seqS (sIf (mBoo (mBin (mCB [(mVar 4)] lenD) (mBin (mBin (mBin (mCB [(mVar 0)] lenD) (mVar 1) addD) (mC (.int 1)) subD) (mVar 1) z1u) neD)) (sRet (mC (.bool false))) sNx)
 (seqS (sFor (mEnm [(mVar 4)]) (.tp [(.nm 5),(.nm 6)]) (seqS (sIf (mBoo (mBin (mVar 6) (mSl (mVar 0) (some (mBin (mVar 5) (mVar 1) mulD)) (some (mBin (mBin (mVar 5) (mVar 1) mulD) (mVar 1) addD))) neD)) (sRet (mC (.bool false))) sNx)
 (z2f (z1F (mVar 6) [(mCB [] tupD)] appD))))
 (z2f (z1F (mVar 4) [(mCB [] lstM)] appD))))))))
 (sRet (mC (.bool true)))))
noncomputable def z0P:FM:=runF 7 z2k
theorem z5g(T:Wd K mg):FnOk P w K mg base CX0 2 T.x_l_right.f T.x_l_right.d ["_law_signs", "_law_size"] (spM (GT T) 2 z0P):=by
 have h:FnOk P w K mg base CX0 (2) T.x_l_right.f T.x_l_right.d ["_law_signs", "_law_size"] (spM (GT T) (List.length (["_law_signs", "_law_size"]:List Str)) (runF (List.length (["_law_signs", "_law_size", "_law_handed", "_law_turn", "_law_told_here", "_law_at", "_law_page"]:List Str)) z2k)):=fn_M T.x_l_right.F z0M rfl fun cdv A outer s H E F hr=>by
  have h64:=hr.units
  exact(ss_cons (ss_set (fun{te} h=>z0u (i:=2) z0M.nd rfl (Or.inl rfl) h) (se_ct rfl (z68 rfl) rfl T.n_list PyProof.Rows.Boot.«list» (sa_of rfl (.cons (se_var 0 rfl (pv 0)) rfl .nil))))
  (ss_cons (ss_for PassesOwn.never rfl (si_rng1 rfl T.n_range (sa_of rfl (.cons (se_c rfl z02) rfl .nil))) (sg_name (z0F (i:=3) z0M.nd rfl (Or.inl rfl))) (ss_cons (ss_set (fun{te} h=>z0u (i:=4) z0M.nd rfl (Or.inl rfl) h) (se_call rfl ((z5f T).mono (by omega)) hr rfl T.x_p_pages.m T.x_p_pages.F.kp T.x_p_pages.b z2w (sa_of rfl (.cons (se_var 2 rfl (pv 2)) rfl (.cons (se_var 1 rfl (pv 1)) rfl .nil))) rfl))
  (ss_cons (ss_if (SW.sb (sw_or (sb_not (sb_truth rfl (se_isi rfl (by decide) rfl T.n_isinstance (se_var 4 rfl (pv 4)) (z3K (v:= .ty "list") rfl T.n_list PyProof.Rows.Boot.«list» rfl)))) (sw_or1 (sb_cmp (z66 rfl h64) (se_var 2 rfl (pv 2)) (se_var 0 rfl (pv 0)) (z1N _))))) (ss_one (ss_ret (se_c rfl z2v))) ss_nil)
  (ss_cons (ss_if (sb_not (sb_truth rfl (se_cb rfl (z85 rfl hr.hd) rfl T.n_all PyProof.Rows.Boot.«all» (sa_of rfl (.cons (se_comp (own:=["_law_page"]) (frees:=[]) (ix:=[]) rfl rfl (z2b.sc (by kernel_rfl)) (si_seq rfl (se_var 4 rfl (pv 4))) (fun _ _ _ _ _ _ _=>(sg_name (z0F (i:=0) (show List.Nodup (["_law_page"]:List Str) by decide+kernel) rfl (Or.inl rfl)))) (fun _ _ _ _ _ _ _=>sts_nil) (fun _ _ _ _ _ _ _=>(se_isi rfl (by decide) rfl T.n_isinstance (se_var 0 rfl (pv 0)) (z3K (v:= .ty "list") rfl T.n_list PyProof.Rows.Boot.«list» rfl)))) rfl .nil))))) (ss_one (ss_ret (se_c rfl z2v))) ss_nil)
  (ss_cons (ss_if (sb_cmp (z66 rfl h64) (se_cb rfl (z1z rfl) rfl T.n_len PyProof.Rows.Boot.«len» (sa_of rfl (.cons (se_var 4 rfl (pv 4)) rfl .nil))) (se_fdiv rfl (se_sub rfl (se_add rfl (se_cb rfl (z1z rfl) rfl T.n_len PyProof.Rows.Boot.«len» (sa_of rfl (.cons (se_var 0 rfl (pv 0)) rfl .nil))) (se_var 1 rfl (pv 1))) (se_c rfl z02)) (se_var 1 rfl (pv 1))) (z1N _)) (ss_one (ss_ret (se_c rfl z2v))) ss_nil)
  (ss_cons (ss_for PassesOwn.never rfl (si_enm rfl rfl T.n_enumerate (sa_of rfl (.cons (se_var 4 rfl (pv 4)) rfl .nil))) (sg_tup rfl rfl (sgs_cons (sg_name (z0F (i:=5) z0M.nd rfl (Or.inl rfl))) (sgs_cons (sg_name (z0F (i:=6) z0M.nd rfl (Or.inl rfl))) sgs_nil))) (ss_cons (ss_if (sb_cmp (z66 rfl h64) (se_var 6 rfl (pv 6)) (se_slice rfl (se_var 0 rfl (pv 0)) (so_some (se_mul rfl (se_var 5 rfl (pv 5)) (se_var 1 rfl (pv 1)))) (so_some (se_add rfl (se_mul rfl (se_var 5 rfl (pv 5)) (se_var 1 rfl (pv 1))) (se_var 1 rfl (pv 1))))) (z1N _)) (ss_one (ss_ret (se_c rfl z2v))) ss_nil)
  (ss_one (ss_expr (se_cl rfl PySem.F.slot_list_append PySem.F.type_list_append z3r (se_var 6 rfl (pv 6)) (sa_of rfl (.cons (se_tup rfl (sa_of rfl .nil)) rfl .nil)))))))
  (ss_one (ss_expr (se_cl rfl PySem.F.slot_list_append PySem.F.type_list_append z3r (se_var 4 rfl (pv 4)) (sa_of rfl (.cons (se_lst rfl (sa_of rfl .nil)) rfl .nil)))))))))))
  (ss_one (ss_ret (se_c rfl z2v)))))
 exact h
end
end My
namespace My
open PySem L2 Mi
section
variable{P:Program}{w:World}{K:PySem.W.Frag}{mg:Str→Option Value}{base:Heap}
noncomputable def z8W:MS:=(seqS (sFor (z0Z [(mCB [(mC (.int 1)),(mCB [(mC (.int 2)),(mCB [(mVar 0)] lenD)] minD)] maxD)]) (.nm 1) (seqS (sAsg (.nm 2) (z0b z1I [(mVar 0),(mVar 1)]))
 (seqS (sAsg (.nm 3) z5d)
 (seqS (sFor (z0Z [(z0b z03 [(mVar 2),(mC (.int 31))])]) (.nm 4) (mTri (mC (.bool true)) (mVar 3) (mCB [(z0y (z0Z [(mBin (mC (.int 1)) (z0b z03 [(mVar 2),(mC (.int 4))]) addD)]) (.nm 0) (rt true) (z0b z03 [(mVar 1),(mC (.int 1040))]) 1 [2])] tupF) z1U))
 (seqS (sAsg (.nm 5) (mCB [(mVar 3)] z3w))
 (seqS (sIf (mNot (z1v (mCB [(z0y (z3O [(mC (.int 1)),(mC (.int 10))]) (.nm 0) (rt true) (z0b z0P [(mVar 1),(mVar 0)]) 1 [5])] allD))) (sRet (mC (.bool false))) sNx)
 (seqS (sAsg (.nm 6) (mBin (mC (.int 1)) (z0b z03 [(mVar 2),(mC (.int 9))]) addD))
 (seqS (sAsg (.nm 7) (mBin (mBin (mBin (mCB [(mVar 5)] lenD) (mVar 6) addD) (mC (.int 1)) subD) (mVar 6) z1u))
 (seqS (sAsg (.nm 8) (mBin (z0b z03 [(mVar 2),(mBin (mC (.int 10)) (mC (.int 40)) powD)]) (mBin (mCB [(mC (.int 1)),(bd (mC (.int 1)) negD)] lstM) (z0b z03 [(mVar 2),(mC (.int 2))]) ixD) mulD))
 (seqS (sAsg (.nm 9) (mCB [(mVar 5)] z2S))
 (sFor (z0Y (mBin (mCB [(bd (mC (.int 2)) negD),(mBin (mVar 7) (mC (.int 2)) addD)] lrM) (mCB [(mVar 8)] lstM) addD)) (.nm 10) (sFor (z0Y (mBin (mCB [(bd (mC (.int 1)) negD),(mBin (mVar 6) (mC (.int 2)) addD)] lrM) (mCB [(mVar 8),(mBin (mC (.int 0)) (mVar 8) subD)] lstM) addD)) (.nm 11) (seqS (sAsg (.nm 12) (mCB [(mC (.str ("refused" :Str))),(mC (.bool true))] tupD))
 (seqS (sIf (mAnd (mBoo (z0h (mC (.int 0)) (mVar 10) (mVar 7) leD ltD)) (mBoo (z0h (mC (.int 1)) (mVar 11) (mCB [(mVar 6),(mBin (mCB [(mVar 5)] lenD) (mBin (mVar 10) (mVar 6) mulD) subD)] minD) leD leD))) (sAsg (.nm 12) (mBin (mVar 5) (mBin (mBin (mBin (mVar 10) (mVar 6) mulD) (mVar 11) addD) (mC (.int 1)) subD) ixD)) sNx)
 (sIf (mOr (mBoo (mBin (z0b z0s [(mVar 9),(mVar 6),(mVar 10),(mVar 11)]) (mVar 12) neD)) (mBoo (mBin (mVar 9) (mVar 5) neD))) (sRet (mC (.bool false))) sNx)))))))))))))))
 (sRet (mC (.bool true))))
noncomputable def f_law:FM:=runF 13 z8W
theorem zb8(T:Wd K mg):FnOk P w K mg base CX0 3 T.x_law.f T.x_law.d ["_law_script"] (spM (GT T) 1 f_law):=by
 have h:FnOk P w K mg base CX0 (3) T.x_law.f T.x_law.d ["_law_script"] (spM (GT T) (List.length (["_law_script"]:List Str)) (runF (List.length (["_law_script", "_law_at", "_law_bag_here", "_law_found", "_law_k", "_law_signs", "_law_size", "_law_many", "_law_far", "_law_handed", "_law_page", "_law_figure", "_law_due"]:List Str)) z8W)):=fn_M T.x_law.F z0T rfl fun cdv A outer s H E F hr=>by
  have h64:=hr.units
  exact(ss_cons (ss_for PassesOwn.never rfl (si_rng1 rfl T.n_range (sa_of rfl (.cons (se_cb rfl (zaV rfl) rfl T.n_max PyProof.Rows.Boot.«max» (sa_of rfl (.cons (se_c rfl z02) rfl (.cons (se_cb rfl (z67 rfl) rfl T.n_min PyProof.Rows.Boot.«min» (sa_of rfl (.cons (se_c rfl z02) rfl (.cons (se_cb rfl (z1z rfl) rfl T.n_len PyProof.Rows.Boot.«len» (sa_of rfl (.cons (se_var 0 rfl (pv 0)) rfl .nil))) rfl .nil)))) rfl .nil)))) rfl .nil))) (sg_name (z0F (i:=1) z0T.nd rfl (Or.inl rfl))) (ss_cons (ss_set (fun{te} h=>z0u (i:=2) z0T.nd rfl (Or.inr rfl) h) (se_call rfl ((z7K T).mono (by omega)) hr rfl T.x_l_bag.m T.x_l_bag.F.kp T.x_l_bag.b z2w (sa_of rfl (.cons (se_var 0 rfl (pv 0)) rfl (.cons (se_var 1 rfl (pv 1)) rfl .nil))) rfl))
  (ss_cons (ss_set (fun{te} h=>z0u (i:=3) z0T.nd rfl (Or.inl rfl) h) (se_dnew rfl))
  (ss_cons (ss_for PassesOwn.never rfl (si_rng1 rfl T.n_range (sa_of rfl (.cons (se_call rfl ((z14 T).mono (by omega)) hr rfl T.x_l_take.m T.x_l_take.F.kp T.x_l_take.b z2w (sa_of rfl (.cons (se_var 2 rfl (pv 2)) rfl (.cons (se_c rfl z02) rfl .nil))) rfl) rfl .nil))) (sg_name (z0F (i:=4) z0T.nd rfl (Or.inl rfl))) (ss_one (ss_dput h64 (se_c rfl z2v) (se_var 3 rfl (pv 3)) (se_ct rfl (z7A rfl) rfl T.n_tuple PyProof.Rows.Boot.«tuple» (sa_of rfl (.cons (se_comp (own:=["_law_j"]) (frees:=["_law_bag_here"]) (ix:=[2]) rfl rfl (z2b.sc (by kernel_rfl)) (si_rng1 rfl T.n_range (sa_of rfl (.cons (se_add rfl (se_c rfl z02) (se_call rfl ((z14 T).mono (by omega)) hr rfl T.x_l_take.m T.x_l_take.F.kp T.x_l_take.b z2w (sa_of rfl (.cons (se_var 2 rfl (pv 2)) rfl (.cons (se_c rfl z02) rfl .nil))) rfl)) rfl .nil))) (fun _ _ _ _ _ _ _=>(sg_name (z0F (i:=0) (show List.Nodup (["_law_j", "_law_bag_here"]:List Str) by decide+kernel) rfl (Or.inl rfl)))) (fun _ _ _ _ _ _ _=>sts_nil) (fun _ _ _ _ _ _ _=>(se_call rfl ((z14 T).mono (by omega)) hr rfl T.x_l_take.m T.x_l_take.F.kp T.x_l_take.b z2w (sa_of rfl (.cons (se_var 1 rfl (pv 1)) rfl (.cons (se_c rfl z02) rfl .nil))) rfl))) rfl .nil))))))
  (ss_cons (ss_set (fun{te} h=>z0u (i:=5) z0T.nd rfl (Or.inr rfl) h) (se_ct rfl (z7J rfl hr.hd) rfl T.n_list PyProof.Rows.Boot.«list» (sa_of rfl (.cons (se_var 3 rfl (pv 3)) rfl .nil))))
  (ss_cons (ss_if (sb_not (sb_truth rfl (se_cb rfl (z85 rfl hr.hd) rfl T.n_all PyProof.Rows.Boot.«all» (sa_of rfl (.cons (se_comp (own:=["_law_size"]) (frees:=["_law_signs"]) (ix:=[5]) rfl rfl (z2b.sc (by kernel_rfl)) (si_rng2 rfl T.n_range (sa_of rfl (.cons (se_c rfl z02) rfl (.cons (se_c rfl z02) rfl .nil)))) (fun _ _ _ _ _ _ _=>(sg_name (z0F (i:=0) (show List.Nodup (["_law_size", "_law_signs"]:List Str) by decide+kernel) rfl (Or.inl rfl)))) (fun _ _ _ _ _ _ _=>sts_nil) (fun _ _ _ _ _ _ _=>(se_call rfl ((z5g T).mono (by omega)) hr rfl T.x_l_right.m T.x_l_right.F.kp T.x_l_right.b z2w (sa_of rfl (.cons (se_var 1 rfl (pv 1)) rfl (.cons (se_var 0 rfl (pv 0)) rfl .nil))) rfl))) rfl .nil))))) (ss_one (ss_ret (se_c rfl z2v))) ss_nil)
  (ss_cons (ss_set (fun{te} h=>z0u (i:=6) z0T.nd rfl (Or.inl rfl) h) (se_add rfl (se_c rfl z02) (se_call rfl ((z14 T).mono (by omega)) hr rfl T.x_l_take.m T.x_l_take.F.kp T.x_l_take.b z2w (sa_of rfl (.cons (se_var 2 rfl (pv 2)) rfl (.cons (se_c rfl z02) rfl .nil))) rfl)))
  (ss_cons (ss_set (fun{te} h=>z0u (i:=7) z0T.nd rfl (Or.inl rfl) h) (se_fdiv rfl (se_sub rfl (se_add rfl (se_cb rfl (z1z rfl) rfl T.n_len PyProof.Rows.Boot.«len» (sa_of rfl (.cons (se_var 5 rfl (pv 5)) rfl .nil))) (se_var 6 rfl (pv 6))) (se_c rfl z02)) (se_var 6 rfl (pv 6))))
  (ss_cons (ss_set (fun{te} h=>z0u (i:=8) z0T.nd rfl (Or.inl rfl) h) (se_mul rfl (se_call rfl ((z14 T).mono (by omega)) hr rfl T.x_l_take.m T.x_l_take.F.kp T.x_l_take.b z2w (sa_of rfl (.cons (se_var 2 rfl (pv 2)) rfl (.cons (se_pow rfl (se_c rfl z02) (se_c rfl z02)) rfl .nil))) rfl) (se_idx rfl (se_lst rfl (sa_of rfl (.cons (se_c rfl z02) rfl (.cons (se_neg rfl (se_c rfl z02)) rfl .nil)))) (se_call rfl ((z14 T).mono (by omega)) hr rfl T.x_l_take.m T.x_l_take.F.kp T.x_l_take.b z2w (sa_of rfl (.cons (se_var 2 rfl (pv 2)) rfl (.cons (se_c rfl z02) rfl .nil))) rfl) (fun _ _=>rfl))))
  (ss_cons (ss_set (fun{te} h=>z0u (i:=9) z0T.nd rfl (Or.inl rfl) h) (se_ct rfl (z68 rfl) rfl T.n_list PyProof.Rows.Boot.«list» (sa_of rfl (.cons (se_var 5 rfl (pv 5)) rfl .nil))))
  (ss_one (ss_for PassesOwn.never rfl (si_seq rfl (se_add rfl (se_listRange rfl rfl rfl T.n_list rfl T.n_range (sa_of rfl (.cons (se_neg rfl (se_c rfl z02)) rfl (.cons (se_add rfl (se_var 7 rfl (pv 7)) (se_c rfl z02)) rfl .nil)))) (se_lst rfl (sa_of rfl (.cons (se_var 8 rfl (pv 8)) rfl .nil))))) (sg_name (z0F (i:=10) z0T.nd rfl (Or.inl rfl))) (ss_one (ss_for PassesOwn.never rfl (si_seq rfl (se_add rfl (se_listRange rfl rfl rfl T.n_list rfl T.n_range (sa_of rfl (.cons (se_neg rfl (se_c rfl z02)) rfl (.cons (se_add rfl (se_var 6 rfl (pv 6)) (se_c rfl z02)) rfl .nil)))) (se_lst rfl (sa_of rfl (.cons (se_var 8 rfl (pv 8)) rfl (.cons (se_sub rfl (se_c rfl z02) (se_var 8 rfl (pv 8))) rfl .nil)))))) (sg_name (z0F (i:=11) z0T.nd rfl (Or.inl rfl))) (ss_cons (ss_set (fun{te} h=>z0u (i:=12) z0T.nd rfl (Or.inl rfl) h) (se_tup rfl (sa_of rfl (.cons (se_c rfl z5r) rfl (.cons (se_c rfl z2v) rfl .nil)))))
  (ss_cons (ss_if (SW.sb (sw_and (sb_cmp2 z5a z7z (se_c rfl z02) (se_var 10 rfl (pv 10)) (se_var 7 rfl (pv 7))) (sw_and1 (sb_cmp2 z5a z5a (se_c rfl z02) (se_var 11 rfl (pv 11)) (se_cb rfl (z67 rfl) rfl T.n_min PyProof.Rows.Boot.«min» (sa_of rfl (.cons (se_var 6 rfl (pv 6)) rfl (.cons (se_sub rfl (se_cb rfl (z1z rfl) rfl T.n_len PyProof.Rows.Boot.«len» (sa_of rfl (.cons (se_var 5 rfl (pv 5)) rfl .nil))) (se_mul rfl (se_var 10 rfl (pv 10)) (se_var 6 rfl (pv 6)))) rfl .nil)))))))) (ss_one (ss_set (fun{te} h=>z0u (i:=12) z0T.nd rfl (Or.inl rfl) h) (se_idx rfl (se_var 5 rfl (pv 5)) (se_sub rfl (se_add rfl (se_mul rfl (se_var 10 rfl (pv 10)) (se_var 6 rfl (pv 6))) (se_var 11 rfl (pv 11))) (se_c rfl z02)) (fun _ _=>rfl)))) ss_nil)
  (ss_one (ss_if (SW.sb (sw_or (sb_cmp (z66 rfl h64) (se_call rfl ((z6k T).mono (by omega)) hr rfl T.x_l_told.m T.x_l_told.F.kp T.x_l_told.b z2w (sa_of rfl (.cons (se_var 9 rfl (pv 9)) rfl (.cons (se_var 6 rfl (pv 6)) rfl (.cons (se_var 10 rfl (pv 10)) rfl (.cons (se_var 11 rfl (pv 11)) rfl .nil))))) rfl) (se_var 12 rfl (pv 12)) (z1N _)) (sw_or1 (sb_cmp (z66 rfl h64) (se_var 9 rfl (pv 9)) (se_var 5 rfl (pv 5)) (z1N _))))) (ss_one (ss_ret (se_c rfl z2v))) ss_nil))))))))))))))))))
  (ss_one (ss_ret (se_c rfl z2v))))
 exact h
end
end My
namespace Mi
open PySem L2
theorem z0l{α:Type}(xs ys:List α)(k:Nat)(h:xs.length=k):(xs++ys).drop k=ys:=by subst h;simp
theorem z0U{α:Type}(xs ys:List α)(k:Nat)(h:xs.length=k):(xs++ys).take k=xs:=by subst h;simp
theorem z0Q: ∀ds:List D,z04 (ds.map some)=some ds
 |[]=>rfl
 |d::ds=>by simp[z04,z0Q ds]
theorem z3y(ds:List D)(g:D→Bool):z1f (ds.map fun d=> .bool (g d))=some (ds.map g):=by
 induction ds with
 |nil=>rfl
 |cons d ds ih=>simp[z1f,ih]
theorem z1J{t:D}{ts:List D}{n':Nat}{s:Stt}:z3o (.ok t ts n') ts s= .ok t {s with n:=n'}:=by
 unfold z3o;simp
end Mi
set_option maxHeartbeats 40000
namespace Mi
open PySem L2
structure Kq{α:Type}(f:α):Type where
noncomputable def Res.bnd{α β:Type}(r:Res α)(f:α→Stt→Res β)(_:Kq f:=⟨⟩):Res β:=match r with
 | .ok a s=>f a s
 | .ex d s=> .ex d s
 | .no=> .no
theorem z3z{α β:Type}{a:α}{s:Stt}{f:α→Stt→Res β}:((Res.ok a s).bnd f:Res β)=f a s:=(rfl)
theorem z6l{α β:Type}{d:D}{s:Stt}{f:α→Stt→Res β}:((Res.ex d s:Res α).bnd f:Res β)= .ex d s:=(rfl)
theorem z6m{α β:Type}{f:α→Stt→Res β}:((Res.no:Res α).bnd f:Res β)= .no:=(rfl)
noncomputable def Res.lf{α:Type}(r:Res α)(f:α→MS)(_:Kq f:=⟨⟩):RS:=match r with
 | .ok a s=>f a s
 | .ex d s=> .ex d s
 | .no=> .no
theorem z8X{α:Type}{a:α}{s:Stt}{f:α→MS}:((Res.ok a s).lf f:RS)=f a s:=(rfl)
theorem z8Y{α:Type}{f:α→MS}:((Res.no:Res α).lf f:RS)= .no:=(rfl)
noncomputable def RS.sq(r:RS)(m:MS)(_:Kq m:=⟨⟩):RS:=match r with
 | .nx s=>m s
 |r=>r
theorem z8Z{s:Stt}{m:MS}:((RS.nx s).sq m:RS)=m s:=(rfl)
theorem z90{d:D}{s:Stt}{m:MS}:((RS.rt d s).sq m:RS)= .rt d s:=(rfl)
theorem z91{s:Stt}{m:MS}:((RS.bk s).sq m:RS)= .bk s:=(rfl)
theorem z92{s:Stt}{m:MS}:((RS.ct s).sq m:RS)= .ct s:=(rfl)
theorem z93{m:MS}:(RS.no.sq m:RS)= .no:=(rfl)
noncomputable def RS.fin(r:RS):RF:=match r with
 | .nx s'=>match z04 s'.tm with|some ts'=> .ok .non ts' s'.n|none=> .no
 | .rt t s'=>match z04 s'.tm with|some ts'=> .ok t ts' s'.n|none=> .no
 | .ex d s'=>match z04 s'.tm with|some ts'=> .ex d ts' s'.n|none=> .no
 |_=> .no
noncomputable def finO(o:Option (List D))(t:D)(n:Nat):RF:=match o with|some ts=> .ok t ts n|none=> .no
theorem z2l{ts:List D}{t:D}{n:Nat}:finO (some ts) t n= .ok t ts n:=(rfl)
theorem z94{t:D}{σ tm:List (Option D)}{n:Nat}:(RS.rt t ⟨σ,tm,n⟩).fin=finO (z04 tm) t n:=(rfl)
theorem z95{σ tm:List (Option D)}{n:Nat}:(RS.nx ⟨σ,tm,n⟩).fin=finO (z04 tm) .non n:=(rfl)
theorem z96{nl:Nat}{mb:MS}{ts:List D}{n:Nat}:runF nl mb ts n=(mb ⟨ts.map some++List.replicate (nl -ts.length) none,ts.map some,n⟩).fin:=(rfl)
section
variable{α β:Type}{m ma mb mc:M D}{s:Stt}{ms:List (M D)}{σ tm:List (Option D)}{n:Nat}
theorem x_bd{m:M α}{f:α→M β}:bd m f s=(m s).bnd f:=(rfl)
theorem x_rt{a:α}:rt a s= .ok a s:=(rfl)
theorem x_fl:(fl:M α) s= .no:=(rfl)
theorem z97{t:D}:psh t s= .ok () (s.psh t):=(rfl)
theorem z6n{t:D}:Stt.psh ⟨σ,tm,n⟩ t=⟨σ,some t::tm,n⟩:=(rfl)
theorem z98:Stt.nxt ⟨σ,tm,n⟩=⟨σ,tm,n+1⟩:=(rfl)
theorem z99{t:D}{r:List (Option D)}:pop ⟨σ,some t::r,n⟩= .ok t ⟨σ,r,n⟩:=(rfl)
noncomputable def vOf(o:Option (Option D))(s:Stt):Res D:=match o with
 |some (some t)=> .ok t s
 |_=> .no
theorem z31{t:D}:vOf (some (some t)) s= .ok t s:=(rfl)
theorem z9a{i:Nat}:mVar i ⟨σ,tm,n⟩=vOf (σ[i]?) ⟨σ,tm,n⟩:=by
 unfold mVar vOf
 cases σ[i]? with
 |none=>rfl
 |some o=>cases o<;>rfl
theorem x_C{d:D}:mC d s= .ok d s:=(rfl)
theorem z9b{g:D→D→M D}:mBin ma mb g s=(ma s).bnd fun x s1=>(mb (s1.psh x)).bnd fun y s2=>(pop s2).bnd fun x' s3=>g x' y s3:=(rfl)
theorem z9c:mBoo m s=(m s).bnd booD:=(rfl)
theorem z6o{b:Bool}:booD (.bool b) s= .ok b s:=(rfl)
theorem z6p:z1v m s=(m s).bnd truD:=(rfl)
theorem x_tB{b:Bool}:truD (.bool b) s= .ok b s:=(rfl)
theorem x_tI{i:Int}:truD (.int i) s= .ok (i !=0) s:=(rfl)
theorem x_tT{ds:List D}:truD (.tup ds) s= .ok (!ds.isEmpty) s:=(rfl)
theorem x_tL{l:Nat}{ds:List D}:truD (.lst l ds) s= .ok (!ds.isEmpty) s:=(rfl)
theorem z9d{m m':M Bool}:mAnd m m' s=(m s).bnd fun b=>iteM b m' (rt false):=(rfl)
theorem x_or{m m':M Bool}:mOr m m' s=(m s).bnd fun b=>iteM b (rt true) m':=(rfl)
theorem z9e{m:M Bool}:mNot m s=(m s).bnd fun b s1=> .ok (!b) s1:=(rfl)
theorem z6q{m m':M D}:z54 m m' s=(m s).bnd fun d s1=>(booD d s1).bnd fun b=>iteM b m' (rt (.bool false)):=by
 unfold z54 mBoo bd Res.bnd
 cases m s<;>rfl
theorem z9f{m m':M D}:mOrV m m' s=(m s).bnd fun d s1=>(booD d s1).bnd fun b=>iteM b (rt (.bool true)) m':=by
 unfold mOrV mBoo bd Res.bnd
 cases m s<;>rfl
theorem z6r{m:M D}:z5Q m s=(m s).bnd fun d s1=>(booD d s1).bnd fun b=>rt (.bool (!b)):=by
 unfold z5Q mBoo bd Res.bnd
 cases m s<;>rfl
theorem z9g{c:M Bool}{m m':M D}:mIf c m m' s=(c s).bnd fun b=>iteM b m m':=(rfl)
theorem x_it{m m':M α}:iteM true m m' s=m s:=(rfl)
theorem x_if{m m':M α}:iteM false m m' s=m' s:=(rfl)
theorem z41:mArgs [] s= .ok [] s:=(rfl)
theorem z42:mArgs (m::ms) s=(m s).bnd fun x s1=>(mArgs ms (s1.psh x)).bnd fun ys s2=>(pop s2).bnd fun x' s3=> .ok (x'::ys) s3:=(rfl)
theorem x_cb{g:List D→M D}:mCB ms g s=(mArgs ms s).bnd g:=(rfl)
theorem z6s{f:FM}:z0b f ms s=(mArgs ms s).bnd fun ts s1=>z3o (f ts s1.n) ts s1:=(rfl)
noncomputable def isiK(o:Option Bool)(s:Stt):Res D:=match o with
 |some b=> .ok (.bool b) s
 |none=> .no
theorem z2m{b:Bool}:isiK (some b) s= .ok (.bool b) s:=(rfl)
theorem z9h{T:String}:mIsi T m s=(m s).bnd fun d s1=>isiK (isiD T d) s1:=by
 unfold mIsi bd Res.bnd isiK
 cases m s with
 |ok d s1=>dsimp only;cases isiD T d<;>rfl
 |ex d s1=>rfl
 |no=>rfl
theorem z6t{Ts:List String}:zaW Ts m s=(m s).bnd fun d s1=>isiK (isiAny Ts d) s1:=by
 unfold zaW bd Res.bnd isiK
 cases m s with
 |ok d s1=>dsimp only;cases isiAny Ts d<;>rfl
 |ex d s1=>rfl
 |no=>rfl
theorem z43{g g':D→D→M D}:z0h ma mb mc g g' s=(ma s).bnd fun x s1=>(mb (s1.psh x)).bnd fun y s2=>(pop s2).bnd fun x' s3=>z5S y (bd (mBoo (g x' y)) fun k=>iteM k (bd mc fun z=>g' y z) (rt (.bool false))) s3:=(rfl)
theorem z9i{i:Int}{m:M D}:z5S (.int i) m s=m s:=(rfl)
noncomputable def intK(o:Option Int)(s:Stt):Res (Option Int):=match o with
 |some i=> .ok (some i) s
 |none=> .no
theorem z2n{i:Int}:intK (some i) s= .ok (some i) s:=(rfl)
theorem z44:z2z none s= .ok none s:=(rfl)
theorem z45:z2z (some m) s=(m s).bnd fun d s1=>intK (mInt d) s1:=by
 show bd m (fun d=>match mInt d with|some i=>rt (some i)|none=>fl) s=_
 unfold bd Res.bnd
 cases m s with
 |ok d s1=>show(match mInt d with|some i=>rt (some i)|none=>fl:M (Option Int)) s1=intK (mInt d) s1;cases mInt d<;>rfl
 |ex d s1=>rfl
 |no=>rfl
theorem z6u{i:Int}:mInt (.int i)=some i:=(rfl)
theorem x_sl{lo hi:Option (M D)}:mSl m lo hi s=(m s).bnd fun x s1=>(z2z lo (s1.psh x)).bnd fun l s2=>(z2z hi s2).bnd fun h s3=>(pop s3).bnd fun x' s4=>slD x' l h s4:=(rfl)
theorem z6v{i j:Int}:addD (.int i) (.int j) s= .ok (.int (i+j)) s:=(rfl)
theorem z9j{i j:Int}:subD (.int i) (.int j) s= .ok (.int (i -j)) s:=(rfl)
theorem z1K{i j:Int}(h:CMul i j):mulD (.int i) (.int j) s= .ok (.int (i*j)) s:=by simp only[mulD,if_pos h];rfl
theorem z4J{i j:Int}(h:CDiv i j):z1u (.int i) (.int j) s= .ok (.int (i/j)) s:=by simp only[z1u,if_pos h];rfl
theorem z32{i j:Int}(h:0<j):modD (.int i) (.int j) s= .ok (.int (i %j)) s:=by simp only[modD,if_pos h];rfl
theorem z7L{i j:Int}(h:CPow i j):powD (.int i) (.int j) s= .ok (.int (i^j.toNat)) s:=by simp only[powD,if_pos h];rfl
theorem y_lt{i j:Int}:ltD (.int i) (.int j) s= .ok (.bool (decide (i<j))) s:=(rfl)
theorem y_le{i j:Int}:leD (.int i) (.int j) s= .ok (.bool (decide (i≤j))) s:=(rfl)
theorem y_gt{i j:Int}:gtD (.int i) (.int j) s= .ok (.bool (decide (j<i))) s:=(rfl)
theorem y_ge{i j:Int}:geD (.int i) (.int j) s= .ok (.bool (decide (j≤i))) s:=(rfl)
theorem z9k{i:Int}:negD (.int i) s= .ok (.int (-i)) s:=(rfl)
theorem y_eq{t t':D}(h:eqC t t'=true):eqD t t' s= .ok (.bool (PyData.eqv (er t) (er t'))) s:=by simp only[eqD,if_pos h];rfl
theorem y_ne{t t':D}(h:eqC t t'=true):neD t t' s= .ok (.bool (!PyData.eqv (er t) (er t'))) s:=by simp only[neD,if_pos h];rfl
theorem z9l{ds:List D}{i:Int}:ixD (.tup ds) (.int i) s=optM (atI ds i) s:=(rfl)
theorem z9m{l:Nat}{ds:List D}{i:Int}:ixD (.lst l ds) (.int i) s=optM (atI ds i) s:=(rfl)
theorem z9n{ds:List D}{i:Int}:ixD (.ro ds) (.int i) s=optM (atI ds i) s:=(rfl)
theorem z9o{d:D}:optM (some d) s= .ok d s:=(rfl)
theorem z9p{ds:List D}{lo hi:Option Int}:slD (.tup ds) lo hi s= .ok (.tup (cutA ds lo hi)) s:=(rfl)
theorem z9q{l:Nat}{ds:List D}{lo hi:Option Int}:slD (.lst l ds) lo hi s= .ok (.lst s.n (cutA ds lo hi)) s.nxt:=(rfl)
theorem z6w{ts:List D}(h:ts.length≤sizeLine):tupD ts s= .ok (.tup ts) s:=by simp only[tupD,if_pos h];rfl
theorem z46{ts:List D}(h:ts.length≤sizeLine):lstM ts s= .ok (.lst s.n ts) s.nxt:=by simp only[lstM,if_pos h];rfl
theorem z6x{ds:List D}:lenD [.tup ds] s= .ok (.int ds.length) s:=(rfl)
theorem z6y{l:Nat}{ds:List D}:lenD [.lst l ds] s= .ok (.int ds.length) s:=(rfl)
theorem z6z{ds:List D}:lenD [.ro ds] s= .ok (.int ds.length) s:=(rfl)
theorem z9r{i:Int}:absD [.int i] s= .ok (.int (if i<0 then -i else i)) s:=(rfl)
theorem z9s{i j:Int}:minD [.int i, .int j] s= .ok (.int (if j<i then j else i)) s:=(rfl)
theorem z9t{i j:Int}:maxD [.int i, .int j] s= .ok (.int (if j>i then j else i)) s:=(rfl)
theorem z9u{i:Int}:intD [.int i] s= .ok (.int i) s:=(rfl)
theorem z6A{b:Bool}:intD [.bool b] s= .ok (.int (if b then 1 else 0)) s:=(rfl)
theorem z6B{ds:List D}:tupF [.tup ds] s= .ok (.tup ds) s:=(rfl)
theorem z6C{l:Nat}{ds:List D}:tupF [.lst l ds] s= .ok (.tup ds) s:=(rfl)
theorem z47{ds:List D}:z2S [.tup ds] s= .ok (.lst s.n ds) s.nxt:=(rfl)
theorem z48{l:Nat}{ds:List D}:z2S [.lst l ds] s= .ok (.lst s.n ds) s.nxt:=(rfl)
theorem zb9{l:Nat}{ds:List D}{bs:List Bool}(h:z1f ds=some bs):allD [.lst l ds] s= .ok (.bool (bs.all id)) s:=by simp only[allD,h];rfl
theorem z9v{a b:MS}:seqS a b s=(a s).sq b:=by
 unfold seqS RS.sq
 cases a s<;>rfl
theorem z6D{m:M α}{f:α→MS}:lift m f s=(m s).lf f:=(rfl)
theorem z9w:sNx s= .nx s:=(rfl)
theorem z9x:sBk s= .bk s:=(rfl)
theorem z9y:sCt s= .ct s:=(rfl)
theorem z6E:sRet m s=(m s).lf fun d s1=> .rt d s1:=(rfl)
theorem z49:zc8 s= .rt .non s:=(rfl)
theorem z4a:z2f m s=(m s).lf fun _ s1=> .nx s1:=(rfl)
theorem z9z{c:M Bool}{a b:MS}:sIf c a b s=(c s).lf fun k=>iteS k a b:=(rfl)
theorem x_sT{a b:MS}:iteS true a b s=a s:=(rfl)
theorem x_sF{a b:MS}:iteS false a b s=b s:=(rfl)
noncomputable def asgK(o:Option (List (Option D)))(s:Stt):RS:=match o with
 |some σ'=> .nx {s with σ:=σ'}
 |none=> .no
theorem z2o{σ':List (Option D)}:asgK (some σ') ⟨σ,tm,n⟩= .nx ⟨σ',tm,n⟩:=(rfl)
theorem z9A{g:Tg}:sAsg g m s=(m s).lf fun d s1=>asgK (asg g d s1.σ) s1:=by
 unfold sAsg lift Res.lf asgK
 cases m s with
 |ok d s1=>first|(dsimp only;cases asg g d s1.σ<;>rfl)|(dsimp only;done)|rfl
 |ex d s1=>rfl
 |no=>rfl
theorem z7M{me mo mi:M D}{g:D→D→D→MS}:mTri me mo mi g s=(me s).lf fun v s1=>(mo (s1.psh v)).lf fun o s2=>(mi (s2.psh o)).lf fun i s3=>(pop s3).lf fun o' s4=>(pop s4).lf fun v' s5=>g o' i v' s5:=(rfl)
theorem zba{l:Nat}{ds:List D}{k:Int}{v:D}{j:Nat}(e:ixN ds.length k=some j)(h:l∉labs v):setD (.lst l ds) (.int k) v s= .nx (s.put l (.lst l (ds.set j v))):=by simp only[setD,e,if_pos h]
theorem z6F{mo:M D}{g:D→List D→M D}:z1F mo ms g s=(mo s).bnd fun x s1=>(isL x s1).bnd fun _ s2=>(mArgs ms (s2.psh x)).bnd fun ys s3=>(pop s3).bnd fun x' s4=>g x' ys s4:=(rfl)
theorem z9B{l:Nat}{ds:List D}:isL (.lst l ds) s= .ok () s:=(rfl)
theorem zbb{l:Nat}{ds:List D}{y:D}(h:ds.length<sizeLine∧l∉labs y):appD (.lst l ds) [y] s= .ok .non (s.put l (.lst l (ds++[y]))):=by simp only[appD,if_pos h]
end
theorem z2I{α:Type}{xs:List α}{i:Int}{d:α}(h0:0≤i)(h:xs[i.toNat]? =some d):atI xs i=some d:=by
 obtain⟨j,rfl⟩:=Int.eq_ofNat_of_zero_le h0
 exact z8s (by simpa using h)
end Mi
set_option maxHeartbeats 400000
namespace Mi
open PySem L2
noncomputable def pl(l:Nat)(d:D):Nat→Option D:=fun k=>if k=l then some d else none
theorem z2J{σ tm:List (Option D)}{n l:Nat}{d:D}:Stt.put ⟨σ,tm,n⟩ l d=⟨rpO (pl l d) σ,rpO (pl l d) tm,n⟩:=(rfl)
theorem z20{l:Nat}{d t:D}(h:l∉labs t):rp (pl l d) t=t:=z8D t fun k hk=>by
 unfold pl;rw[if_neg];intro e;subst e;exact h hk
theorem z0g{f:Nat→Option D}:rpO f []=[]:=(rfl)
theorem z4K{f:Nat→Option D}{r:List (Option D)}:rpO f (none::r)=none::rpO f r:=(rfl)
theorem z4L{f:Nat→Option D}{d:D}{r:List (Option D)}:rpO f (some d::r)=some (rp f d)::rpO f r:=(rfl)
theorem z6G{l:Nat}{d:D}{b:List D}:rp (pl l d) (.lst l b)=d:=by simp only[rp,pl,if_true]
theorem z0r{f:Nat→Option D}{i:Int}:rp f (.int i)= .int i:=(rfl)
theorem z6H{f:Nat→Option D}{i:Str}:rp f (.str i)= .str i:=(rfl)
theorem z33{f:Nat→Option D}{i:Bool}:rp f (.bool i)= .bool i:=(rfl)
theorem z6I{f:Nat→Option D}:rp f .non= .non:=(rfl)
theorem z6J{f:Nat→Option D}{ds:List D}:rp f (.tup ds)= .tup (rpL f ds):=(rfl)
theorem z4b{f:Nat→Option D}:rpL f []=[]:=(rfl)
theorem z34{f:Nat→Option D}{d:D}{ds:List D}:rpL f (d::ds)=rp f d::rpL f ds:=(rfl)
mutual
theorem z5h{l:Nat}: ∀t:D,l∉labs t→z0e l t=none
 | .non,_=>rfl
 | .bool _,_=>rfl
 | .int _,_=>rfl
 | .str _,_=>rfl
 | .exc _,_=>rfl
 | .fn _,_=>rfl
 | .tup ds,h=>by simp only[labs] at h;simp only[z0e];exact z0q ds h
 | .ro ds,h=>by simp only[labs] at h;simp only[z0e];exact z0q ds h
 | .fdc ks ds,h=>by simp only[labs] at h;simp only[z0e];exact z0q ds h
 | .lst k ds,h=>by
  simp only[labs,List.mem_cons,not_or] at h;simp only[z0e];rw[if_neg fun e=>h.1 e.symm];exact z0q ds h.2
 | .dct k ks ds,h=>by
  simp only[labs,List.mem_cons,List.mem_append,not_or] at h;simp only[z0e];rw[if_neg fun e=>h.1 e.symm];exact z0q ds h.2.2
 | .obj k c ks ds,h=>by
  simp only[labs,List.mem_cons,not_or] at h;simp only[z0e];rw[if_neg fun e=>h.1 e.symm];exact z0q ds h.2
theorem z0q{l:Nat}: ∀t:List D,l∉z00 t→z0f l t=none
 |[],_=>rfl
 |d::ds,h=>by
  simp only[z00,List.mem_append,not_or] at h
  simp only[z0f,z5h d h.1,z0q ds h.2]
end
theorem z15{t:D}{l n' n:Nat}{b b' r:List D}{σ tm:List (Option D)}(hb:z00 b=[])(hb':z00 b'=[])(hr:z00 r=[])(f1:rpO (pl l (.lst l b)) σ=σ)(f2:rpO (pl l (.lst l b)) tm=tm):
 z3o (.ok t (.lst l b'::r) n') (.lst l b::r) ⟨σ,tm,n⟩= .ok t ⟨rpO (pl l (.lst l b')) σ,rpO (pl l (.lst l b')) tm,n'⟩:=by
 have e:(fun k=>z0f k (.lst l b'::r))=pl l (.lst l b'):=by
  funext k
  simp only[z0f,z0e,pl]
  by_cases h:l=k
  ·subst h;rw[if_pos rfl,if_pos rfl]
  ·rw[if_neg h,if_neg fun q=>h q.symm,z0q b' (by rw[hb'];exact List.not_mem_nil),z0q r (by rw[hr];exact List.not_mem_nil)]
 unfold z3o
 by_cases h:(D.lst l b'::r)=(D.lst l b::r)
 ·have hh:b'=b:=by injection h with h _;injection h
  subst hh
  simp only[if_true]
  rw[f1,f2]
 ·simp only[if_neg h]
  rw[if_pos,e]
  intro k _ hk
  simp only[z00,labs,hb,hr,List.append_nil,List.mem_singleton] at hk
  subst hk
  have:=congrFun e k
  rw[show z0f k (D.lst k b'::r)=pl k (D.lst k b') k from this];simp[pl]
end Mi
namespace Mi
open PySem L2
theorem z7N{mi:M ItK}{g:Tg}{b:MS}{s:Stt}:sFor mi g b s=(mi s).lf fun K s=>forGo K g b (K.len s.tm) 0 s:=(rfl)
theorem z6K{ms:List (M D)}{s:Stt}:z0Z ms s=(mArgs ms s).bnd rng1:=(rfl)
theorem z3A{j:Int}{s:Stt}(h: -(2^62)≤j∧j<2^62):rng1 [.int j] s= .ok (kRng 0 j.toNat) s:=by simp only[rng1,if_pos h];rfl
theorem z89{lo:Int}{N:Nat}{tm:List (Option D)}:(kRng lo N).len tm=N:=(rfl)
theorem z35{P:Nat→Stt→Prop}{lo:Int}{N:Nat}{g:Tg}{b:MS}
 (body: ∀i,i<N→∀s,P i s→∃σ',asg g (.int (lo+i)) s.σ=some σ'∧∃s',b {s with σ:=σ'}= .nx s'∧P (i+1) s'):
 ∀(f i:Nat) (s:Stt),i+f=N→P i s→∃s',forGo (kRng lo N) g b f i s= .nx s'∧P N s':=by
 intro f
 induction f with
 |zero=>
  intro i s hi h
  have e:i=N:=by omega
  subst e
  refine⟨s, ?_,h⟩
  unfold forGo
  simp only[kRng,Nat.lt_irrefl,if_false]
  rfl
 |succ f ih=>
  intro i s hi h
  have hl:i<N:=by omega
  obtain⟨σ',e1,s',e2,h'⟩:=body i hl s h
  obtain⟨s2,e3,h2⟩:=ih (i+1) s' (by omega) h'
  refine⟨s2, ?_,h2⟩
  unfold forGo
  simp only[kRng,if_pos hl,e1,e2]
  exact e3
mutual
theorem zbc{l:Nat}{b:List D}{d:D}: ∀t:D,rp (pl l d) (rp (pl l (.lst l b)) t)=rp (pl l d) t
 | .non=>rfl
 | .bool _=>rfl
 | .int _=>rfl
 | .str _=>rfl
 | .exc _=>rfl
 | .fn _=>rfl
 | .tup ds=>by simp only[rp];rw[z2p ds]
 | .ro ds=>by simp only[rp];rw[z2p ds]
 | .fdc ks ds=>by simp only[rp];rw[z2p ds]
 | .lst k ds=>by
  by_cases h:k=l
  ·subst h;simp only[rp,pl,if_true]
  ·have e: ∀x,pl l x k=none:=fun x=>by simp only[pl,if_neg h]
   simp only[rp,e];rw[z2p ds]
 | .dct k ks ds=>by
  by_cases h:k=l
  ·subst h;simp only[rp,pl,if_true]
  ·have e: ∀x,pl l x k=none:=fun x=>by simp only[pl,if_neg h]
   simp only[rp,e];rw[z2p ds]
 | .obj k c ks ds=>by
  by_cases h:k=l
  ·subst h;simp only[rp,pl,if_true]
  ·have e: ∀x,pl l x k=none:=fun x=>by simp only[pl,if_neg h]
   simp only[rp,e];rw[z2p ds]
theorem z2p{l:Nat}{b:List D}{d:D}: ∀t:List D,rpL (pl l d) (rpL (pl l (.lst l b)) t)=rpL (pl l d) t
 |[]=>rfl
 |t::ts=>by simp only[rpL];rw[zbc t,z2p ts]
end
theorem z3B{l:Nat}{b:List D}{d:D}: ∀t:List (Option D),rpO (pl l d) (rpO (pl l (.lst l b)) t)=rpO (pl l d) t
 |[]=>rfl
 |none::ts=>by simp only[rpO];rw[z3B ts]
 |some t::ts=>by simp only[rpO];rw[zbc t,z3B ts]
theorem z2q{f:Nat→Option D}: ∀(a b:List (Option D)),rpO f (a++b)=rpO f a++rpO f b
 |[],b=>rfl
 |none::a,b=>by simp only[List.cons_append,rpO,z2q a b]
 |some d::a,b=>by simp only[List.cons_append,rpO,z2q a b]
theorem z36{f:Nat→Option D}: ∀(a:List (Option D)),(rpO f a).length=a.length
 |[]=>rfl
 |none::a=>by simp only[rpO,List.length_cons,z36 a]
 |some d::a=>by simp only[rpO,List.length_cons,z36 a]
theorem z3C: ∀ds:List D,z06 (ds.map some)=z00 ds
 |[]=>rfl
 |d::ds=>by simp only[List.map_cons,z06,z00,z3C ds]
theorem z2r: ∀a b:List D,z00 (a++b)=z00 a++z00 b
 |[],b=>rfl
 |d::ds,b=>by simp only[List.cons_append,z00,z2r ds b,List.append_assoc]
theorem z6L{l:Nat}: ∀ds:List D,l∈z00 ds.reverse↔l∈z00 ds
 |[]=>Iff.rfl
 |d::ds=>by simp only[List.reverse_cons,z2r,z00,List.mem_append,z6L ds,List.append_nil];exact Or.comm
theorem z3D{l:Nat}{d:D}{ds:List D}(h:l∉z00 ds):rpO (pl l d) (ds.reverse.map some)=ds.reverse.map some:=z5K _ fun k hk=>by
 rw[z3C,z6L] at hk
 unfold pl;rw[if_neg];intro e;subst e;exact h hk
theorem z5i{me:M D}{N:Nat}{cap σ0 tm0:List (Option D)}{l ol:Nat}{Bg:List D→Prop}{Q:Nat→D→Prop}(mono: ∀a b,a≤b→∀y,Q a y→Q b y)(hol:σ0.length=ol)(hz:N<sizeLine)
 (hme: ∀i,i<N→∀b tm n,Bg b→l<n→rpO (pl l (.lst l b)) tm=tm→∃y b' n',Bg b'∧Q n' y∧n≤n'∧l∉labs y∧me ⟨some (.int (0+(i:Nat)))::rpO (pl l (.lst l b)) cap,tm,n⟩= .ok y ⟨some (.int (0+(i:Nat)))::rpO (pl l (.lst l b')) cap,rpO (pl l (.lst l b')) tm,n'⟩):
 ∀(f:Nat) (acc:List D) (o:Option D) (b:List D) (n:Nat),acc.length+f=N→Bg b→l<n→(∀y∈acc,Q n y)→l∉z00 acc→
  ∃ys b' n',ys.length=N∧(∀y∈ys,Q n' y)∧l∉z00 ys∧Bg b'∧n≤n'∧
   z0D (kRng 0 N) (.nm 0) (rt true) me ol f acc.length acc.length ⟨o::rpO (pl l (.lst l b)) cap,(acc.reverse.map some)++(rpO (pl l (.lst l b)) σ0++rpO (pl l (.lst l b)) tm0),n⟩= .ok (.lst n' ys) ⟨rpO (pl l (.lst l b')) σ0,rpO (pl l (.lst l b')) tm0,n'+1⟩:=by
 intro f
 induction f with
 |zero=>
  intro acc o b n hi hb hn hq hf
  have hi:acc.length=N:=by omega
  refine⟨acc,b,n,hi,hq,hf,hb,Nat.le_refl _, ?_⟩
  have l1:(acc.reverse.map some).length=acc.length:=by simp
  unfold z0D
  simp only[kRng,hi,Nat.lt_irrefl,if_false]
  rw[←hi,z0U _ _ _ l1]
  have e2:(acc.reverse.map some).reverse=acc.map some:=by simp
  rw[e2,z0Q]
  simp only[Res.ok.injEq,true_and,Stt.mk.injEq,and_true]
  constructor
  ·rw[z0l _ _ _ l1,z0U _ _ _ (by rw[z36];exact hol)]
  ·rw[←List.append_assoc,Nat.add_zero]
   exact z0l _ _ _ (by simp[z36,hol])
 |succ f ih=>
  intro acc o b n hi hb hn hq hf
  have hlt:acc.length<N:=by omega
  unfold z0D
  simp only[kRng,if_pos hlt,asg,List.set_cons_zero,rt]
  rw[if_pos (by omega)]
  obtain⟨y,b',n',h1,h2,h3,h4,h5⟩:=hme acc.length hlt b ((acc.reverse.map some)++(rpO (pl l (.lst l b)) σ0++rpO (pl l (.lst l b)) tm0)) n hb hn (by rw[z2q,z2q,z3B,z3B,z3D hf])
  rw[h5]
  obtain⟨ys,b2,n2,g1,g2,g3,g4,g5,g6⟩:=ih (acc++[y]) (some (.int (0+(acc.length:Nat)))) b' n' (by simp;omega) h1 (by omega) (by
   intro z hz
   rcases List.mem_append.mp hz with hz|hz
   ·exact mono _ _ h3 z (hq z hz)
   ·rw[List.mem_singleton.mp hz];exact h2) (by
   rw[z2r]
   simp only[z00,List.append_nil,List.mem_append,not_or]
   exact⟨hf,h4⟩)
  refine⟨ys,b2,n2,g1,g2,g3,g4,by omega, ?_⟩
  rw[←g6]
  simp only[Stt.psh,z2q,z3B,z3D hf,List.length_append,List.length_cons,List.length_nil,Nat.zero_add,List.reverse_append,List.reverse_cons,List.reverse_nil,List.nil_append,List.map_append,List.map_cons,List.map_nil,List.cons_append]
  rfl
theorem z6M{ms:List (M D)}{me:M D}{N:Nat}{ix:List Nat}{s:Stt}{l n:Nat}{j:Int}{σ0 tm0:List (Option D)}{b:List D}{Bg:List D→Prop}{Q:Nat→D→Prop}(mono: ∀a b,a≤b→∀y,Q a y→Q b y)(hms:mArgs ms s= .ok [.int j] ⟨σ0,tm0,n⟩)(hj:j.toNat=N)(hj': -(2^62)≤j∧j<2^62)(hz:N<sizeLine)
 (hb:Bg b) (hn:l<n) (f1:rpO (pl l (.lst l b)) σ0=σ0) (f2:rpO (pl l (.lst l b)) tm0=tm0) (f3:rpO (pl l (.lst l b)) (ix.map fun i=>(σ0[i]?).getD none)=ix.map fun i=>(σ0[i]?).getD none)
 (hme: ∀i,i<N→∀b tm n,Bg b→l<n→rpO (pl l (.lst l b)) tm=tm→∃y b' n',Bg b'∧Q n' y∧n≤n'∧l∉labs y∧me ⟨some (.int (0+(i:Nat)))::rpO (pl l (.lst l b)) (ix.map fun i=>(σ0[i]?).getD none),tm,n⟩= .ok y ⟨some (.int (0+(i:Nat)))::rpO (pl l (.lst l b')) (ix.map fun i=>(σ0[i]?).getD none),rpO (pl l (.lst l b')) tm,n'⟩):
 ∃ys b' n',ys.length=N∧(∀y∈ys,Q n' y)∧l∉z00 ys∧Bg b'∧n≤n'∧z0y (z0Z ms) (.nm 0) (rt true) me 1 ix s= .ok (.lst n' ys) ⟨rpO (pl l (.lst l b')) σ0,rpO (pl l (.lst l b')) tm0,n'+1⟩:=by
 obtain⟨ys,b',n',h1,h2,h3,h4,h5,h6⟩:=z5i (me:=me) (N:=N) (cap:=ix.map fun i=>(σ0[i]?).getD none) (σ0:=σ0) (tm0:=tm0) (l:=l) (Bg:=Bg) (Q:=Q) mono rfl hz hme N [] none b n (by simp) hb hn (by intro y h;cases h) (by simp[z00])
 refine⟨ys,b',n',h1,h2,h3,h4,h5, ?_⟩
 unfold z0y
 rw[x_bd,z6K,hms,z3z,z3A hj',z3z,hj]
 rw[f1,f2,f3] at h6
 exact h6
end Mi
namespace Mi
open PySem L2
inductive All2(Q:D→D→Prop):List D→List D→Prop
 |nil:All2 Q [] []
 |cons {a b:D} {as bs:List D}:Q a b→All2 Q as bs→All2 Q (a::as) (b::bs)
theorem z6N{P:Stt→Prop}{l:Nat}{ds:List D}{g:Tg}{b:MS}{tm:List (Option D)}(hP: ∀s,P s→s.tm=some (.lst l ds)::tm)
 (body: ∀d∈ds,∀s,P s→∃σ',asg g d s.σ=some σ'∧∃s',b {s with σ:=σ'}= .nx s'∧P s'):
 ∀(f i:Nat) (s:Stt),i+f=ds.length→P s→∃s',forGo kLst g b f i s= .nx (s'.popn 1)∧P s':=by
 intro f
 induction f with
 |zero=>
  intro i s hi h
  refine⟨s, ?_,h⟩
  unfold forGo
  have e:kLst.at' i s.tm=some none:=by rw[hP s h];show some ds[i]? =_;rw[List.getElem?_eq_none (by omega)]
  simp only[e]
  rfl
 |succ f ih=>
  intro i s hi h
  have hl:i<ds.length:=by omega
  obtain⟨σ',e1,s',e2,h'⟩:=body ds[i] (List.getElem_mem hl) s h
  obtain⟨s2,e3,h2⟩:=ih (i+1) s' (by omega) h'
  refine⟨s2, ?_,h2⟩
  unfold forGo
  have e:kLst.at' i s.tm=some (some ds[i]):=by rw[hP s h];show some ds[i]? =_;rw[List.getElem?_eq_getElem hl]
  simp only[e,e1,e2]
  exact e3
end Mi
namespace Mi
open PySem L2
theorem z5j{K:ItK}{mt:M Bool}{me:M D}{p:D→Bool}{g:D→D}{items:List D}{its fr σ0 tm0:List (Option D)}{ol:Nat}(hk:its.length=K.k)(hol:σ0.length=ol)(hz:items.length<sizeLine)(hat: ∀i rest,K.at' i (its++rest)=some items[i]?)
 (hmt: ∀d∈items,∀tm n,∃n',n≤n'∧mt ⟨some d::fr,tm,n⟩= .ok (p d) ⟨some d::fr,tm,n'⟩)
 (hme: ∀d∈items,p d=true→∀tm n,∃n',n≤n'∧me ⟨some d::fr,tm,n⟩= .ok (g d) ⟨some d::fr,tm,n'⟩):
 ∀(f i:Nat) (acc:List D) (o:Option D) (n:Nat),i+f=items.length→acc.length≤i→∃n',n≤n'∧z0D K (.nm 0) mt me ol f i acc.length ⟨o::fr,(acc.reverse.map some)++(σ0++(its++tm0)),n⟩= .ok (.lst n' (acc++((items.drop i).filter p).map g)) ⟨σ0,tm0,n'+1⟩:=by
 intro f
 induction f with
 |zero=>
  intro i acc o n hi ha
  have hi:i=items.length:=by omega
  refine⟨n,Nat.le_refl _, ?_⟩
  have l1:(acc.reverse.map some).length=acc.length:=by simp
  have e1:((acc.reverse.map some)++(σ0++(its++tm0))).drop (acc.length+ol)=its++tm0:=by
   rw[←List.append_assoc];exact z0l _ _ _ (by simp[hol])
  unfold z0D
  simp only[e1,hat,List.getElem?_eq_none (show items.length≤i by omega)]
  rw[z0U _ _ _ l1]
  have e2:(acc.reverse.map some).reverse=acc.map some:=by simp
  rw[e2,z0Q]
  simp only[Res.ok.injEq,Stt.mk.injEq,and_true,List.drop_eq_nil_of_le (show items.length≤i by omega),List.filter_nil,List.map_nil,List.append_nil,true_and]
  constructor
  ·rw[z0l _ _ _ l1,z0U _ _ _ hol]
  ·have:((acc.reverse.map some)++(σ0++(its++tm0))).drop (acc.length+ol+K.k)=(((acc.reverse.map some)++(σ0++(its++tm0))).drop (acc.length+ol)).drop K.k:=by rw[List.drop_drop]
   rw[this,e1]
   exact z0l _ _ _ hk
 |succ f ih=>
  intro i acc o n hi ha
  have hlt:i<items.length:=by omega
  have e1:((acc.reverse.map some)++(σ0++(its++tm0))).drop (acc.length+ol)=its++tm0:=by
   rw[←List.append_assoc];exact z0l _ _ _ (by simp[hol])
  obtain⟨n1,hn1,h1⟩:=hmt items[i] (List.getElem_mem hlt) ((acc.reverse.map some)++(σ0++(its++tm0))) n
  rw[List.drop_eq_getElem_cons hlt,List.filter_cons]
  unfold z0D
  simp only[e1,hat,List.getElem?_eq_getElem hlt,asg,List.set_cons_zero,h1]
  cases hp:p items[i] with
  |false=>
   obtain⟨n2,hn2,h2⟩:=ih (i+1) acc (some items[i]) n1 (by omega) (by omega)
   exact⟨n2,by omega,h2⟩
  |true=>
   obtain⟨n2,hn2,h2⟩:=hme items[i] (List.getElem_mem hlt) hp ((acc.reverse.map some)++(σ0++(its++tm0))) n1
   obtain⟨n3,hn3,h3⟩:=ih (i+1) (acc++[g items[i]]) (some items[i]) n2 (by omega) (by simp;omega)
   refine⟨n3,by omega, ?_⟩
   simp only[if_pos (show acc.length<sizeLine by omega),h2]
   simp only[List.length_append,List.length_cons,List.length_nil,Nat.zero_add,List.reverse_append,List.reverse_cons,List.reverse_nil,List.nil_append,List.map_append,List.map_cons,List.map_nil,List.cons_append,List.append_assoc] at h3⊢
   exact h3
theorem z6O{mi:M ItK}{K:ItK}{mt:M Bool}{me:M D}{p:D→Bool}{g:D→D}{items:List D}{its:List (Option D)}{ix:List Nat}{s:Stt}{σ tm:List (Option D)}{n:Nat}(hc:mi s= .ok K ⟨σ,its++tm,n⟩)(hk:its.length=K.k)(hz:items.length<sizeLine)(hat: ∀i rest,K.at' i (its++rest)=some items[i]?)(hlen:K.len (its++tm)=items.length)
 (hmt: ∀d∈items,∀tm n,∃n',n≤n'∧mt ⟨some d::(ix.map fun i=>(σ[i]?).getD none),tm,n⟩= .ok (p d) ⟨some d::(ix.map fun i=>(σ[i]?).getD none),tm,n'⟩)
 (hme: ∀d∈items,p d=true→∀tm n,∃n',n≤n'∧me ⟨some d::(ix.map fun i=>(σ[i]?).getD none),tm,n⟩= .ok (g d) ⟨some d::(ix.map fun i=>(σ[i]?).getD none),tm,n'⟩):
 ∃n',n≤n'∧z0y mi (.nm 0) mt me 1 ix s= .ok (.lst n' ((items.filter p).map g)) ⟨σ,tm,n'+1⟩:=by
 obtain⟨n',h2,h3⟩:=z5j (K:=K) (mt:=mt) (me:=me) (σ0:=σ) (tm0:=tm) hk rfl hz hat hmt hme items.length 0 [] none n (by simp) (by simp)
 refine⟨n',h2, ?_⟩
 unfold z0y
 simp only[bd,hc,hlen]
 simp only[List.map_nil,List.reverse_nil,List.nil_append,List.length_nil,List.drop_zero] at h3
 exact h3
theorem z5k{mc:M D}{mt:M Bool}{me:M D}{p:D→Bool}{g:D→D}{l:Nat}{ds:List D}{ix:List Nat}{s:Stt}{σ tm:List (Option D)}{n:Nat}(hc:mc s= .ok (.lst l ds) ⟨σ,tm,n⟩)(hz:ds.length<sizeLine)
 (hmt: ∀d∈ds,∀tm n,∃n',n≤n'∧mt ⟨some d::(ix.map fun i=>(σ[i]?).getD none),tm,n⟩= .ok (p d) ⟨some d::(ix.map fun i=>(σ[i]?).getD none),tm,n'⟩)
 (hme: ∀d∈ds,p d=true→∀tm n,∃n',n≤n'∧me ⟨some d::(ix.map fun i=>(σ[i]?).getD none),tm,n⟩= .ok (g d) ⟨some d::(ix.map fun i=>(σ[i]?).getD none),tm,n'⟩):
 ∃n',n≤n'∧z0y (z0Y mc) (.nm 0) mt me 1 ix s= .ok (.lst n' ((ds.filter p).map g)) ⟨σ,tm,n'+1⟩:=
 z6O (K:=kLst) (its:=[some (.lst l ds)]) (items:=ds) (by unfold z0Y;rw[x_bd,hc];rfl) rfl hz (fun i rest=>rfl) rfl hmt hme
noncomputable def firstAt(hit:Nat→Option D):Nat→Nat→Option D
 |0,_=>none
 |f+1,i=>match hit i with|some v=>some v|none=>firstAt hit f (i+1)
theorem z6P{K:ItK}{g:Tg}{b:MS}{N:Nat}{P:Nat→Stt→Prop}{R:D→Stt→Prop}{item:Nat→D}{hit:Nat→Option D}(hat: ∀i s,P i s→K.at' i s.tm=some (if i<N then some (item i) else none))
 (body: ∀i,i<N→∀s,P i s→∃σ',asg g (item i) s.σ=some σ'∧match hit i with|none=> ∃s',b {s with σ:=σ'}= .nx s'∧P (i+1) s'|some v=> ∃s',b {s with σ:=σ'}= .rt v s'∧R v s'):
 ∀(f i:Nat) (s:Stt),i+f=N→P i s→match firstAt hit f i with|none=> ∃s',forGo K g b f i s= .nx (s'.popn K.k)∧P N s'|some v=> ∃s',forGo K g b f i s= .rt v (s'.popn K.k)∧R v s':=by
 intro f
 induction f with
 |zero=>
  intro i s hi h
  have e:i=N:=by omega
  subst e
  refine⟨s, ?_,h⟩
  unfold forGo
  simp only[hat i s h,Nat.lt_irrefl,if_false]
 |succ f ih=>
  intro i s hi h
  have hl:i<N:=by omega
  obtain⟨σ',e1,hb⟩:=body i hl s h
  unfold firstAt
  cases hh:hit i with
  |none=>
   rw[hh] at hb
   obtain⟨s',e2,h'⟩:=hb
   have q:=ih (i+1) s' (by omega) h'
   have e3:forGo K g b (f+1) i s=forGo K g b f (i+1) s':=by
    conv=>lhs;unfold forGo
    simp only[hat i s h,if_pos hl,e1,e2]
   simp only[e3]
   exact q
  |some v=>
   rw[hh] at hb
   obtain⟨s',e2,h'⟩:=hb
   refine⟨s', ?_,h'⟩
   unfold forGo
   simp only[hat i s h,if_pos hl,e1,e2]
end Mi
namespace Mi
open PySem L2
end Mi
set_option maxHeartbeats 1000000
namespace Mi
open PySem L2
noncomputable def z7O(o:Option (List D))(t:D)(n:Nat):RF:=match o with|some ts=> .ex t ts n|none=> .no
noncomputable def _root_.Mi.RS.finX(k:Nat):RS→RF
 | .nx s'=>finO (z04 s'.tm) .non s'.n
 | .rt t s'=>finO (z04 s'.tm) t s'.n
 | .ex d s'=>z7O (z04 (z1b k s'.tm)) d s'.n
 |_=> .no
theorem z5l{ts:List D}{t:D}{n:Nat}:z7O (some ts) t n= .ex t ts n:=(rfl)
theorem zcg{k:Nat}{t:D}{σ tm:List (Option D)}{n:Nat}:(RS.rt t ⟨σ,tm,n⟩).finX k=finO (z04 tm) t n:=(rfl)
theorem zch{k:Nat}{σ tm:List (Option D)}{n:Nat}:(RS.nx ⟨σ,tm,n⟩).finX k=finO (z04 tm) .non n:=(rfl)
theorem zci{k:Nat}{t:D}{σ tm:List (Option D)}{n:Nat}:(RS.ex t ⟨σ,tm,n⟩).finX k=z7O (z04 (z1b k tm)) t n:=(rfl)
theorem zbd{nl:Nat}{mb:MS}{ts:List D}{n:Nat}:runX nl mb ts n=(mb ⟨ts.map some++List.replicate (nl -ts.length) none,ts.map some,n⟩).finX ts.length:=by
 unfold runX RS.finX finO z7O
 cases mb ⟨ts.map some++List.replicate (nl -ts.length) none,ts.map some,n⟩<;>rfl
theorem z9C{f:FM}{ms:List (M D)}{s:Stt}:z1R f ms s=(mArgs ms s).bnd fun ts s1=>z1A (f ts s1.n) ts s1:=by
 unfold z1R bd Res.bnd
 cases mArgs ms s<;>rfl
theorem zcj{t:D}{ts:List D}{n':Nat}{s:Stt}:z1A (.ok t ts n') ts s= .ok t {s with n:=n'}:=by
 unfold z1A;simp
theorem zck{t:D}{ts:List D}{n':Nat}{s:Stt}:z1A (.ex t ts n') ts s= .ex t {s with n:=n'}:=by
 unfold z1A;simp
theorem zcl{c:Str}{s:Stt}:mFnv c s= .ok (.fn c) s:=(rfl)
noncomputable def vK(tb:Str→Option FM)(ms:List (M D)):D→M D
 | .fn c=>(match tb c with|some f=>z1R f ms|none=>fl)
 |_=>fl
theorem z9D{i:Nat}{tb:Str→Option FM}{ms:List (M D)}{s:Stt}:z87 i tb ms s=(mVar i s).bnd (vK tb ms):=by
 unfold z87 bd Res.bnd
 cases mVar i s with
 |ok d s1=>cases d<;>rfl
 |ex d s1=>rfl
 |no=>rfl
noncomputable def iK(tb:Str→Option Bool):D→M D
 | .exc c=>(match tb c with|some b=>rt (.bool b)|none=>fl)
 |_=>fl
theorem zcm{tb:Str→Option Bool}{m:M D}{s:Stt}:mIsX tb m s=(m s).bnd (iK tb):=by
 unfold mIsX bd Res.bnd
 cases m s with
 |ok d s1=>cases d<;>rfl
 |ex d s1=>rfl
 |no=>rfl
theorem z3E{tb:Str→Option Bool}{c:Str}{b:Bool}{s:Stt}(h:tb c=some b):iK tb (.exc c) s= .ok (.bool b) s:=by
 show(match tb c with|some b=>rt (D.bool b)|none=>fl) s=_
 rw[h];rfl
theorem z9E{c:Str}{s:Stt}:z4G c s= .ex (.exc c) s:=(rfl)
noncomputable def tK(k:Str→Bool)(ie N:Nat)(mh:MS):RS→RS
 | .ex (.exc c) s'=>if k c then(match mh {σ:=s'.σ.set ie (some (.exc c)),tm:=z1b N s'.tm,n:=s'.n} with
  | .rt d s''=> .rt d s''
  |_=> .no) else .no
 | .ex _ _=> .no
 |r=>r
theorem zcn{k:Str→Bool}{ie:Nat}{mb mh:MS}{s:Stt}:sTry k ie mb mh s=tK k ie s.tm.length mh (mb s):=by
 unfold sTry tK
 cases mb s with
 |ex d s'=>cases d<;>rfl
 |_=>rfl
theorem zco{k:Str→Bool}{ie N:Nat}{mh:MS}{s:Stt}:tK k ie N mh (.nx s)= .nx s:=(rfl)
theorem zcp{k:Str→Bool}{ie N:Nat}{mh:MS}{d:D}{s:Stt}:tK k ie N mh (.rt d s)= .rt d s:=(rfl)
noncomputable def rtO:RS→RS
 | .rt d s''=> .rt d s''
 |_=> .no
theorem zbe{d:D}{s:Stt}:rtO (.rt d s)= .rt d s:=(rfl)
theorem zcq{k:Str→Bool}{ie N:Nat}{mh:MS}{c:Str}{σ tm:List (Option D)}{n:Nat}(h:k c=true):tK k ie N mh (.ex (.exc c) ⟨σ,tm,n⟩)=rtO (mh ⟨σ.set ie (some (.exc c)),z1b N tm,n⟩):=by
 unfold tK rtO;simp only[h,if_true]
theorem zcr{α:Type}{d:D}{s:Stt}{f:α→MS}:((Res.ex d s:Res α).lf f:RS)= .ex d s:=(rfl)
theorem zcs{d:D}{s:Stt}{m:MS}:((RS.ex d s).sq m:RS)= .ex d s:=(rfl)
end Mi
set_option maxHeartbeats 4000000
namespace Mi
open PySem L2
theorem z6Q{K:ItK}{me:M D}{y:Nat→Nat→D}{items:List D}{its fr σ0 tm0:List (Option D)}{ol:Nat}(hk:its.length=K.k)(hol:σ0.length=ol)(hz:items.length<sizeLine)(hat: ∀i rest,K.at' i (its++rest)=some items[i]?)
 (hme: ∀(i:Nat) (hi:i<items.length) tm n,me ⟨some items[i]::fr,tm,n⟩= .ok (y i n) ⟨some items[i]::fr,tm,n+1⟩):
 ∀(f i:Nat) (acc:List D) (o:Option D) (n:Nat),i+f=items.length→acc.length=i→z0D K (.nm 0) (rt true) me ol f i acc.length ⟨o::fr,(acc.reverse.map some)++(σ0++(its++tm0)),n⟩= .ok (.lst (n+f) (acc++(List.range f).map fun j=>y (i+j) (n+j))) ⟨σ0,tm0,n+f+1⟩:=by
 intro f
 induction f with
 |zero=>
  intro i acc o n hi ha
  have hi:i=items.length:=by omega
  have l1:(acc.reverse.map some).length=acc.length:=by simp
  have e1:((acc.reverse.map some)++(σ0++(its++tm0))).drop (acc.length+ol)=its++tm0:=by
   rw[←List.append_assoc];exact z0l _ _ _ (by simp[hol])
  unfold z0D
  simp only[e1,hat,List.getElem?_eq_none (show items.length≤i by omega)]
  rw[z0U _ _ _ l1]
  have e2:(acc.reverse.map some).reverse=acc.map some:=by simp
  rw[e2,z0Q]
  simp only[Res.ok.injEq,Stt.mk.injEq,and_true,List.range_zero,List.map_nil,List.append_nil,true_and,Nat.add_zero]
  constructor
  ·rw[z0l _ _ _ l1,z0U _ _ _ hol]
  ·have:((acc.reverse.map some)++(σ0++(its++tm0))).drop (acc.length+ol+K.k)=(((acc.reverse.map some)++(σ0++(its++tm0))).drop (acc.length+ol)).drop K.k:=by rw[List.drop_drop]
   rw[this,e1]
   exact z0l _ _ _ hk
 |succ f ih=>
  intro i acc o n hi ha
  have hlt:i<items.length:=by omega
  have e1:((acc.reverse.map some)++(σ0++(its++tm0))).drop (acc.length+ol)=its++tm0:=by
   rw[←List.append_assoc];exact z0l _ _ _ (by simp[hol])
  have h2:=hme i hlt ((acc.reverse.map some)++(σ0++(its++tm0))) n
  have h3:=ih (i+1) (acc++[y i n]) (some items[i]) (n+1) (by omega) (by simp;omega)
  unfold z0D
  simp only[e1,hat,List.getElem?_eq_getElem hlt,asg,List.set_cons_zero,rt,if_pos (show acc.length<sizeLine by omega),h2]
  simp only[List.length_append,List.length_cons,List.length_nil,Nat.zero_add,List.reverse_append,List.reverse_cons,List.reverse_nil,List.nil_append,List.map_append,List.map_cons,List.map_nil,List.cons_append,List.append_assoc] at h3
  simp only[Stt.psh]
  rw[h3,List.range_succ_eq_map,List.map_cons,List.map_map]
  simp only[Res.ok.injEq,D.lst.injEq,Stt.mk.injEq,true_and]
  refine⟨⟨by omega, ?_⟩,by omega⟩
  congr 1
  simp only[List.cons.injEq]
  refine⟨rfl,List.map_congr_left fun j _=> ?_⟩
  simp only[Function.comp]
  rw[show i+1+j=i+(j+1) by omega,show n+1+j=n+(j+1) by omega]
theorem z7P{mi:M ItK}{K:ItK}{me:M D}{y:Nat→Nat→D}{items:List D}{its:List (Option D)}{ix:List Nat}{s:Stt}{σ tm:List (Option D)}{n:Nat}(hc:mi s= .ok K ⟨σ,its++tm,n⟩)(hk:its.length=K.k)(hz:items.length<sizeLine)(hat: ∀i rest,K.at' i (its++rest)=some items[i]?)(hlen:K.len (its++tm)=items.length)
 (hme: ∀(i:Nat) (hi:i<items.length) tm n,me ⟨some items[i]::(ix.map fun i=>(σ[i]?).getD none),tm,n⟩= .ok (y i n) ⟨some items[i]::(ix.map fun i=>(σ[i]?).getD none),tm,n+1⟩):
 z0y mi (.nm 0) (rt true) me 1 ix s= .ok (.lst (n+items.length) ((List.range items.length).map fun j=>y j (n+j))) ⟨σ,tm,n+items.length+1⟩:=by
 have h3:=z6Q (K:=K) (me:=me) (y:=y) (σ0:=σ) (tm0:=tm) hk rfl hz hat hme items.length 0 [] none n (by simp) (by simp)
 unfold z0y
 simp only[bd,hc,hlen]
 simp only[List.map_nil,List.reverse_nil,List.nil_append,List.length_nil,Nat.zero_add] at h3
 exact h3
noncomputable def z2A(lo c:Int)(N:Nat):List D:=(List.range N).map fun(i:Nat)=>D.int (lo+(i:Int)*c)
theorem z4c{ms:List (M D)}{me:M D}{y:Nat→Nat→D}{a b c:Int}{ix:List Nat}{s:Stt}{σ tm:List (Option D)}{n:Nat}(hc:mArgs ms s= .ok [.int a, .int b, .int c] ⟨σ,tm,n⟩)(hr:Rg3 a b c)(hz:(Builtin.Range.rangeSize a b c).toNat<sizeLine)
 (hme: ∀i,i<(Builtin.Range.rangeSize a b c).toNat→∀tm n,me ⟨some (.int (a+(i:Int)*c))::(ix.map fun i=>(σ[i]?).getD none),tm,n⟩= .ok (y i n) ⟨some (.int (a+(i:Int)*c))::(ix.map fun i=>(σ[i]?).getD none),tm,n+1⟩):
 z0y (z3V ms) (.nm 0) (rt true) me 1 ix s= .ok (.lst (n+(Builtin.Range.rangeSize a b c).toNat) ((List.range (Builtin.Range.rangeSize a b c).toNat).map fun j=>y j (n+j))) ⟨σ,tm,n+(Builtin.Range.rangeSize a b c).toNat+1⟩:=by
 have h:=z7P (mi:=z3V ms) (K:=z6h a c (Builtin.Range.rangeSize a b c).toNat) (me:=me) (y:=y) (items:=z2A a c (Builtin.Range.rangeSize a b c).toNat) (its:=[]) (ix:=ix) (s:=s) (σ:=σ) (tm:=tm) (n:=n)
  (by unfold z3V bd;rw[hc];simp only[rng3,if_pos hr];rfl) rfl (by simp only[z2A,List.length_map,List.length_range];exact hz) (fun i rest=>by
   simp only[z6h,z2A,List.getElem?_map]
   by_cases hi:i<(Builtin.Range.rangeSize a b c).toNat
   ·rw[if_pos hi,List.getElem?_range hi];rfl
   ·rw[if_neg hi,List.getElem?_eq_none (by simpa using hi)];rfl) (by simp only[z2A,List.length_map,List.length_range];rfl)
  (fun i hi tm n=>by
   simp only[z2A,List.length_map,List.length_range] at hi
   have e:(z2A a c (Builtin.Range.rangeSize a b c).toNat)[i]'(by simpa[z2A] using hi)= .int (a+(i:Int)*c):=by simp[z2A]
   rw[e]
   exact hme i hi tm n)
 have el:(z2A a c (Builtin.Range.rangeSize a b c).toNat).length=(Builtin.Range.rangeSize a b c).toNat:=by simp[z2A]
 rw[el] at h
 exact h
theorem z6R{K:ItK}{me:M D}{n0:Nat}{g:D→D}{items:List D}{its fr σ0 tm0:List (Option D)}{ol:Nat}(hk:its.length=K.k)(hol:σ0.length=ol)(hz:items.length<sizeLine)(hat: ∀i rest,K.at' i (its++rest)=some items[i]?)
 (hme: ∀d∈items,∀tm n,n0≤n→∃n',n≤n'∧me ⟨some d::fr,tm,n⟩= .ok (g d) ⟨some d::fr,tm,n'⟩):
 ∀(f i:Nat) (acc:List D) (o:Option D) (n:Nat),n0≤n→i+f=items.length→acc.length=i→∃n',n≤n'∧z0D K (.nm 0) (rt true) me ol f i acc.length ⟨o::fr,(acc.reverse.map some)++(σ0++(its++tm0)),n⟩= .ok (.lst n' (acc++(items.drop i).map g)) ⟨σ0,tm0,n'+1⟩:=by
 intro f
 induction f with
 |zero=>
  intro i acc o n h0 hi ha
  have hi:i=items.length:=by omega
  refine⟨n,Nat.le_refl _, ?_⟩
  have l1:(acc.reverse.map some).length=acc.length:=by simp
  have e1:((acc.reverse.map some)++(σ0++(its++tm0))).drop (acc.length+ol)=its++tm0:=by
   rw[←List.append_assoc];exact z0l _ _ _ (by simp[hol])
  unfold z0D
  simp only[e1,hat,List.getElem?_eq_none (show items.length≤i by omega)]
  rw[z0U _ _ _ l1]
  have e2:(acc.reverse.map some).reverse=acc.map some:=by simp
  rw[e2,z0Q]
  simp only[Res.ok.injEq,Stt.mk.injEq,and_true,List.drop_eq_nil_of_le (show items.length≤i by omega),List.map_nil,List.append_nil,true_and]
  constructor
  ·rw[z0l _ _ _ l1,z0U _ _ _ hol]
  ·have:((acc.reverse.map some)++(σ0++(its++tm0))).drop (acc.length+ol+K.k)=(((acc.reverse.map some)++(σ0++(its++tm0))).drop (acc.length+ol)).drop K.k:=by rw[List.drop_drop]
   rw[this,e1]
   exact z0l _ _ _ hk
 |succ f ih=>
  intro i acc o n h0 hi ha
  have hlt:i<items.length:=by omega
  have e1:((acc.reverse.map some)++(σ0++(its++tm0))).drop (acc.length+ol)=its++tm0:=by
   rw[←List.append_assoc];exact z0l _ _ _ (by simp[hol])
  obtain⟨n2,hn2,h2⟩:=hme items[i] (List.getElem_mem hlt) ((acc.reverse.map some)++(σ0++(its++tm0))) n h0
  obtain⟨n3,hn3,h3⟩:=ih (i+1) (acc++[g items[i]]) (some items[i]) n2 (by omega) (by omega) (by simp;omega)
  refine⟨n3,by omega, ?_⟩
  rw[List.drop_eq_getElem_cons hlt]
  unfold z0D
  simp only[e1,hat,List.getElem?_eq_getElem hlt,asg,List.set_cons_zero,rt,if_pos (show acc.length<sizeLine by omega),h2]
  simp only[Stt.psh,List.length_append,List.length_cons,List.length_nil,Nat.zero_add,List.reverse_append,List.reverse_cons,List.reverse_nil,List.nil_append,List.map_append,List.map_cons,List.map_nil,List.cons_append,List.append_assoc] at h3⊢
  exact h3
theorem z7Q{mi:M ItK}{K:ItK}{me:M D}{n0:Nat}{g:D→D}{items:List D}{its:List (Option D)}{ix:List Nat}{s:Stt}{σ tm:List (Option D)}{n:Nat}(hc:mi s= .ok K ⟨σ,its++tm,n⟩)(hn:n0≤n)(hk:its.length=K.k)(hz:items.length<sizeLine)(hat: ∀i rest,K.at' i (its++rest)=some items[i]?)(hlen:K.len (its++tm)=items.length)
 (hme: ∀d∈items,∀tm n,n0≤n→∃n',n≤n'∧me ⟨some d::(ix.map fun i=>(σ[i]?).getD none),tm,n⟩= .ok (g d) ⟨some d::(ix.map fun i=>(σ[i]?).getD none),tm,n'⟩):
 ∃n',n≤n'∧z0y mi (.nm 0) (rt true) me 1 ix s= .ok (.lst n' (items.map g)) ⟨σ,tm,n'+1⟩:=by
 obtain⟨n',h2,h3⟩:=z6R (K:=K) (me:=me) (n0:=n0) (σ0:=σ) (tm0:=tm) hk rfl hz hat hme items.length 0 [] none n hn (by simp) (by simp)
 refine⟨n',h2, ?_⟩
 unfold z0y
 simp only[bd,hc,hlen]
 simp only[List.map_nil,List.reverse_nil,List.nil_append,List.length_nil,List.drop_zero] at h3
 exact h3
theorem zbf(lo:Int)(N i:Nat)(rest:List (Option D)):(kRng lo N).at' i ([]++rest)=some (z1p lo N)[i]? :=by
 simp only[kRng,z1p,List.getElem?_map]
 by_cases hi:i<N
 ·rw[if_pos hi,List.getElem?_range hi];rfl
 ·rw[if_neg hi,List.getElem?_eq_none (by simpa using hi)];rfl
end Mi
set_option maxHeartbeats 1000000
namespace My
open PySem L2 Mi
noncomputable def isInt:D→Bool
 | .int _=>true
 |_=>false
end My
namespace My
open PySem L2 Mi
theorem at0{a:D}{l:List D}:atI (a::l) 0=some a:=z2I (by decide) rfl
theorem at1{a b:D}{l:List D}:atI (a::b::l) 1=some b:=z2I (by decide) rfl
theorem at2{a b c:D}{l:List D}:atI (a::b::c::l) 2=some c:=z2I (by decide) rfl
theorem at3{a b c d:D}{l:List D}:atI (a::b::c::d::l) 3=some d:=z2I (by decide) rfl
theorem z9F{i j:Int}{s:Stt}:eqD (.int i) (.int j) s= .ok (.bool (i==j)) s:=by
 rw[y_eq (by simp[eqC,Mi.plain,er,PyData.canLay0,PyData.depth])];simp only[er,PyData.eqv]
theorem c0:((0:Nat):Int)=0:=rfl
theorem c1:((1:Nat):Int)=1:=rfl
theorem c2:((2:Nat):Int)=2:=rfl
theorem c3:((3:Nat):Int)=3:=rfl
theorem c4:((4:Nat):Int)=4:=rfl
noncomputable def Gd(t:D):Prop:=plain t=true∧(er t).canLay0=true
noncomputable def GdL(ds:List D):Prop:=z1Q ds=true∧PyData.canLayAll0 (erL ds)=true
theorem Gd.tup{ds:List D}:Gd (.tup ds)↔GdL ds:=by simp only[Gd,GdL,Mi.plain,er,PyData.canLay0]
theorem Gd.lst{l:Nat}{ds:List D}:Gd (.lst l ds)↔GdL ds:=by simp only[Gd,GdL,Mi.plain,er,PyData.canLay0]
theorem GdL.cons{d:D}{ds:List D}:GdL (d::ds)↔Gd d∧GdL ds:=by
 simp only[Gd,GdL,z1Q,erL,PyData.canLayAll0,Bool.and_eq_true]
 constructor
 ·rintro ⟨⟨a,b⟩,c,d⟩;exact⟨⟨a,c⟩,b,d⟩
 ·rintro ⟨⟨a,c⟩,b,d⟩;exact⟨⟨a,b⟩,c,d⟩
end My
namespace My
open PySem L2 Mi
theorem zl:sizeLine=16777216:=rfl
section
variable{a b c d:D}{s:Stt}
theorem t0:tupD [] s= .ok (.tup []) s:=z6w (by decide)
theorem t1:tupD [a] s= .ok (.tup [a]) s:=z6w (by rw[zl];simp)
theorem t2:tupD [a,b] s= .ok (.tup [a,b]) s:=z6w (by rw[zl];simp)
theorem t3:tupD [a,b,c] s= .ok (.tup [a,b,c]) s:=z6w (by rw[zl];simp)
theorem t4:tupD [a,b,c,d] s= .ok (.tup [a,b,c,d]) s:=z6w (by rw[zl];simp)
theorem k0{σ tm:List (Option D)}{n:Nat}:lstM [] ⟨σ,tm,n⟩= .ok (.lst n []) ⟨σ,tm,n+1⟩:=z46 (by rw[zl];simp)
theorem k1{σ tm:List (Option D)}{n:Nat}:lstM [a] ⟨σ,tm,n⟩= .ok (.lst n [a]) ⟨σ,tm,n+1⟩:=z46 (by rw[zl];simp)
theorem k2{σ tm:List (Option D)}{n:Nat}:lstM [a,b] ⟨σ,tm,n⟩= .ok (.lst n [a,b]) ⟨σ,tm,n+1⟩:=z46 (by rw[zl];simp)
theorem k3{σ tm:List (Option D)}{n:Nat}:lstM [a,b,c] ⟨σ,tm,n⟩= .ok (.lst n [a,b,c]) ⟨σ,tm,n+1⟩:=z46 (by rw[zl];simp)
theorem k4{σ tm:List (Option D)}{n:Nat}:lstM [a,b,c,d] ⟨σ,tm,n⟩= .ok (.lst n [a,b,c,d]) ⟨σ,tm,n+1⟩:=z46 (by rw[zl];simp)
end
end My
namespace My
open PySem L2 Mi
local macro_rules | `(tactic| walk_at "mr") => `(tactic| (simp (config := { dsimp := false }) only [z96, x_bd, z3z, z6l, z6m, z8X, z8Y, z8Z, z90, z91, z92, z93, x_rt, x_fl, z97, z6n, z98, z99, z31, z9a, x_C, z9b, z9c, z6o, z6p, x_tB, x_tI, x_tT, x_tL, z9d, x_or, z9e, z6q, z9f, z6r, z9g, x_it, x_if, z41, z42, x_cb, z6s, z2m, z9h, z6t, z43, z9i, z2n, z44, z45, z6u, x_sl,
 z6v,z9j,y_lt,y_le,y_gt,y_ge,z9k,z9l,z9m,z9n,z9o,z9p,z9q,z6x,z6y,z6z,z9r,z9s,z9t,z9u,z6A,z6B,z6C,z47,z48,
 z9v,z6D,z9w,z9x,z9y,z6E,z49,z4a,z9z,x_sT,x_sF,z2o,z9A,z7M,z6F,z9B,z1J,z94,z95,z2l,isiD,z04,asg,asgL,
 List.map_cons,List.map_nil,List.replicate,List.nil_append,List.cons_append,List.append_nil,List.getElem?_cons_zero,List.getElem?_cons_succ,List.getElem?_nil,List.set_cons_zero,List.set_cons_succ,List.length_cons,List.length_nil,Nat.reduceAdd,Nat.reduceSub,Option.map_some,Option.map_none,Bool.not_true,Bool.not_false,String.reduceBEq,beq_self_eq_true,Nat.zero_add,Nat.sub_self,t0,t1,t2,t3,t4,k0,k1,k2,k3,k4,Int.reduceBEq,Bool.or_false,Bool.false_or,Bool.true_or,Bool.or_true,Bool.and_true,Bool.true_and,Bool.and_false,Bool.false_and,at0,at1,at2,at3,z9F,z2J,z0g,z4K,z4L,z6G,z0r,z6H,z33,z6I,z6J,z4b,z34]))
noncomputable def Bg(c x:Int):Prop:=0≤c∧0≤x∧x<2147483647
theorem z1L(l:Nat)(c x top:Int)(n:Nat)(h:Bg c x)(ht:0<top)(ht':top<2^200): ∃r c' x',0≤r∧r<top∧Bg c' x'∧z03 [.lst l [.int c, .int x], .int top] n= .ok (.int r) [.lst l [.int c', .int x'], .int top] n:=by
 unfold z03 z30
 obtain⟨h0,h1,h2⟩:=h
 by_cases hc:0<c
 ·refine⟨c %top,c/top,x,Int.emod_nonneg _ (by omega),Int.emod_lt_of_pos _ ht,⟨Int.ediv_nonneg h0 (by omega),h1,h2⟩, ?_⟩
  walk_at "mr"
  simp only[hc,decide_true]
  walk_at "mr"
  rw[z32 ht]
  walk_at "mr"
  rw[z4J ⟨ht,by omega⟩]
  walk_at "mr"
  rw[zba (j:=0) rfl (by simp[labs])]
  walk_at "mr"
 ·have hx0:=Int.emod_nonneg (x*48271+7919) (show(2147483647:Int)≠0 by decide)
  have hx1:=Int.emod_lt_of_pos (x*48271+7919) (show(0:Int)<2147483647 by decide)
  generalize hy:(x*48271+7919) %2147483647=y at hx0 hx1
  refine⟨(y^(3:Int).toNat %2147483587/7*69621 %1073741789) %top,c,y,Int.emod_nonneg _ (by omega),Int.emod_lt_of_pos _ ht,⟨h0,hx0,hx1⟩, ?_⟩
  walk_at "mr"
  simp only[hc,decide_false]
  walk_at "mr"
  rw[z1K (.inl ⟨by omega,by omega⟩)]
  walk_at "mr"
  rw[z32 (by decide),hy]
  walk_at "mr"
  rw[zba (j:=1) rfl (by simp[labs])]
  walk_at "mr"
  rw[z7L ⟨by decide,by decide,by omega⟩]
  walk_at "mr"
  rw[z32 (by decide)]
  walk_at "mr"
  rw[z4J ⟨by decide,by decide⟩]
  walk_at "mr"
  rw[z1K (.inr ⟨by decide,by decide⟩)]
  walk_at "mr"
  rw[z32 (by decide)]
  walk_at "mr"
  rw[z32 ht]
  walk_at "mr"
end My
namespace My
open PySem L2 Mi
local macro_rules | `(tactic| walk_at "mr") => `(tactic| (simp (config := { dsimp := false }) only [z96, x_bd, z3z, z6l, z6m, z8X, z8Y, z8Z, z90, z91, z92, z93, x_rt, x_fl, z97, z6n, z98, z99, z31, z9a, x_C, z9b, z9c, z6o, z6p, x_tB, x_tI, x_tT, x_tL, z9d, x_or, z9e, z6q, z9f, z6r, z9g, x_it, x_if, z41, z42, x_cb, z6s, z2m, z9h, z6t, z43, z9i, z2n, z44, z45, z6u, x_sl,
 z6v,z9j,y_lt,y_le,y_gt,y_ge,z9k,z9l,z9m,z9n,z9o,z9p,z9q,z6x,z6y,z6z,z9r,z9s,z9t,z9u,z6A,z6B,z6C,z47,z48,
 z9v,z6D,z9w,z9x,z9y,z6E,z49,z4a,z9z,x_sT,x_sF,z2o,z9A,z7M,z6F,z9B,z1J,z94,z95,z2l,isiD,z04,asg,asgL,
 List.map_cons,List.map_nil,List.replicate,List.nil_append,List.cons_append,List.append_nil,List.getElem?_cons_zero,List.getElem?_cons_succ,List.getElem?_nil,List.set_cons_zero,List.set_cons_succ,List.length_cons,List.length_nil,Nat.reduceAdd,Nat.reduceSub,Option.map_some,Option.map_none,Bool.not_true,Bool.not_false,String.reduceBEq,beq_self_eq_true,Nat.zero_add,Nat.sub_self,t0,t1,t2,t3,t4,k0,k1,k2,k3,k4,Int.reduceBEq,Bool.or_false,Bool.false_or,Bool.true_or,Bool.or_true,Bool.and_true,Bool.true_and,Bool.and_false,Bool.false_and,at0,at1,at2,at3,z9F,z7N,z6K,z89,Int.zero_add,z2J,z0g,z4K,z4L,z6G,z0r,z6H,z33,z6I,z6J,z4b,z34]))
theorem z8a{ns:List Int}{a:Nat}(h:a<ns.length):atI (ns.map D.int) (a:Int)=some (.int ns[a]):=z2I (by omega) (by simp[h])
theorem zbg(ns:List Int)(a n:Nat)(ha:a<1000)(hl:ns.length<1000): ∃c x,Bg c x∧z1I [.ro (ns.map .int), .int a] n= .ok (.lst n [.int c, .int x]) [.ro (ns.map .int), .int a] (n+1):=by
 unfold z1I z40
 walk_at "mr"
 have key: ∃c:Int,0≤c∧iteS (decide ((a:Int)<((ns.map D.int).length:Int))) (sAsg (Tg.nm 2) (mCB [mBin (mVar 0) (mVar 1) ixD] absD)) sNx ⟨[some (.ro (ns.map .int)),some (.int a),some (.int 0),none,none],[some (.ro (ns.map .int)),some (.int a)],n⟩= .nx ⟨[some (.ro (ns.map .int)),some (.int a),some (.int c),none,none],[some (.ro (ns.map .int)),some (.int a)],n⟩:=by
  by_cases h:a<ns.length
  ·refine⟨if ns[a]<0 then -ns[a] else ns[a], ?_, ?_⟩
   rotate_left
   ·rw[show decide ((a:Int)<((ns.map D.int).length:Int))=true by simp[h]]
    walk_at "mr"
    rw[z8a h]
    walk_at "mr"
   ·split<;>omega
  ·refine⟨0,by decide, ?_⟩
   rw[show decide ((a:Int)<((ns.map D.int).length:Int))=false by simp;omega]
   walk_at "mr"
 obtain⟨c,hc,e1⟩:=key
 rw[e1]
 walk_at "mr"
 rw[z32 (by decide)]
 walk_at "mr"
 rw[z1K (.inl ⟨by decide,by decide⟩)]
 walk_at "mr"
 have q0:=Int.emod_nonneg c (show(2147483629:Int)≠0 by decide)
 have q1:=Int.emod_lt_of_pos c (show(0:Int)<2147483629 by decide)
 rw[z7L ⟨by decide,by decide,by omega⟩]
 walk_at "mr"
 rw[z32 (by decide)]
 walk_at "mr"
 have w0:((ns.map D.int).length:Int)=ns.length:=by simp
 rw[w0]
 generalize hk:(if(60:Int)<(ns.length:Int) then(60:Int) else(ns.length:Int))=k
 have hk0:0≤k∧k≤60∧k≤ns.length:=by split at hk<;>omega
 rw[z3A ⟨by omega,by omega⟩]
 walk_at "mr"
 have p0:=Int.emod_nonneg ((c %2147483629+104729*(a:Int)+17)^(5:Int).toNat) (show(2147483647:Int)≠0 by decide)
 have p1:=Int.emod_lt_of_pos ((c %2147483629+104729*(a:Int)+17)^(5:Int).toNat) (show(0:Int)<2147483647 by decide)
 generalize (c %2147483629+104729*(a:Int)+17)^(5:Int).toNat %2147483647=x0 at p0 p1
 obtain⟨s',e2,x,o,hx0,hx1,rfl⟩:=z35 (P:=fun i s=> ∃(x:Int) (o:Option D),0≤x∧x<2147483647∧s=⟨[some (.ro (ns.map .int)),some (.int a),some (.int c),some (.int x),o],[some (.ro (ns.map .int)),some (.int a)],n⟩) (lo:=0) (N:=k.toNat) (g:= .nm 4) (b:=sAsg (.nm 3) (mBin (mBin (mBin (mBin (mVar 3) (mC (.int 48271)) mulD) (mBin (mBin (mBin (mVar 0) (mVar 4) ixD) (mC (.int 2147483587)) modD) (mBin (mVar 4) (mC (.int 3)) addD) mulD) addD) (mVar 4) addD) (mC (.int 2147483629)) modD)) (by
  rintro i hi s ⟨x,o,h0,h1,rfl⟩
  have hi':i<ns.length:=by omega
  refine⟨[some (.ro (ns.map .int)),some (.int a),some (.int c),some (.int x),some (.int i)],by simp only[Int.zero_add];rfl, ?_⟩
  refine⟨⟨[some (.ro (ns.map .int)),some (.int a),some (.int c),some (.int ((x*48271+ns[i] %2147483587*(i+3)+i) %2147483629)),some (.int i)],[some (.ro (ns.map .int)),some (.int a)],n⟩, ?_, ?_⟩
  ·walk_at "mr"
   rw[z1K (.inl ⟨by omega,by omega⟩)]
   walk_at "mr"
   rw[z8a hi']
   walk_at "mr"
   rw[z32 (by decide)]
   walk_at "mr"
   rw[z1K (.inr ⟨by omega,by omega⟩)]
   walk_at "mr"
   rw[z32 (by decide)]
   walk_at "mr"
  ·have r0:=Int.emod_nonneg (x*48271+ns[i] %2147483587*(i+3)+i) (show(2147483629:Int)≠0 by decide)
   have r1:=Int.emod_lt_of_pos (x*48271+ns[i] %2147483587*(i+3)+i) (show(0:Int)<2147483629 by decide)
   exact⟨_,_,r0,by omega,rfl⟩) k.toNat 0 ⟨[some (.ro (ns.map .int)),some (.int a),some (.int c),some (.int x0),none],[some (.ro (ns.map .int)),some (.int a)],n⟩ (by omega) ⟨x0,none,p0,p1,rfl⟩
 rw[e2]
 walk_at "mr"
 rw[z7L ⟨by decide,by decide,by decide⟩]
 walk_at "mr"
 by_cases h:c<10^(18:Int).toNat
 ·refine⟨0,x,⟨by decide,hx0,hx1⟩, ?_⟩
  simp only[h,decide_true]
  walk_at "mr"
 ·refine⟨c,x,⟨hc,hx0,hx1⟩, ?_⟩
  simp only[h,decide_false]
  walk_at "mr"
theorem zct{l k:Nat}{d:D}{ds:List D}(h:k≠l):rp (pl l d) (.lst k ds)= .lst k (rpL (pl l d) ds):=by simp only[rp,pl,if_neg h]
mutual
noncomputable def Rs(n:Nat):D→Bool
 | .non=>true| .bool _=>true| .int _=>true| .str x=>PyData.strOk x
 | .tup ds=>decide (ds.length≤2000)&&RsL n ds
 | .lst l ds=>decide (n≤l)&&(decide (ds.length≤2000)&&RsL n ds)
 | .ro _=>false| .dct _ _ _=>false| .obj _ _ _ _=>false| .exc _=>false| .fn _=>false| .fdc _ _=>false
noncomputable def RsL(n:Nat):List D→Bool
 |[]=>true
 |d::ds=>Rs n d&&RsL n ds
end
noncomputable def Up(m:Nat)(t:D):Prop:= ∀k∈labs t,k<m
theorem zbh{α:Type}{ds:List α}{r:Int}(h0:0≤r)(h1:r<ds.length): ∃d∈ds,atI ds r=some d:=by
 have h:r.toNat<ds.length:=by omega
 exact⟨ds[r.toNat],List.getElem_mem h,z2I h0 (by simp[h])⟩
end My
namespace My
open PySem L2 Mi
mutual
noncomputable def Tr:D→Bool
 | .non=>true| .bool _=>true| .int _=>true| .str x=>PyData.strOk x
 | .tup ds=>decide (ds.length≤900)&&TrL ds
 | .lst _ _=>false| .ro _=>false| .dct _ _ _=>false| .obj _ _ _ _=>false| .exc _=>false| .fn _=>false| .fdc _ _=>false
noncomputable def TrL:List D→Bool
 |[]=>true
 |d::ds=>Tr d&&TrL ds
end
theorem z4d{k:Nat}: ∀{ds:List D},PyData.depthAll (erL ds)≤k↔∀d∈ds,(er d).depth≤k
 |[]=>by simp[erL,PyData.depthAll]
 |d::ds=>by simp only[erL,PyData.depthAll,List.forall_mem_cons,←z4d (ds:=ds)];omega
mutual
theorem z9G: ∀t:D,Tr t=true→labs t=[]
 | .non,_=>rfl
 | .bool _,_=>rfl
 | .int _,_=>rfl
 | .str _,_=>rfl
 | .tup ds,h=>by simp only[Tr,Bool.and_eq_true] at h;simp only[labs];exact z4M ds h.2
 | .lst _ _,h=>by simp[Tr] at h
 | .ro _,h=>by simp[Tr] at h
 | .dct _ _ _,h=>by simp[Tr] at h
 | .obj _ _ _ _,h=>by simp[Tr] at h
 | .exc _,h=>by simp[Tr] at h
 | .fn _,h=>by simp[Tr] at h
 | .fdc _ _,h=>by simp[Tr] at h
theorem z4M: ∀t:List D,TrL t=true→z00 t=[]
 |[],_=>rfl
 |d::ds,h=>by simp only[TrL,Bool.and_eq_true] at h;simp only[z00,z9G d h.1,z4M ds h.2,List.append_nil]
end
mutual
theorem zcu{n:Nat}: ∀t:D,Tr t=true→Rs n t=true
 | .non,_=>rfl
 | .bool _,_=>rfl
 | .int _,_=>rfl
 | .str _,h=>by simpa[Tr,Rs] using h
 | .tup ds,h=>by
  simp only[Tr,Bool.and_eq_true,decide_eq_true_eq] at h;simp only[Rs,Bool.and_eq_true,decide_eq_true_eq];exact⟨by omega,z8b ds h.2⟩
 | .lst _ _,h=>by simp[Tr] at h
 | .ro _,h=>by simp[Tr] at h
 | .dct _ _ _,h=>by simp[Tr] at h
 | .obj _ _ _ _,h=>by simp[Tr] at h
 | .exc _,h=>by simp[Tr] at h
 | .fn _,h=>by simp[Tr] at h
 | .fdc _ _,h=>by simp[Tr] at h
theorem z8b{n:Nat}: ∀t:List D,TrL t=true→RsL n t=true
 |[],_=>rfl
 |d::ds,h=>by simp only[TrL,Bool.and_eq_true] at h;simp only[RsL,zcu d h.1,z8b ds h.2,Bool.and_true]
end
mutual
theorem zcv{n:Nat}: ∀t:D,Rs n t=true→Gd t
 | .non,_=>⟨rfl,rfl⟩
 | .bool _,_=>⟨rfl,rfl⟩
 | .int _,_=>⟨rfl,rfl⟩
 | .str _,h=>⟨rfl,by simpa[Rs,er,PyData.canLay0] using h⟩
 | .tup ds,h=>by simp only[Rs,Bool.and_eq_true] at h;exact Gd.tup.mpr (z6S ds h.2)
 | .lst _ ds,h=>by simp only[Rs,Bool.and_eq_true] at h;exact Gd.lst.mpr (z6S ds h.2.2)
 | .ro _,h=>by simp[Rs] at h
 | .dct _ _ _,h=>by simp[Rs] at h
 | .obj _ _ _ _,h=>by simp[Rs] at h
 | .exc _,h=>by simp[Rs] at h
 | .fn _,h=>by simp[Rs] at h
 | .fdc _ _,h=>by simp[Rs] at h
theorem z6S{n:Nat}: ∀t:List D,RsL n t=true→GdL t
 |[],_=>⟨rfl,rfl⟩
 |d::ds,h=>by simp only[RsL,Bool.and_eq_true] at h;exact GdL.cons.mpr ⟨zcv d h.1,z6S ds h.2⟩
end
mutual
theorem zbi{n k:Nat}: ∀t:D,Rs n t=true→k∈labs t→n≤k
 | .non,_,h=>by simp[labs] at h
 | .bool _,_,h=>by simp[labs] at h
 | .int _,_,h=>by simp[labs] at h
 | .str _,_,h=>by simp[labs] at h
 | .tup ds,h,m=>by simp only[Rs,Bool.and_eq_true] at h;simp only[labs] at m;exact z4e ds h.2 m
 | .lst _ ds,h,m=>by
  simp only[Rs,Bool.and_eq_true,decide_eq_true_eq] at h
  simp only[labs,List.mem_cons] at m
  rcases m with rfl|m
  ·exact h.1
  ·exact z4e ds h.2.2 m
 | .ro _,h,_=>by simp[Rs] at h
 | .dct _ _ _,h,_=>by simp[Rs] at h
 | .obj _ _ _ _,h,_=>by simp[Rs] at h
 | .exc _,h,_=>by simp[Rs] at h
 | .fn _,h,_=>by simp[Rs] at h
 | .fdc _ _,h,_=>by simp[Rs] at h
theorem z4e{n k:Nat}: ∀t:List D,RsL n t=true→k∈z00 t→n≤k
 |[],_,h=>by simp[z00] at h
 |d::ds,h,m=>by
  simp only[RsL,Bool.and_eq_true] at h
  simp only[z00,List.mem_append] at m
  rcases m with m|m
  ·exact zbi d h.1 m
  ·exact z4e ds h.2 m
end
mutual
theorem z9H{n m:Nat}(h:m≤n): ∀t:D,Rs n t=true→Rs m t=true
 | .non,_=>rfl
 | .bool _,_=>rfl
 | .int _,_=>rfl
 | .str _,h=>by simpa[Rs] using h
 | .tup ds,h=>by simp only[Rs,Bool.and_eq_true] at h⊢;exact⟨h.1,z37 ‹_› ds h.2⟩
 | .lst _ ds,h=>by simp only[Rs,Bool.and_eq_true,decide_eq_true_eq] at h⊢;exact⟨by omega,h.2.1,z37 ‹_› ds h.2.2⟩
 | .ro _,h=>by simp[Rs] at h
 | .dct _ _ _,h=>by simp[Rs] at h
 | .obj _ _ _ _,h=>by simp[Rs] at h
 | .exc _,h=>by simp[Rs] at h
 | .fn _,h=>by simp[Rs] at h
 | .fdc _ _,h=>by simp[Rs] at h
theorem z37{n m:Nat}(h:m≤n): ∀t:List D,RsL n t=true→RsL m t=true
 |[],_=>rfl
 |d::ds,h=>by simp only[RsL,Bool.and_eq_true] at h⊢;exact⟨z9H ‹_› d h.1,z37 ‹_› ds h.2⟩
end
end My
namespace My
open PySem L2 Mi
theorem labsL_mem{k:Nat}: ∀{es:List D},k∈z00 es→∃e∈es,k∈labs e
 |e::es,h=>by
  simp only[z00,List.mem_append] at h
  rcases h with h|h
  ·exact⟨e,List.mem_cons_self,h⟩
  ·obtain⟨e',h1,h2⟩:=labsL_mem h
   exact⟨e',List.mem_cons_of_mem _ h1,h2⟩
theorem zbj{m l:Nat}{es:List D}(hl:l<m)(h: ∀e∈es,Up m e):Up m (.lst l es):=fun k hk=>by
 simp only[labs,List.mem_cons] at hk
 rcases hk with rfl|hk
 ·exact hl
 ·obtain⟨e,h1,h2⟩:=labsL_mem hk
  exact h e h1 k h2
section
variable{me mo1 mi1 mo2 mi2:M D}{s:Stt}{σ tm:List (Option D)}{n:Nat}{d1 d2:D}
end
theorem z9I{ds:List D}{lo hi:Option Int}{d:D}(h:d∈cutA ds lo hi):d∈ds:=List.mem_of_mem_drop (List.mem_of_mem_take h)
theorem z9J{ds:List D}{lo hi:Option Int}:(cutA ds lo hi).length≤ds.length:=by unfold cutA;simp only[List.length_take,List.length_drop];omega
theorem z6T{y d:D}{s:Stt}(gy:Gd y)(gd:Gd d)(e:er y=er d)(hd:(er d).depth≤60):neD y d s= .ok (.bool false) s:=by
 rw[y_ne (by simp only[eqC,gy.1,gd.1,gy.2,gd.2,e,Bool.true_and,decide_eq_true_eq];omega),e,PySem.SeqAt.eqv_refl _ gd.2];rfl
end My
namespace My
open PySem L2 Mi
theorem z07{f:Nat→Option D}{o:Option D}{r:List (Option D)}:rpO f (o::r)=o.map (rp f)::rpO f r:=by cases o<;>rfl
noncomputable def UpO(n:Nat)(o:Option D):Prop:= ∀d,o=some d→Up n d
theorem UpO.fixk{n k:Nat}{o:Option D}(h:UpO n o)(hk:n≤k)(d:D):Option.map (rp (pl k d)) o=o:=by
 cases o with
 |none=>rfl
 |some t=>simp only[Option.map_some];rw[z20 fun m=>by have:=h t rfl k m;omega]
theorem UpO.fix{n:Nat}{o:Option D}(h:UpO n o)(d:D):Option.map (rp (pl n d)) o=o:=by
 cases o with
 |none=>rfl
 |some t=>simp only[Option.map_some];rw[z20 fun m=>Nat.lt_irrefl _ (h t rfl n m)]
theorem k5{a b c d e:D}{σ tm:List (Option D)}{n:Nat}:lstM [a,b,c,d,e] ⟨σ,tm,n⟩= .ok (.lst n [a,b,c,d,e]) ⟨σ,tm,n+1⟩:=z46 (by rw[zl];simp)
theorem k6{a b c d e f:D}{σ tm:List (Option D)}{n:Nat}:lstM [a,b,c,d,e,f] ⟨σ,tm,n⟩= .ok (.lst n [a,b,c,d,e,f]) ⟨σ,tm,n+1⟩:=z46 (by rw[zl];simp)
theorem zbk{k:Nat}{i:Int}:Tr (.int i)=true∧(er (.int i)).depth≤k:=⟨rfl,by simp[er,PyData.depth]⟩
end My
namespace My
open PySem L2 Mi
theorem zcw{i j:Int}{s:Stt}:neD (.int i) (.int j) s= .ok (.bool (!(i==j))) s:=by
 rw[y_ne (by simp[eqC,Mi.plain,er,PyData.canLay0,PyData.depth])];simp only[er,PyData.eqv]
theorem z2s: ∀ns:List Int,z1o (ns.map D.int)=some (ns.map Sum.inl)
 |[]=>rfl
 |n::ns=>by simp only[List.map_cons,z1o,z5c,z2s ns]
theorem z6U(ns:List Int):tkey (.tup (ns.map D.int))=some (ns.map Sum.inl):=z2s ns
theorem zbl{k j:Nat}{d:D}{ks vs:List D}(h:j≠k)(hv:z00 vs=[]):rp (pl k d) (.dct j ks vs)= .dct j ks vs:=by
 simp only[rp,pl,if_neg h]
 rw[z1P _ fun i hi=>by rw[hv] at hi;cases hi]
noncomputable def kd(p:List Int):D:= .tup (p.map .int)
noncomputable def dD(j:Nat)(PK:List (List Int)):D:= .dct j (PK.map kd) (PK.map fun _=> .bool true)
noncomputable def addK(PK:List (List Int))(p:List Int):List (List Int):=if p∈PK then PK else PK++[p]
theorem z9K{a b:List Int}(h:(a.map Sum.inl:List Key)=b.map Sum.inl):a=b:=by
 induction a generalizing b with
 |nil=>cases b with|nil=>rfl|cons _ _=>simp at h
 |cons x a ih=>cases b with
  |nil=>simp at h
  |cons y b=>
   simp only[List.map_cons,List.cons.injEq,Sum.inl.injEq] at h
   rw[h.1,ih h.2]
theorem z6V{p R:List Int}:(tkey (kd p)=some (R.map Sum.inl))↔p=R:=by
 unfold kd
 rw[z6U,Option.some.injEq]
 exact⟨z9K,fun h=>by rw[h]⟩
theorem zcx(p:List Int):dkD (p.map Sum.inl)=kd p:=by
 unfold dkD kd
 rw[List.map_map];rfl
theorem z8c(PK:List (List Int))(R:List Int):((PK.map kd).any fun d=>decide (tkey d=some (R.map Sum.inl)))=decide (R∈PK):=by
 rw[List.any_map]
 induction PK with
 |nil=>rfl
 |cons p PK ih=>
  simp only[List.any_cons,Function.comp,z6V]
  try simp only[Function.comp,z6V] at ih
  rw[ih]
  by_cases h:p=R
  ·simp[h]
  ·simp only[h,decide_false,Bool.false_or,List.mem_cons,decide_eq_decide]
   exact⟨.inr,fun z=>z.resolve_left fun e=>h e.symm⟩
theorem zbm{j:Nat}{PK:List (List Int)}{R:List Int}{s:Stt}(hz:PK.length≤1000):z1U (dD j PK) (.tup (R.map .int)) (.bool true) s= .nx (s.put j (dD j (addK PK R))):=by
 have hT:isT (PK.map kd)=true:=by cases PK<;>rfl
 have hl:z00 (PK.map fun _=>D.bool true)=[]:=z0E fun d hd=>by obtain⟨_,_,rfl⟩:=List.mem_map.mp hd;rfl
 unfold z1U dD
 simp only[z6U]
 rw[if_pos ⟨hT,by rw[List.length_map,zl];omega,rfl,hl⟩]
 have e1:z6g (PK.map kd) (R.map Sum.inl)=(addK PK R).map kd:=by
  unfold z6g addK
  rw[z8c]
  by_cases h:R∈PK
  ·simp only[h,decide_true,if_true]
  ·simp only[h,decide_false,Bool.false_eq_true,if_false,List.map_append,zcx];rfl
 have e2:z3T (PK.map kd) (PK.map fun _=>D.bool true) (R.map Sum.inl) (.bool true)=(addK PK R).map fun _=>D.bool true:=by
  unfold z3T addK
  rw[z8c]
  by_cases h:R∈PK
  ·simp only[h,decide_true,if_true]
   clear h hz hT hl e1
   induction PK with
   |nil=>rfl
   |cons p PK ih=>simp only[List.map_cons,List.zipWith_cons_cons,ite_self,ih]
  ·simp only[h,decide_false,Bool.false_eq_true,if_false,List.map_append];rfl
 rw[e1,e2]
theorem z7R{PK:List (List Int)}{p R:List Int}:R∈addK PK p↔R∈PK∨R=p:=by
 unfold addK
 split
 ·rename_i h;exact⟨.inl,fun z=>z.elim id fun e=>e▸h⟩
 ·simp
theorem z7S{PK:List (List Int)}{p:List Int}:(addK PK p).length≤PK.length+1:=by
 unfold addK;split<;>simp
theorem z1M{k j:Nat}{d:D}{PK:List (List Int)}(h:j≠k):rp (pl k d) (dD j PK)=dD j PK:=zbl h (z0E fun d hd=>by obtain⟨_,_,rfl⟩:=List.mem_map.mp hd;rfl)
theorem zbn{j:Nat}{d:D}{PK:List (List Int)}:rp (pl j d) (dD j PK)=d:=by unfold dD;simp only[rp,pl,if_true]
theorem z4f{s:Stt}:iK tb_0 (.exc ("NoChoice" :Str)) s= .ok (.bool false) s:=z3E (by decide+kernel)
theorem z4g{s:Stt}:iK tb_1 (.exc ("NoChoice" :Str)) s= .ok (.bool false) s:=z3E (by decide+kernel)
theorem z4h{s:Stt}:iK tb_2 (.exc ("NoChoice" :Str)) s= .ok (.bool false) s:=z3E (by decide+kernel)
theorem z4i{s:Stt}:iK tb_3 (.exc ("NoChoice" :Str)) s= .ok (.bool true) s:=z3E (by decide+kernel)
theorem z4j{s:Stt}:iK tb_4 (.exc ("NoChoice" :Str)) s= .ok (.bool true) s:=z3E (by decide+kernel)
theorem kbC:z0J ("NoChoice" :Str)=true:=by decide+kernel
theorem zbo{a b c d:Option D}:z1b 4 [a,b,c,d]=[a,b,c,d]:=rfl
theorem lenS{S:List (List Int)}:((S.map kd).length:Int)=(S.length:Int):=by rw[List.length_map]
noncomputable def z6W(S:List (List Int))(sz pg fg:Int):Prop:=1≤fg∧fg≤sz∧0≤pg*sz+fg - 1∧pg*sz+fg - 1<S.length
theorem zcy{S:List (List Int)}{i:Int}(h0:0≤i)(h1:i<S.length): ∃p∈S,atI (S.map kd) i=some (kd p):=by
 obtain⟨d,hd,e⟩:=zbh (ds:=S.map kd) h0 (by rw[lenS];exact h1)
 obtain⟨p,hp,rfl⟩:=List.mem_map.mp hd
 exact⟨p,hp,e⟩
local macro_rules | `(tactic| walk_at "mr") => `(tactic| (simp (config := { dsimp := false }) only [z96, x_bd, z3z, z6l, z6m, z8X, z8Y, z8Z, z90, z91, z92, z93, x_rt, x_fl, z97, z6n, z98, z99, z31, z9a, x_C, z9b, z9c, z6o, z6p, x_tB, x_tI, x_tT, x_tL, z9d, x_or, z9e, z6q, z9f, z6r, z9g, x_it, x_if, z41, z42, x_cb, z6s, z2m, z9h, z6t, z43, z9i, z2n, z44, z45, z6u, x_sl,
 z6v,z9j,y_lt,y_le,y_gt,y_ge,z9k,z9l,z9m,z9n,z9o,z9p,z9q,z6x,z6y,z6z,z9r,z9s,z9t,z9u,z6A,z6B,z6C,z47,z48,
 z9v,z6D,z9w,z9x,z9y,z6E,z49,z4a,z9z,x_sT,x_sF,z2o,z9A,z7M,z6F,z9B,z1J,z94,z95,z2l,isiD,z04,asg,asgL,
 List.map_cons,List.map_nil,List.replicate,List.nil_append,List.cons_append,List.append_nil,List.getElem?_cons_zero,List.getElem?_cons_succ,List.getElem?_nil,List.set_cons_zero,List.set_cons_succ,List.length_cons,List.length_nil,Nat.reduceAdd,Nat.reduceSub,Option.map_some,Option.map_none,Bool.not_true,Bool.not_false,String.reduceBEq,beq_self_eq_true,Nat.zero_add,Nat.sub_self,t0,t1,t2,t3,t4,k0,k1,k2,k3,k4,Int.reduceBEq,Bool.or_false,Bool.false_or,Bool.true_or,Bool.or_true,Bool.and_true,Bool.true_and,Bool.and_false,Bool.false_and,at0,at1,at2,at3,z9F,zcw,z7N,z6K,z89,Int.zero_add,z2J,z0g,z07,z6G,z0r,z6H,z33,z6I,z6J,z4b,z34,zbd,zcg,zch,zci,z5l,z9C,zcj,zck,zcl,z9D,zcm,z9E,zcn,zco,zcp,zbe,zcr,zcs,z4f,z4g,z4h,z4i,z4j,zbo]))
theorem z6X(S:List (List Int))(l n:Nat)(sz pg fg:Int)(h0:1≤sz)(h1:sz≤9)(hw:z6W S sz pg fg){d:D}(hd:atI (S.map kd) (pg*sz+fg - 1)=some d):z0N [.lst l (S.map kd), .int sz, .int pg, .int fg] n= .ok d [.lst l (S.map kd), .int sz, .int pg, .int fg] n:=by
 obtain⟨w1,w2,w3,w4⟩:=hw
 unfold z0N z1k
 walk_at "mr"
 simp only[w1,decide_true]
 walk_at "mr"
 simp only[w2,decide_true]
 walk_at "mr"
 rw[z1K (.inr ⟨by omega,by omega⟩)]
 walk_at "mr"
 simp only[w3,decide_true]
 walk_at "mr"
 rw[lenS]
 simp only[w4,decide_true]
 walk_at "mr"
 rw[z1K (.inr ⟨by omega,by omega⟩)]
 walk_at "mr"
 rw[hd]
 walk_at "mr"
theorem z6Y(S:List (List Int))(l n:Nat)(sz pg fg:Int)(h0:1≤sz)(h1:sz≤9)(hw: ¬z6W S sz pg fg):z0N [.lst l (S.map kd), .int sz, .int pg, .int fg] n= .ex (.exc "NoChoice") [.lst l (S.map kd), .int sz, .int pg, .int fg] n:=by
 unfold z0N z1k
 walk_at "mr"
 by_cases w1:1≤fg
 ·simp only[w1,decide_true]
  walk_at "mr"
  by_cases w2:fg≤sz
  ·simp only[w2,decide_true]
   walk_at "mr"
   rw[z1K (.inr ⟨by omega,by omega⟩)]
   walk_at "mr"
   by_cases w3:0≤pg*sz+fg - 1
   ·simp only[w3,decide_true]
    walk_at "mr"
    rw[lenS]
    have w4: ¬pg*sz+fg - 1<S.length:=fun z=>hw ⟨w1,w2,w3,z⟩
    simp only[w4,decide_false]
    walk_at "mr"
   ·simp only[w3,decide_false]
    walk_at "mr"
  ·simp only[w2,decide_false]
   walk_at "mr"
 ·simp only[w1,decide_false]
  walk_at "mr"
theorem z9L(S:List (List Int))(l n:Nat)(sz pg fg:Int)(h0:1≤sz)(h1:sz≤9)(hw:z6W S sz pg fg){d:D}(hd:atI (S.map kd) (pg*sz+fg - 1)=some d):z0s [.lst l (S.map kd), .int sz, .int pg, .int fg] n= .ok d [.lst l (S.map kd), .int sz, .int pg, .int fg] n:=by
 unfold z0s z1Z
 walk_at "mr"
 rw[z6X S l n sz pg fg h0 h1 hw hd]
 walk_at "mr"
theorem z9M(S:List (List Int))(l n:Nat)(sz pg fg:Int)(h0:1≤sz)(h1:sz≤9)(hw: ¬z6W S sz pg fg):z0s [.lst l (S.map kd), .int sz, .int pg, .int fg] n= .ok (.tup [.str "refused", .bool true]) [.lst l (S.map kd), .int sz, .int pg, .int fg] n:=by
 unfold z0s z1Z
 walk_at "mr"
 rw[z6Y S l n sz pg fg h0 h1 hw]
 walk_at "mr"
 rw[zcq kbC]
 walk_at "mr"
set_option Elab.async false
set_option linter.all false
set_option maxRecDepth 100000
set_option maxHeartbeats 1000000
theorem sz9{sz:Int}(h0:1≤sz)(h1:sz≤9):sz=1∨sz=2∨sz=3∨sz=4∨sz=5∨sz=6∨sz=7∨sz=8∨sz=9:=by omega
theorem zbp(k:Nat){sz:Int}(h0:1≤sz)(h1:sz≤9):Builtin.Range.rangeSize 0 k sz=((k:Int)+sz - 1)/sz:=by
 unfold Builtin.Range.rangeSize
 rcases sz9 h0 h1 with rfl|rfl|rfl|rfl|rfl|rfl|rfl|rfl|rfl<;>simp only[gt_iff_lt,show(0:Int)<1 by decide,show(0:Int)<2 by decide,show(0:Int)<3 by decide,show(0:Int)<4 by decide,show(0:Int)<5 by decide,show(0:Int)<6 by decide,show(0:Int)<7 by decide,show(0:Int)<8 by decide,show(0:Int)<9 by decide,if_true]<;>split<;>omega
theorem zbq(k:Nat)(hk:k≤1000){sz:Int}(h0:1≤sz)(h1:sz≤9):Rg3 0 k sz:=by
 have e:=zbp k h0 h1
 have b:0≤((k:Int)+sz - 1)/sz∧((k:Int)+sz - 1)/sz≤1000:=by
  rcases sz9 h0 h1 with rfl|rfl|rfl|rfl|rfl|rfl|rfl|rfl|rfl<;>omega
 refine⟨by omega,by omega, ?_,by rw[e];exact b.1⟩
 unfold Builtin.Range.small
 rw[e]
 generalize ((k:Int)+sz - 1)/sz=q at b
 simp only[Builtin.Range.rangeFitsLong,Bool.and_eq_true,Bool.or_eq_true,decide_eq_true_eq,beq_iff_eq]
 rcases sz9 h0 h1 with rfl|rfl|rfl|rfl|rfl|rfl|rfl|rfl|rfl<;>(simp<;>omega)
noncomputable def pgs(ds:List D)(sz:Int)(j:Nat):List D:=cutA ds (some ((j:Int)*sz)) (some ((j:Int)*sz+sz))
noncomputable def cntP(ds:List D)(sz:Int):Nat:=(((ds.length:Int)+sz - 1)/sz).toNat
theorem z7T(ds:List D)(h n:Nat)(sz:Int)(h0:1≤sz)(h1:sz≤9)(hl:ds.length≤1000):z13 [.lst h ds, .int sz] n= .ok (.lst (n+cntP ds sz) ((List.range (cntP ds sz)).map fun j=> .lst (n+j) (pgs ds sz j))) [.lst h ds, .int sz] (n+cntP ds sz+1):=by
 have e:=zbp ds.length h0 h1
 have hN:(Builtin.Range.rangeSize 0 (ds.length:Int) sz).toNat=cntP ds sz:=by rw[e];rfl
 have hc:cntP ds sz≤1000:=by
  unfold cntP
  rcases sz9 h0 h1 with rfl|rfl|rfl|rfl|rfl|rfl|rfl|rfl|rfl<;>omega
 unfold z13 z2j
 walk_at "mr"
 rw[z4c (a:=0) (b:=(ds.length:Int)) (c:=sz) (y:=fun j m=> .lst m (pgs ds sz j)) (σ:=[some (.lst h ds),some (.int sz)]) (tm:=[some (.lst h ds),some (.int sz)]) (n:=n) (by walk_at "mr") (zbq _ hl h0 h1) (by rw[hN,zl];omega) (by
  intro i hi tm m
  show mSl _ _ _ ⟨[some (.int (0+(i:Int)*sz)),some (.lst h ds),some (.int sz)],tm,m⟩=_
  walk_at "mr"
  rfl)]
 rw[hN]
 walk_at "mr"
set_option Elab.async false
set_option linter.all false
set_option maxRecDepth 100000
set_option maxHeartbeats 1000000
theorem z6Z: ∀{ds:List D},(∀d∈ds,Gd d)→GdL ds
 |[],_=>⟨rfl,rfl⟩
 |d::ds,h=>GdL.cons.mpr ⟨h d (List.mem_cons_self ..),z6Z fun x hx=>h x (List.mem_cons_of_mem _ hx)⟩
noncomputable def Sd(ds:List D):Prop:=ds.length≤1000∧∀d∈ds,Gd d∧(er d).depth≤5∧labs d=[]
theorem Sd.cut{ds:List D}(h:Sd ds)(a b:Option Int):Sd (cutA ds a b):=⟨Nat.le_trans z9J h.1,fun d hd=>h.2 d (z9I hd)⟩
theorem Sd.lab{ds:List D}(h:Sd ds):z00 ds=[]:=z0E fun d hd=>(h.2 d hd).2.2
theorem Sd.gd{ds:List D}(h:Sd ds)(l:Nat):Gd (.lst l ds):=Gd.lst.mpr (z6Z fun d hd=>(h.2 d hd).1)
theorem Sd.dep{ds:List D}(h:Sd ds)(l:Nat):(er (.lst l ds)).depth≤60:=by
 have:=(z4d (k:=5) (ds:=ds)).mpr fun d hd=>(h.2 d hd).2.1
 simp only[er,PyData.depth];omega
theorem Sd.ne{ds:List D}(h:Sd ds)(l k:Nat){s:Stt}:neD (.lst l ds) (.lst k ds) s= .ok (.bool false) s:=z6T (h.gd l) (h.gd k) rfl (h.dep k)
theorem z0V{k l:Nat}{d:D}{ds:List D}(h:l≠k)(hl:z00 ds=[]):rp (pl k d) (.lst l ds)= .lst l ds:=z20 (by simp only[labs,hl];simp;exact fun e=>h e.symm)
noncomputable def pgA(ds:List D)(sz:Int)(m N i:Nat):List D:=(List.range N).map fun j=> .lst (m+j) (if j<i then pgs ds sz j++[.tup []] else pgs ds sz j)
theorem Sd.pgs{ds:List D}(h:Sd ds)(sz:Int)(j:Nat):Sd (My.pgs ds sz j):=h.cut _ _
theorem z70{ds:List D}(h:z00 ds=[]):z00 (ds++[.tup []])=[]:=by
 rw[Mi.z0n,h];rfl
theorem z71{α:Type}{f:Nat→Option D}{g:α→D}: ∀l:List α,rpL f (l.map g)=l.map fun a=>rp f (g a)
 |[]=>rfl
 |a::l=>by simp only[List.map_cons,rpL,z71 l]
theorem z9N{ds:List D}(h:Sd ds)(sz:Int)(m N i:Nat):rpL (pl (m+i) (.lst (m+i) (pgs ds sz i++[.tup []]))) (pgA ds sz m N i)=pgA ds sz m N (i+1):=by
 unfold pgA
 rw[z71]
 refine List.map_congr_left fun j _=> ?_
 by_cases e:j=i
 ·subst e
  rw[if_neg (Nat.lt_irrefl _),if_pos (Nat.lt_succ_self _)]
  simp only[rp,pl,if_true]
 ·have:(j<i+1)=(j<i):=by rw[eq_iff_iff];omega
  simp only[this]
  refine z0V (by omega) ?_
  split
  ·exact z70 (h.pgs sz j).lab
  ·exact(h.pgs sz j).lab
theorem zbr{ds:List D}(h:Sd ds)(sz:Int)(m N i:Nat): ∀e∈pgA ds sz m N i,Up (m+N) e:=by
 intro e he
 obtain⟨j,hj,rfl⟩:=List.mem_map.mp he
 have hj:=List.mem_range.mp hj
 intro k hk
 simp only[labs] at hk
 rcases List.mem_cons.mp hk with rfl|hk
 ·omega
 ·split at hk
  ·rw[z70 (h.pgs sz j).lab] at hk;cases hk
  ·rw[(h.pgs sz j).lab] at hk;cases hk
theorem z4k{m l:Nat}{ds:List D}(hl:l<m)(h:z00 ds=[]):UpO m (some (.lst l ds)):=fun d e k hk=>by
 cases e
 simp only[labs,h] at hk
 rcases List.mem_cons.mp hk with rfl|hk
 ·exact hl
 ·cases hk
theorem z2t{m:Nat}{i:Int}:UpO m (some (.int i)):=fun d e k hk=>by cases e;simp[labs] at hk
theorem UpO.le{m n:Nat}{o:Option D}(h:UpO m o)(hl:m≤n):UpO n o:=fun d e k hk=>Nat.lt_of_lt_of_le (h d e k hk) hl
theorem z7U{ds:List D}(h:Sd ds)(sz:Int)(h0:1≤sz)(h1:sz≤9)(m N l hh n:Nat)(t:Int)(hl:l<m)(hhm:hh<m)(o5 o6:Option D)(u5:UpO m o5)(u6:UpO m o6)(hn:m+N<n):
 ∃p5 p6 n',n≤n'∧UpO (m+N) p5∧UpO (m+N) p6∧forGo kEnm (.tp [(.nm 5),(.nm 6)]) (seqS (sIf (mBoo (mBin (mVar 6) (mSl (mVar 0) (some (mBin (mVar 5) (mVar 1) mulD)) (some (mBin (mBin (mVar 5) (mVar 1) mulD) (mVar 1) addD))) neD)) (sRet (mC (.bool false))) sNx)
 (z2f (z1F (mVar 6) [(mCB [] tupD)] appD))) N 0 ⟨[some (.lst l ds),some (.int sz),some (.lst hh ds),some (.int t),some (.lst (m+N) (pgA ds sz m N 0)),o5,o6],[some (.lst (m+N) (pgA ds sz m N 0)),some (.lst l ds),some (.int sz)],n⟩
  = .nx ⟨[some (.lst l ds),some (.int sz),some (.lst hh ds),some (.int t),some (.lst (m+N) (pgA ds sz m N N)),p5,p6],[some (.lst l ds),some (.int sz)],n'⟩:=by
 have key:=z6P (K:=kEnm) (g:= .tp [(.nm 5),(.nm 6)]) (b:=(seqS (sIf (mBoo (mBin (mVar 6) (mSl (mVar 0) (some (mBin (mVar 5) (mVar 1) mulD)) (some (mBin (mBin (mVar 5) (mVar 1) mulD) (mVar 1) addD))) neD)) (sRet (mC (.bool false))) sNx)
  (z2f (z1F (mVar 6) [(mCB [] tupD)] appD)))) (N:=N) (hit:=fun _=>none) (R:=fun _ _=>True) (item:=fun i=> .tup [.int i, .lst (m+i) (pgs ds sz i)])
  (P:=fun i s=> ∃o5 o6 n',s=⟨[some (.lst l ds),some (.int sz),some (.lst hh ds),some (.int t),some (.lst (m+N) (pgA ds sz m N i)),o5,o6],[some (.lst (m+N) (pgA ds sz m N i)),some (.lst l ds),some (.int sz)],n'⟩∧UpO (m+i) o5∧UpO (m+i) o6∧n≤n')
  (by
   rintro i s ⟨o5,o6,n',rfl,_⟩
   show some (((pgA ds sz m N i)[i]?).map fun d=>D.tup [.int i,d])=_
   by_cases hi:i<N
   ·simp only[pgA,List.getElem?_map,List.getElem?_range hi,Option.map_some,if_pos hi,Nat.lt_irrefl,if_false]
   ·rw[if_neg hi,List.getElem?_eq_none (by simp only[pgA,List.length_map,List.length_range];omega)];rfl)
  (by
   rintro i hi s ⟨o5,o6,n',rfl,v5,v6,hn'⟩
   refine⟨_,rfl, ?_⟩
   refine⟨_, ?_,some (.int i),some (.lst (m+i) (pgs ds sz i++[.tup []])),n'+1,rfl,z2t,z4k (by omega) (z70 (h.pgs sz i).lab),by omega⟩
   walk_at "mr"
   rw[z1K (.inr ⟨by omega,by omega⟩)]
   walk_at "mr"
   rw[z1K (.inr ⟨by omega,by omega⟩)]
   walk_at "mr"
   rw[show cutA ds (some ((i:Int)*sz)) (some ((i:Int)*sz+sz))=pgs ds sz i from rfl,(h.pgs sz i).ne]
   walk_at "mr"
   rw[zbb ⟨by have:=(h.pgs sz i).1;rw[zl];omega,by simp[labs,z00]⟩]
   simp only[z2J,z07,z0g,Option.map_some,z0V (show l≠m+i by omega) h.lab,z0V (show hh≠m+i by omega) h.lab,z0r,zct (show m+N≠m+i by omega),z9N h]
   walk_at "mr")
  N 0 ⟨[some (.lst l ds),some (.int sz),some (.lst hh ds),some (.int t),some (.lst (m+N) (pgA ds sz m N 0)),o5,o6],[some (.lst (m+N) (pgA ds sz m N 0)),some (.lst l ds),some (.int sz)],n⟩ (by omega) ⟨o5,o6,n,rfl,u5,u6,Nat.le_refl _⟩
 have e: ∀f i,firstAt (fun _=>(none:Option D)) f i=none:=by
  intro f
  induction f with
  |zero=>intro i;rfl
  |succ f ih=>intro i;exact ih (i+1)
 rw[e] at key
 obtain⟨s',k1,o5',o6',n',rfl,w5,w6,hn'⟩:=key
 exact⟨o5',o6',n',hn',w5,w6,k1⟩
set_option Elab.async false
set_option linter.all false
set_option maxRecDepth 100000
set_option maxHeartbeats 1000000
theorem z38{ds:List D}{sz:Int}{m N i:Nat}:(pgA ds sz m N i).length=N:=by simp only[pgA,List.length_map,List.length_range]
theorem z4l{ds:List D}{sz:Int}(h0:1≤sz)(h1:sz≤9):((cntP ds sz:Nat):Int)=((ds.length:Int)+sz - 1)/sz:=by
 unfold cntP
 rcases sz9 h0 h1 with rfl|rfl|rfl|rfl|rfl|rfl|rfl|rfl|rfl<;>omega
theorem pg0{ds:List D}{sz:Int}{m N:Nat}:((List.range N).map fun j=>D.lst (m+j) (pgs ds sz j))=pgA ds sz m N 0:=by
 unfold pgA
 refine List.map_congr_left fun j _=> ?_
 rw[if_neg (Nat.not_lt_zero _)]
theorem z4N{α:Type}(l:List α):((l.map fun _=>true).all id)=true:=by simp
theorem z0z{n:Nat}:UpO n none:=fun d e=>nomatch e
theorem z5m{ds:List D}(h:Sd ds)(sz:Int)(h0:1≤sz)(h1:sz≤9)(l hh n:Nat)(t:Int)(hl:l<n)(hhn:hh<n)(o4 o5 o6:Option D)(u5:UpO n o5)(u6:UpO n o6):
 ∃p4 p5 p6 n',n≤n'∧UpO n' p4∧UpO n' p5∧UpO n' p6∧(seqS (sAsg (.nm 4) (z0b z13 [(mVar 2),(mVar 1)]))
 (seqS (sIf (mOr (mNot (z1v (mIsi "list" (mVar 4)))) (mBoo (mBin (mVar 2) (mVar 0) neD))) (sRet (mC (.bool false))) sNx)
 (seqS (sIf (mNot (z1v (mCB [(z0y (z0Y (mVar 4)) (.nm 0) (rt true) (mIsi "list" (mVar 0)) 1 [])] allD))) (sRet (mC (.bool false))) sNx)
 (seqS (sIf (mBoo (mBin (mCB [(mVar 4)] lenD) (mBin (mBin (mBin (mCB [(mVar 0)] lenD) (mVar 1) addD) (mC (.int 1)) subD) (mVar 1) z1u) neD)) (sRet (mC (.bool false))) sNx)
 (seqS (sFor (mEnm [(mVar 4)]) (.tp [(.nm 5),(.nm 6)]) (seqS (sIf (mBoo (mBin (mVar 6) (mSl (mVar 0) (some (mBin (mVar 5) (mVar 1) mulD)) (some (mBin (mBin (mVar 5) (mVar 1) mulD) (mVar 1) addD))) neD)) (sRet (mC (.bool false))) sNx)
 (z2f (z1F (mVar 6) [(mCB [] tupD)] appD))))
 (z2f (z1F (mVar 4) [(mCB [] lstM)] appD))))))) ⟨[some (.lst l ds),some (.int sz),some (.lst hh ds),some (.int t),o4,o5,o6],[some (.lst l ds),some (.int sz)],n⟩
  = .nx ⟨[some (.lst l ds),some (.int sz),some (.lst hh ds),some (.int t),p4,p5,p6],[some (.lst l ds),some (.int sz)],n'⟩:=by
 obtain⟨n1,hn1,hc⟩:=z5k (mc:=mVar 4) (mt:=rt true) (me:=mIsi "list" (mVar 0)) (p:=fun _=>true) (g:=fun _=> .bool true) (l:=n+cntP ds sz) (ds:=pgA ds sz n (cntP ds sz) 0) (ix:=[]) (s:=⟨[some (.lst l ds),some (.int sz),some (.lst hh ds),some (.int t),some (.lst (n+cntP ds sz) (pgA ds sz n (cntP ds sz) 0)),o5,o6],[some (.lst l ds),some (.int sz)],n+cntP ds sz+1⟩) (σ:=[some (.lst l ds),some (.int sz),some (.lst hh ds),some (.int t),some (.lst (n+cntP ds sz) (pgA ds sz n (cntP ds sz) 0)),o5,o6]) (tm:=[some (.lst l ds),some (.int sz)]) (n:=n+cntP ds sz+1) rfl
  (by rw[z38,zl];have:=h.1;have e:=z4l (ds:=ds) h0 h1;rcases sz9 h0 h1 with rfl|rfl|rfl|rfl|rfl|rfl|rfl|rfl|rfl<;>omega)
  (fun d hd tm m=>⟨m,Nat.le_refl _,rfl⟩)
  (fun d hd _ tm m=>by
   obtain⟨j,_,rfl⟩:=List.mem_map.mp hd
   refine⟨m,Nat.le_refl _, ?_⟩
   show mIsi "list" (mVar 0) ⟨[some (.lst _ _)],tm,m⟩=_
   walk_at "mr")
 obtain⟨o5',o6',n',hn',w5,w6,hloop⟩:=z7U h sz h0 h1 n (cntP ds sz) l hh (n1+1) t hl hhn o5 o6 u5 u6 (by omega)
 refine⟨some (.lst (n+cntP ds sz) (pgA ds sz n (cntP ds sz) (cntP ds sz)++[.lst n' []])),o5',o6',n'+1,by omega, ?_,w5.le (by omega),w6.le (by omega), ?_⟩
 ·intro d e
  cases e
  refine zbj (by omega) fun e he=> ?_
  rcases List.mem_append.mp he with he|he
  ·exact fun k hk=>by have:=zbr h sz _ _ _ e he k hk;omega
  ·simp only[List.mem_singleton] at he;subst he
   intro k hk;simp[labs,z00] at hk;omega
 ·walk_at "mr"
  rw[z7T ds hh n sz h0 h1 h.1]
  walk_at "mr"
  rw[pg0,h.ne]
  walk_at "mr"
  rw[hc]
  walk_at "mr"
  rw[zb9 (bs:=(pgA ds sz n (cntP ds sz) 0).map fun _=>true) (by
   rw[List.filter_eq_self.mpr (by simp)]
   exact z3y _ fun _=>true)]
  rw[z4N]
  walk_at "mr"
  rw[z38,z4J ⟨by omega,by omega⟩]
  walk_at "mr"
  rw[z4l h0 h1]
  walk_at "mr"
  have em:mEnm [mVar 4] ⟨[some (.lst l ds),some (.int sz),some (.lst hh ds),some (.int t),some (.lst (n+cntP ds sz) (pgA ds sz n (cntP ds sz) 0)),o5,o6],[some (.lst l ds),some (.int sz)],n1+1⟩= .ok kEnm ⟨[some (.lst l ds),some (.int sz),some (.lst hh ds),some (.int t),some (.lst (n+cntP ds sz) (pgA ds sz n (cntP ds sz) 0)),o5,o6],[some (.lst (n+cntP ds sz) (pgA ds sz n (cntP ds sz) 0)),some (.lst l ds),some (.int sz)],n1+1⟩:=by
   show bd (mArgs _) enmI _=_
   walk_at "mr"
   rfl
  rw[em]
  walk_at "mr"
  rw[show kEnm.len [some (.lst (n+cntP ds sz) (pgA ds sz n (cntP ds sz) 0)),some (.lst l ds),some (.int sz)]=cntP ds sz from z38,hloop]
  walk_at "mr"
  rw[zbb ⟨by rw[z38,zl];have:=h.1;have e:=z4l (ds:=ds) h0 h1;rcases sz9 h0 h1 with rfl|rfl|rfl|rfl|rfl|rfl|rfl|rfl|rfl<;>omega,by simp[labs,z00];omega⟩]
  simp only[z2J,z07,z0g,Option.map_some,z0V (show l≠n+cntP ds sz by omega) h.lab,z0V (show hh≠n+cntP ds sz by omega) h.lab,z0r,w5.fixk (Nat.le_refl _),w6.fixk (Nat.le_refl _)]
  walk_at "mr"
theorem z7V{ds:List D}(h:Sd ds)(sz:Int)(h0:1≤sz)(h1:sz≤9)(l n:Nat)(hl:l<n): ∃n',n≤n'∧z0P [.lst l ds, .int sz] n= .ok (.bool true) [.lst l ds, .int sz] n':=by
 obtain⟨s',e,o3,o4,o5,o6,n',rfl,hn',_⟩:=z35 (P:=fun i s=> ∃o3 o4 o5 o6 n',s=⟨[some (.lst l ds),some (.int sz),some (.lst n ds),o3,o4,o5,o6],[some (.lst l ds),some (.int sz)],n'⟩∧n+1≤n'∧UpO n' o5∧UpO n' o6) (lo:=0) (N:=2) (g:= .nm 3)
  (b:=(seqS (sAsg (.nm 4) (z0b z13 [(mVar 2),(mVar 1)]))
  (seqS (sIf (mOr (mNot (z1v (mIsi "list" (mVar 4)))) (mBoo (mBin (mVar 2) (mVar 0) neD))) (sRet (mC (.bool false))) sNx)
  (seqS (sIf (mNot (z1v (mCB [(z0y (z0Y (mVar 4)) (.nm 0) (rt true) (mIsi "list" (mVar 0)) 1 [])] allD))) (sRet (mC (.bool false))) sNx)
  (seqS (sIf (mBoo (mBin (mCB [(mVar 4)] lenD) (mBin (mBin (mBin (mCB [(mVar 0)] lenD) (mVar 1) addD) (mC (.int 1)) subD) (mVar 1) z1u) neD)) (sRet (mC (.bool false))) sNx)
  (seqS (sFor (mEnm [(mVar 4)]) (.tp [(.nm 5),(.nm 6)]) (seqS (sIf (mBoo (mBin (mVar 6) (mSl (mVar 0) (some (mBin (mVar 5) (mVar 1) mulD)) (some (mBin (mBin (mVar 5) (mVar 1) mulD) (mVar 1) addD))) neD)) (sRet (mC (.bool false))) sNx)
  (z2f (z1F (mVar 6) [(mCB [] tupD)] appD))))
  (z2f (z1F (mVar 4) [(mCB [] lstM)] appD))))))))
  (by
   rintro i hi s ⟨o3,o4,o5,o6,n',rfl,hn',u5,u6⟩
   obtain⟨p4,p5,p6,n2,hn2,v4,v5,v6,e⟩:=z5m h sz h0 h1 l n n' (0+(i:Int)) (by omega) (by omega) o4 o5 o6 u5 u6
   exact⟨_,rfl,_,e,_,p4,p5,p6,n2,rfl,by omega,v5,v6⟩)
  2 0 ⟨[some (.lst l ds),some (.int sz),some (.lst n ds),none,none,none,none],[some (.lst l ds),some (.int sz)],n+1⟩ (by omega) ⟨none,none,none,none,n+1,rfl,Nat.le_refl _,z0z,z0z⟩
 refine⟨n',by omega, ?_⟩
 unfold z0P z2k
 walk_at "mr"
 rw[z3A (by decide)]
 walk_at "mr"
 rw[show(2:Int).toNat=2 from rfl,e]
 walk_at "mr"
set_option Elab.async false
set_option linter.all false
set_option maxRecDepth 100000
set_option maxHeartbeats 1000000
theorem z72: ∀{ys:List D},(∀y∈ys,∃i:Int,y= .int i)→∃ns:List Int,ys=ns.map .int
 |[],_=>⟨[],rfl⟩
 |y::ys,h=>by
  obtain⟨i,rfl⟩:=h y (List.mem_cons_self ..)
  obtain⟨ns,rfl⟩:=z72 fun z hz=>h z (List.mem_cons_of_mem _ hz)
  exact⟨i::ns,rfl⟩
noncomputable abbrev sD(R:List D)(a:Int)(b:Nat)(c x:Int)(j:Nat)(PK:List (List Int))(o4:Option D)(T:List (Option D)):List (Option D):=some (.ro R)::some (.int a)::some (.lst b [.int c, .int x])::some (dD j PK)::o4::T
theorem z1c{k:Nat}{d:D}{R:List D}(h:z00 R=[]):rp (pl k d) (.ro R)= .ro R:=z20 (by simp only[labs,h];exact List.not_mem_nil)
theorem z0A{l:Nat}{d:D}{ds:List D}:rp (pl l d) (.lst l ds)=d:=by simp only[rp,pl,if_true]
theorem z9O(R:List D)(hR:z00 R=[])(a:Int)(b:Nat)(c x:Int)(j:Nat)(PK:List (List Int))(o4:Option D)(T tm:List (Option D))(n:Nat)(hb:Bg c x)(hn:b<n)(hj:j≠b)
 (r4: ∀d,Option.map (rp (pl b d)) o4=o4) (rT: ∀d,rpO (pl b d) T=T) (rt': ∀d,rpO (pl b d) tm=tm):
 ∃(p:List Int) (c' x':Int) (n':Nat),p.length≤4∧Bg c' x'∧n≤n'∧mCB [(z0y (z0Z [(mBin (mC (.int 1)) (z0b z03 [(mVar 2),(mC (.int 4))]) addD)]) (.nm 0) (rt true) (z0b z03 [(mVar 1),(mC (.int 1040))]) 1 [2])] tupF ⟨sD R a b c x j PK o4 T,tm,n⟩
  = .ok (kd p) ⟨sD R a b c' x' j PK o4 T,tm,n'⟩:=by
 obtain⟨r,c1,x1,hr0,hr1,hb1,e1⟩:=z1L b c x 4 n hb (by decide) (by decide)
 have hms:mArgs [(mBin (mC (.int 1)) (z0b z03 [(mVar 2),(mC (.int 4))]) addD)] ⟨sD R a b c x j PK o4 T,tm,n⟩= .ok [.int (1+r)] ⟨sD R a b c1 x1 j PK o4 T,tm,n⟩:=by
  walk_at "mr"
  rw[e1,z15 rfl rfl rfl (by simp only[z07,Option.map_some,z0A,z0r,r4,rT,z1M hj,z1c hR]) (by simp only[z07,Option.map_some,z0r,rt'])]
  simp only[z07,Option.map_some,z0A,z0r,r4,rT,z1M hj,z1c hR,rt']
  walk_at "mr"
 obtain⟨ys,b',n',g1,g2,g3,⟨c3,x3,rfl,h3⟩,g5,g6⟩:=z6M (ms:=[(mBin (mC (.int 1)) (z0b z03 [(mVar 2),(mC (.int 4))]) addD)]) (me:=z0b z03 [(mVar 1),(mC (.int 1040))]) (N:=(1+r).toNat) (ix:=[2]) (s:=⟨sD R a b c x j PK o4 T,tm,n⟩) (l:=b) (n:=n) (j:=1+r) (σ0:=sD R a b c1 x1 j PK o4 T) (tm0:=tm) (b:=[.int c1, .int x1]) (Bg:=fun bb=> ∃c x,bb=[.int c, .int x]∧Bg c x) (Q:=fun _ y=> ∃i:Int,y= .int i) (fun _ _ _ _ h=>h)
  hms rfl ⟨by omega,by omega⟩ (by rw[zl];omega) ⟨c1,x1,rfl,hb1⟩ hn (by simp only[z07,Option.map_some,z0A,z0r,r4,rT,z1M hj,z1c hR]) (rt' _) (by simp only[List.map_cons,List.map_nil,List.getElem?_cons_zero,List.getElem?_cons_succ,Option.getD_some,z07,z0g,Option.map_some,z0A]) (by
   rintro i hi b2 tm m ⟨c,x,rfl,hb⟩ hm hf
   obtain⟨r,c',x',hs0,hs1,h',e'⟩:=z1L b c x 1040 m hb (by decide) (by decide)
   refine⟨.int r,[.int c', .int x'],m,⟨c',x',rfl,h'⟩,⟨_,rfl⟩,Nat.le_refl _,by simp[labs], ?_⟩
   simp only[List.map_cons,List.map_nil,List.getElem?_cons_zero,List.getElem?_cons_succ,Option.getD_some]
   walk_at "mr"
   rw[e',z15 rfl rfl rfl (by walk_at "mr") hf]
   walk_at "mr")
 obtain⟨ns,rfl⟩:=z72 g2
 refine⟨ns,c3,x3,n'+1,by simp at g1;omega,h3,by omega, ?_⟩
 walk_at "mr"
 rw[g6]
 simp only[z07,Option.map_some,z0A,z0r,r4,rT,z1M hj,z1c hR,rt']
 walk_at "mr"
 rfl
theorem z73(R:List D)(hR:z00 R=[])(a:Int)(b:Nat)(c x:Int)(j N:Nat)(T:List (Option D))(n:Nat)(o4:Option D)(hN:N≤40)(hb:Bg c x)(hn:b<n)(hj:j≠b)
 (r4:UpO b o4) (rT: ∀d,rpO (pl b d) T=T) (rj: ∀d,rpO (pl j d) T=T):
 ∃(PK:List (List Int)) (c' x':Int) (p4:Option D) (n':Nat),PK.length≤N∧(∀p∈PK,p.length≤4)∧UpO b p4∧Bg c' x'∧n≤n'∧
 forGo (kRng 0 N) (.nm 4) (mTri (mC (.bool true)) (mVar 3) (mCB [(z0y (z0Z [(mBin (mC (.int 1)) (z0b z03 [(mVar 2),(mC (.int 4))]) addD)]) (.nm 0) (rt true) (z0b z03 [(mVar 1),(mC (.int 1040))]) 1 [2])] tupF) z1U) N 0 ⟨sD R a b c x j [] o4 T,[some (.ro R)],n⟩
  = .nx ⟨sD R a b c' x' j PK p4 T,[some (.ro R)],n'⟩:=by
 obtain⟨s',e,PK,c',x',p4,n',rfl,q1,q2,q3,q4,q5⟩:=z35 (P:=fun i s=> ∃(PK:List (List Int)) (c' x':Int) (p4:Option D) (n':Nat),s=⟨sD R a b c' x' j PK p4 T,[some (.ro R)],n'⟩∧PK.length≤i∧(∀p∈PK,p.length≤4)∧UpO b p4∧Bg c' x'∧n≤n') (lo:=0) (N:=N) (g:= .nm 4)
  (b:=mTri (mC (.bool true)) (mVar 3) (mCB [(z0y (z0Z [(mBin (mC (.int 1)) (z0b z03 [(mVar 2),(mC (.int 4))]) addD)]) (.nm 0) (rt true) (z0b z03 [(mVar 1),(mC (.int 1040))]) 1 [2])] tupF) z1U)
  (by
   rintro i hi s ⟨PK,c',x',p4,n',rfl,q1,q2,q3,q4,q5⟩
   refine⟨_,rfl, ?_⟩
   obtain⟨p,c2,x2,n2,hp,hb2,hn2,e2⟩:=z9O R hR a b c' x' j PK (some (.int (i:Int))) T [some (dD j PK),some (.bool true),some (.ro R)] n' q4 (by omega) hj (fun _=>rfl) rT (fun d=>by simp only[z07,z0g,Option.map_some,z1M hj,z33,z1c hR])
   refine⟨_, ?_,addK PK p,c2,x2,some (.int (i:Int)),n2,rfl,Nat.le_trans z7S (by omega),fun q hq=> ?_,z2t,hb2,by omega⟩
   ·generalize mCB [(z0y (z0Z [(mBin (mC (.int 1)) (z0b z03 [(mVar 2),(mC (.int 4))]) addD)]) (.nm 0) (rt true) (z0b z03 [(mVar 1),(mC (.int 1040))]) 1 [2])] tupF=mi at e2⊢
    rw[z7M]
    walk_at "mr"
    rw[e2]
    walk_at "mr"
    rw[show kd p= .tup (p.map .int) from rfl,zbm (by omega)]
    simp only[z2J,z07,z0g,Option.map_some,zbn,z0r,rj,z1c hR,z0V (show b≠j from fun e=>hj e.symm) (show z00 [.int c2, .int x2]=[] from rfl)]
   ·rcases z7R.mp hq with h|rfl
    ·exact q2 q h
    ·exact hp)
  N 0 ⟨sD R a b c x j [] o4 T,[some (.ro R)],n⟩ (by omega) ⟨[],c,x,o4,n,rfl,Nat.le_refl _,(fun p hp=>nomatch hp),r4,hb,Nat.le_refl _⟩
 exact⟨PK,c',x',p4,n',q1,q2,q3,q4,q5,e⟩
set_option Elab.async false
set_option linter.all false
set_option maxRecDepth 100000
set_option maxHeartbeats 1000000
theorem z7W(k:Nat){sz pg fg:Int}(h0:1≤sz)(h1:sz≤9):(1≤fg∧fg≤sz∧0≤pg*sz+fg - 1∧pg*sz+fg - 1<k)↔(0≤pg∧pg<((k:Int)+sz - 1)/sz∧1≤fg∧fg≤if(k:Int) -pg*sz<sz then(k:Int) -pg*sz else sz):=by
 rcases sz9 h0 h1 with rfl|rfl|rfl|rfl|rfl|rfl|rfl|rfl|rfl<;>(split<;>omega)
theorem z9P(p:List Int):Gd (kd p)∧(er (kd p)).depth≤5∧labs (kd p)=[]:=by
 have h: ∀e∈p.map D.int,Tr e=true∧(er e).depth≤1:=fun e he=>by
  obtain⟨i,_,rfl⟩:=List.mem_map.mp he;exact zbk
 refine⟨?_, ?_, ?_⟩
 ·exact Gd.tup.mpr (z6Z fun d hd=>by obtain⟨i,_,rfl⟩:=List.mem_map.mp hd;exact⟨rfl,rfl⟩)
 ·have:=(z4d (k:=1) (ds:=p.map D.int)).mpr fun d hd=>(h d hd).2
  simp only[kd,er,PyData.depth];omega
 ·simp only[kd,labs]
  exact z0E fun d hd=>by obtain⟨i,_,rfl⟩:=List.mem_map.mp hd;rfl
theorem z7X{S:List (List Int)}(h:S.length≤1000):Sd (S.map kd):=⟨by rw[List.length_map];exact h,fun d hd=>by obtain⟨p,_,rfl⟩:=List.mem_map.mp hd;exact z9P p⟩
theorem okR:PyData.strOk ("refused" :Str)=true:=by decide+kernel
theorem zbs:Gd (.tup [.str "refused", .bool true])∧(er (.tup [.str "refused", .bool true])).depth≤5∧labs (.tup [.str "refused", .bool true])=[]:=by
 refine⟨Gd.tup.mpr (GdL.cons.mpr ⟨⟨rfl,okR⟩,GdL.cons.mpr ⟨⟨rfl,rfl⟩,⟨rfl,rfl⟩⟩⟩),by simp[er,erL,PyData.depth,PyData.depthAll],rfl⟩
theorem z74{d:D}(h:Gd d∧(er d).depth≤5∧labs d=[]){s:Stt}:neD d d s= .ok (.bool false) s:=z6T h.1 h.1 rfl (by have:=h.2.1;omega)
noncomputable abbrev sL(R:List D)(a:Int)(o2 o3 o4:Option D)(l:Nat)(S:List (List Int))(sz mn far:Int)(k:Nat)(pg fg:Option D)(o12:Option D):List (Option D):=
 [some (.ro R),some (.int a),o2,o3,o4,some (.lst l (S.map kd)),some (.int sz),some (.int mn),some (.int far),some (.lst k (S.map kd)),pg,fg,o12]
theorem z9Q(R:List D)(a:Int)(o2 o3 o4:Option D)(l:Nat)(S:List (List Int))(sz far:Int)(k:Nat)(pg fg:Int)(o12:Option D)(tm:List (Option D))(n:Nat)(h0:1≤sz)(h1:sz≤9):
 mAnd (mBoo (z0h (mC (.int 0)) (mVar 10) (mVar 7) leD ltD)) (mBoo (z0h (mC (.int 1)) (mVar 11) (mCB [(mVar 6),(mBin (mCB [(mVar 5)] lenD) (mBin (mVar 10) (mVar 6) mulD) subD)] minD) leD leD)) ⟨sL R a o2 o3 o4 l S sz (((S.length:Int)+sz - 1)/sz) far k (some (.int pg)) (some (.int fg)) o12,tm,n⟩
  = .ok (decide (1≤fg∧fg≤sz∧0≤pg*sz+fg - 1∧pg*sz+fg - 1<S.length)) ⟨sL R a o2 o3 o4 l S sz (((S.length:Int)+sz - 1)/sz) far k (some (.int pg)) (some (.int fg)) o12,tm,n⟩:=by
 have e0:decide (1≤fg∧fg≤sz∧0≤pg*sz+fg - 1∧pg*sz+fg - 1<S.length)=decide (0≤pg∧pg<((S.length:Int)+sz - 1)/sz∧1≤fg∧fg≤if(S.length:Int) -pg*sz<sz then(S.length:Int) -pg*sz else sz):=decide_eq_decide.mpr (z7W S.length h0 h1)
 rw[e0]
 walk_at "mr"
 by_cases w1:0≤pg
 ·simp only[w1,decide_true]
  walk_at "mr"
  by_cases w2:pg<((S.length:Int)+sz - 1)/sz
  ·simp only[w2,decide_true]
   walk_at "mr"
   by_cases w3:1≤fg
   ·simp only[w3,decide_true]
    walk_at "mr"
    rw[z1K (.inr ⟨by omega,by omega⟩)]
    walk_at "mr"
    rw[lenS]
    simp only[true_and]
   ·simp only[w3,decide_false,false_and,and_false]
    walk_at "mr"
  ·simp only[w2,decide_false,false_and,and_false]
   walk_at "mr"
 ·simp only[w1,decide_false,false_and]
  walk_at "mr"
theorem z7Y(R:List D)(a:Int)(o2 o3 o4:Option D)(l:Nat)(S:List (List Int))(hS:S.length≤1000)(sz far:Int)(k:Nat)(pg fg:Int)(o12:Option D)(tm:List (Option D))(n:Nat)(h0:1≤sz)(h1:sz≤9):
 ∃d,labs d=[]∧(seqS (sAsg (.nm 12) (mCB [(mC (.str ("refused" :Str))),(mC (.bool true))] tupD))
 (seqS (sIf (mAnd (mBoo (z0h (mC (.int 0)) (mVar 10) (mVar 7) leD ltD)) (mBoo (z0h (mC (.int 1)) (mVar 11) (mCB [(mVar 6),(mBin (mCB [(mVar 5)] lenD) (mBin (mVar 10) (mVar 6) mulD) subD)] minD) leD leD))) (sAsg (.nm 12) (mBin (mVar 5) (mBin (mBin (mBin (mVar 10) (mVar 6) mulD) (mVar 11) addD) (mC (.int 1)) subD) ixD)) sNx)
 (sIf (mOr (mBoo (mBin (z0b z0s [(mVar 9),(mVar 6),(mVar 10),(mVar 11)]) (mVar 12) neD)) (mBoo (mBin (mVar 9) (mVar 5) neD))) (sRet (mC (.bool false))) sNx))) ⟨sL R a o2 o3 o4 l S sz (((S.length:Int)+sz - 1)/sz) far k (some (.int pg)) (some (.int fg)) o12,tm,n⟩
  = .nx ⟨sL R a o2 o3 o4 l S sz (((S.length:Int)+sz - 1)/sz) far k (some (.int pg)) (some (.int fg)) (some d),tm,n⟩:=by
 have ec:=z9Q R a o2 o3 o4 l S sz far k pg fg (some (.tup [.str "refused", .bool true])) tm n h0 h1
 have hs:=z7X hS
 by_cases hw:z6W S sz pg fg
 ·obtain⟨p,hp,hd⟩:=zcy (S:=S) hw.2.2.1 hw.2.2.2
  refine⟨kd p,(z9P p).2.2, ?_⟩
  generalize (mAnd (mBoo (z0h (mC (.int 0)) (mVar 10) (mVar 7) leD ltD)) (mBoo (z0h (mC (.int 1)) (mVar 11) (mCB [(mVar 6),(mBin (mCB [(mVar 5)] lenD) (mBin (mVar 10) (mVar 6) mulD) subD)] minD) leD leD)))=mc at ec⊢
  walk_at "mr"
  have hd':decide (1≤fg∧fg≤sz∧0≤pg*sz+fg - 1∧pg*sz+fg - 1<S.length)=true:=decide_eq_true hw
  rw[ec,hd']
  walk_at "mr"
  rw[z1K (.inr ⟨by omega,by omega⟩)]
  walk_at "mr"
  rw[hd]
  walk_at "mr"
  rw[z9L S k n sz pg fg h0 h1 hw hd]
  walk_at "mr"
  rw[z74 (z9P p)]
  walk_at "mr"
  rw[hs.ne]
  walk_at "mr"
 ·refine⟨.tup [.str "refused", .bool true],rfl, ?_⟩
  generalize (mAnd (mBoo (z0h (mC (.int 0)) (mVar 10) (mVar 7) leD ltD)) (mBoo (z0h (mC (.int 1)) (mVar 11) (mCB [(mVar 6),(mBin (mCB [(mVar 5)] lenD) (mBin (mVar 10) (mVar 6) mulD) subD)] minD) leD leD)))=mc at ec⊢
  walk_at "mr"
  have hd':decide (1≤fg∧fg≤sz∧0≤pg*sz+fg - 1∧pg*sz+fg - 1<S.length)=false:=decide_eq_false hw
  rw[ec,hd']
  walk_at "mr"
  rw[z9M S k n sz pg fg h0 h1 hw]
  walk_at "mr"
  rw[z74 zbs]
  walk_at "mr"
  rw[hs.ne]
  walk_at "mr"
set_option Elab.async false
set_option linter.all false
set_option maxRecDepth 100000
set_option maxHeartbeats 1000000
theorem y_lr{a b:Int}{σ tm:List (Option D)}{n:Nat}(h:(-(2^62)≤a∧a<2^62∧-(2^62)≤b∧b<2^62)∧(b -a).toNat≤sizeLine):lrM [.int a, .int b] ⟨σ,tm,n⟩= .ok (.lst n (z1p a (b -a).toNat)) ⟨σ,tm,n+1⟩:=by
 simp only[lrM,if_pos h];rfl
theorem z3F{a:Int}{k:Nat}{d:D}(h:d∈z1p a k): ∃i:Int,d= .int i:=by
 obtain⟨i,_,rfl⟩:=List.mem_map.mp h;exact⟨_,rfl⟩
theorem z2u{a:Int}{k:Nat}:(z1p a k).length=k:=by simp only[z1p,List.length_map,List.length_range]
noncomputable def Lf(o:Option D):Prop:= ∀d,o=some d→labs d=[]
theorem Lf.up{o:Option D}{n:Nat}(h:Lf o):UpO n o:=fun d e k hk=>by rw[h d e] at hk;cases hk
theorem z8d{i:Int}:Lf (some (.int i)):=fun d e=>by cases e;rfl
theorem z75{l k:Nat}{a b:List D}{σ tm:List (Option D)}{n:Nat}(h:a.length+b.length≤sizeLine):addD (.lst l a) (.lst k b) ⟨σ,tm,n⟩= .ok (.lst n (a++b)) ⟨σ,tm,n+1⟩:=by
 simp only[addD,if_pos h];rfl
theorem zbt(R:List D)(a:Int)(o2 o3 o4:Option D)(l:Nat)(S:List (List Int))(hS:S.length≤1000)(sz far:Int)(k:Nat)(pg:Int)(o11 o12:Option D)(tm:List (Option D))(n:Nat)(h0:1≤sz)(h1:sz≤9)(u:Nat)(g11:UpO u o11)(g12:UpO u o12):
 ∃p11 p12,UpO u p11∧UpO u p12∧sFor (z0Y (mBin (mCB [(bd (mC (.int 1)) negD),(mBin (mVar 6) (mC (.int 2)) addD)] lrM) (mCB [(mVar 8),(mBin (mC (.int 0)) (mVar 8) subD)] lstM) addD)) (.nm 11) (seqS (sAsg (.nm 12) (mCB [(mC (.str ("refused" :Str))),(mC (.bool true))] tupD))
 (seqS (sIf (mAnd (mBoo (z0h (mC (.int 0)) (mVar 10) (mVar 7) leD ltD)) (mBoo (z0h (mC (.int 1)) (mVar 11) (mCB [(mVar 6),(mBin (mCB [(mVar 5)] lenD) (mBin (mVar 10) (mVar 6) mulD) subD)] minD) leD leD))) (sAsg (.nm 12) (mBin (mVar 5) (mBin (mBin (mBin (mVar 10) (mVar 6) mulD) (mVar 11) addD) (mC (.int 1)) subD) ixD)) sNx)
 (sIf (mOr (mBoo (mBin (z0b z0s [(mVar 9),(mVar 6),(mVar 10),(mVar 11)]) (mVar 12) neD)) (mBoo (mBin (mVar 9) (mVar 5) neD))) (sRet (mC (.bool false))) sNx))) ⟨sL R a o2 o3 o4 l S sz (((S.length:Int)+sz - 1)/sz) far k (some (.int pg)) o11 o12,tm,n⟩
  = .nx ⟨sL R a o2 o3 o4 l S sz (((S.length:Int)+sz - 1)/sz) far k (some (.int pg)) p11 p12,tm,n+3⟩:=by
 have hz:(z1p (-1) (sz+2 - -1).toNat++[D.int far,D.int (0 -far)]).length≤20:=by
  rw[List.length_append,z2u];simp;omega
 have ei:z0Y (mBin (mCB [(bd (mC (.int 1)) negD),(mBin (mVar 6) (mC (.int 2)) addD)] lrM) (mCB [(mVar 8),(mBin (mC (.int 0)) (mVar 8) subD)] lstM) addD) ⟨sL R a o2 o3 o4 l S sz (((S.length:Int)+sz - 1)/sz) far k (some (.int pg)) o11 o12,tm,n⟩
  = .ok kLst ⟨sL R a o2 o3 o4 l S sz (((S.length:Int)+sz - 1)/sz) far k (some (.int pg)) o11 o12,some (.lst (n+2) (z1p (-1) (sz+2 - -1).toNat++[.int far, .int (0 -far)]))::tm,n+3⟩:=by
  unfold z0Y
  walk_at "mr"
  rw[y_lr ⟨by omega,by rw[zl];omega⟩]
  walk_at "mr"
  rw[z75 (by rw[zl];simp only[List.length_append] at hz;omega)]
  rfl
 generalize hds:z1p (-1) (sz+2 - -1).toNat++[D.int far,D.int (0 -far)]=ds at ei hz
 have hd: ∀d∈ds,∃i:Int,d= .int i:=by
  rw[←hds]
  intro d hd
  rcases List.mem_append.mp hd with h|h
  ·exact z3F h
  ·simp only[List.mem_cons,List.not_mem_nil,or_false] at h
   rcases h with rfl|rfl
   ·exact⟨_,rfl⟩
   ·exact⟨_,rfl⟩
 obtain⟨s',e,q11,q12,rfl,v11,v12⟩:=z6N (P:=fun s=> ∃q11 q12,s=⟨sL R a o2 o3 o4 l S sz (((S.length:Int)+sz - 1)/sz) far k (some (.int pg)) q11 q12,some (.lst (n+2) ds)::tm,n+3⟩∧UpO u q11∧UpO u q12) (l:=n+2) (ds:=ds) (g:= .nm 11) (tm:=tm)
  (b:=(seqS (sAsg (.nm 12) (mCB [(mC (.str ("refused" :Str))),(mC (.bool true))] tupD))
  (seqS (sIf (mAnd (mBoo (z0h (mC (.int 0)) (mVar 10) (mVar 7) leD ltD)) (mBoo (z0h (mC (.int 1)) (mVar 11) (mCB [(mVar 6),(mBin (mCB [(mVar 5)] lenD) (mBin (mVar 10) (mVar 6) mulD) subD)] minD) leD leD))) (sAsg (.nm 12) (mBin (mVar 5) (mBin (mBin (mBin (mVar 10) (mVar 6) mulD) (mVar 11) addD) (mC (.int 1)) subD) ixD)) sNx)
  (sIf (mOr (mBoo (mBin (z0b z0s [(mVar 9),(mVar 6),(mVar 10),(mVar 11)]) (mVar 12) neD)) (mBoo (mBin (mVar 9) (mVar 5) neD))) (sRet (mC (.bool false))) sNx))))
  (by rintro s ⟨q11,q12,rfl,_⟩;rfl)
  (by
   rintro d hdd s ⟨q11,q12,rfl,v11,v12⟩
   obtain⟨fg,rfl⟩:=hd d hdd
   obtain⟨d',ld,e⟩:=z7Y R a o2 o3 o4 l S hS sz far k pg fg q12 (some (.lst (n+2) ds)::tm) (n+3) h0 h1
   exact⟨_,rfl,_,e,_,_,rfl,z8d.up,Lf.up fun x hx=>by cases hx;exact ld⟩)
  ds.length 0 ⟨sL R a o2 o3 o4 l S sz (((S.length:Int)+sz - 1)/sz) far k (some (.int pg)) o11 o12,some (.lst (n+2) ds)::tm,n+3⟩ (by omega) ⟨o11,o12,rfl,g11,g12⟩
 refine⟨q11,q12,v11,v12, ?_⟩
 rw[z7N,ei]
 show forGo kLst _ _ ds.length 0 _=_
 rw[e]
 rfl
theorem z9R(R:List D)(a:Int)(o2 o3 o4:Option D)(l:Nat)(S:List (List Int))(hS:S.length≤1000)(sz far:Int)(k:Nat)(o10 o11 o12:Option D)(tm:List (Option D))(n:Nat)(h0:1≤sz)(h1:sz≤9)(u:Nat)(g10:UpO u o10)(g11:UpO u o11)(g12:UpO u o12):
 ∃p10 p11 p12 n',n≤n'∧UpO u p10∧UpO u p11∧UpO u p12∧sFor (z0Y (mBin (mCB [(bd (mC (.int 2)) negD),(mBin (mVar 7) (mC (.int 2)) addD)] lrM) (mCB [(mVar 8)] lstM) addD)) (.nm 10) (sFor (z0Y (mBin (mCB [(bd (mC (.int 1)) negD),(mBin (mVar 6) (mC (.int 2)) addD)] lrM) (mCB [(mVar 8),(mBin (mC (.int 0)) (mVar 8) subD)] lstM) addD)) (.nm 11) (seqS (sAsg (.nm 12) (mCB [(mC (.str ("refused" :Str))),(mC (.bool true))] tupD))
 (seqS (sIf (mAnd (mBoo (z0h (mC (.int 0)) (mVar 10) (mVar 7) leD ltD)) (mBoo (z0h (mC (.int 1)) (mVar 11) (mCB [(mVar 6),(mBin (mCB [(mVar 5)] lenD) (mBin (mVar 10) (mVar 6) mulD) subD)] minD) leD leD))) (sAsg (.nm 12) (mBin (mVar 5) (mBin (mBin (mBin (mVar 10) (mVar 6) mulD) (mVar 11) addD) (mC (.int 1)) subD) ixD)) sNx)
 (sIf (mOr (mBoo (mBin (z0b z0s [(mVar 9),(mVar 6),(mVar 10),(mVar 11)]) (mVar 12) neD)) (mBoo (mBin (mVar 9) (mVar 5) neD))) (sRet (mC (.bool false))) sNx)))) ⟨sL R a o2 o3 o4 l S sz (((S.length:Int)+sz - 1)/sz) far k o10 o11 o12,tm,n⟩
  = .nx ⟨sL R a o2 o3 o4 l S sz (((S.length:Int)+sz - 1)/sz) far k p10 p11 p12,tm,n'⟩:=by
 have hm:0≤((S.length:Int)+sz - 1)/sz∧((S.length:Int)+sz - 1)/sz≤1000:=by
  rcases sz9 h0 h1 with rfl|rfl|rfl|rfl|rfl|rfl|rfl|rfl|rfl<;>omega
 have ei:z0Y (mBin (mCB [(bd (mC (.int 2)) negD),(mBin (mVar 7) (mC (.int 2)) addD)] lrM) (mCB [(mVar 8)] lstM) addD) ⟨sL R a o2 o3 o4 l S sz (((S.length:Int)+sz - 1)/sz) far k o10 o11 o12,tm,n⟩
  = .ok kLst ⟨sL R a o2 o3 o4 l S sz (((S.length:Int)+sz - 1)/sz) far k o10 o11 o12,some (.lst (n+2) (z1p (-2) (((S.length:Int)+sz - 1)/sz+2 - -2).toNat++[.int far]))::tm,n+3⟩:=by
  unfold z0Y
  walk_at "mr"
  rw[y_lr ⟨by omega,by rw[zl];omega⟩]
  walk_at "mr"
  rw[z75 (by rw[zl,z2u];simp;omega)]
  rfl
 generalize hds:z1p (-2) (((S.length:Int)+sz - 1)/sz+2 - -2).toNat++[D.int far]=ds at ei
 have hd: ∀d∈ds,∃i:Int,d= .int i:=by
  rw[←hds]
  intro d hd
  rcases List.mem_append.mp hd with h|h
  ·exact z3F h
  ·simp only[List.mem_cons,List.not_mem_nil,or_false] at h
   exact⟨_,h⟩
 obtain⟨s',e,q10,q11,q12,n',rfl,hn',v10,v11,v12⟩:=z6N (P:=fun s=> ∃q10 q11 q12 n',s=⟨sL R a o2 o3 o4 l S sz (((S.length:Int)+sz - 1)/sz) far k q10 q11 q12,some (.lst (n+2) ds)::tm,n'⟩∧n≤n'∧UpO u q10∧UpO u q11∧UpO u q12) (l:=n+2) (ds:=ds) (g:= .nm 10) (tm:=tm)
  (b:=(sFor (z0Y (mBin (mCB [(bd (mC (.int 1)) negD),(mBin (mVar 6) (mC (.int 2)) addD)] lrM) (mCB [(mVar 8),(mBin (mC (.int 0)) (mVar 8) subD)] lstM) addD)) (.nm 11) (seqS (sAsg (.nm 12) (mCB [(mC (.str ("refused" :Str))),(mC (.bool true))] tupD))
  (seqS (sIf (mAnd (mBoo (z0h (mC (.int 0)) (mVar 10) (mVar 7) leD ltD)) (mBoo (z0h (mC (.int 1)) (mVar 11) (mCB [(mVar 6),(mBin (mCB [(mVar 5)] lenD) (mBin (mVar 10) (mVar 6) mulD) subD)] minD) leD leD))) (sAsg (.nm 12) (mBin (mVar 5) (mBin (mBin (mBin (mVar 10) (mVar 6) mulD) (mVar 11) addD) (mC (.int 1)) subD) ixD)) sNx)
  (sIf (mOr (mBoo (mBin (z0b z0s [(mVar 9),(mVar 6),(mVar 10),(mVar 11)]) (mVar 12) neD)) (mBoo (mBin (mVar 9) (mVar 5) neD))) (sRet (mC (.bool false))) sNx)))))
  (by rintro s ⟨q10,q11,q12,n',rfl,_⟩;rfl)
  (by
   rintro d hdd s ⟨q10,q11,q12,n',rfl,hn',v10,v11,v12⟩
   obtain⟨pg,rfl⟩:=hd d hdd
   obtain⟨p11,p12,w11,w12,e⟩:=zbt R a o2 o3 o4 l S hS sz far k pg q11 q12 (some (.lst (n+2) ds)::tm) n' h0 h1 u v11 v12
   exact⟨_,rfl,_,e,_,_,_,_,rfl,by omega,z8d.up,w11,w12⟩)
  ds.length 0 ⟨sL R a o2 o3 o4 l S sz (((S.length:Int)+sz - 1)/sz) far k o10 o11 o12,some (.lst (n+2) ds)::tm,n+3⟩ (by omega) ⟨o10,o11,o12,_,rfl,by omega,g10,g11,g12⟩
 refine⟨q10,q11,q12,n',hn',v10,v11,v12, ?_⟩
 rw[z7N,ei]
 show forGo kLst _ _ ds.length 0 _=_
 rw[e]
 rfl
set_option Elab.async false
set_option linter.all false
set_option maxRecDepth 100000
set_option maxHeartbeats 1000000
theorem zbu{σ tm:List (Option D)}{n:Nat}:z5d ⟨σ,tm,n⟩= .ok (dD n []) ⟨σ,tm,n+1⟩:=(rfl)
theorem z9S{j:Nat}{PK:List (List Int)}{σ tm:List (Option D)}{n:Nat}:z3w [dD j PK] ⟨σ,tm,n⟩= .ok (.lst n (PK.map kd)) ⟨σ,tm,n+1⟩:=by
 have hT:isT (PK.map kd)=true:=by cases PK<;>rfl
 unfold z3w dD
 simp only[rdD,if_pos hT]
 rfl
theorem z8e(ns:List Int):z00 (ns.map D.int)=[]:=z0E fun d hd=>by obtain⟨i,_,rfl⟩:=List.mem_map.mp hd;rfl
theorem zcz(ns:List Int)(hl:ns.length<1000)(a n:Nat)(ha:a<1000)(o2 o3 o4 o5 o6 o7 o8 o9 o10 o11 o12:Option D)(u4:UpO n o4)(u5:UpO n o5)(u6:UpO n o6)(u7:UpO n o7)(u8:UpO n o8)(u9:UpO n o9)(u10:UpO n o10)(u11:UpO n o11)(u12:UpO n o12):
 ∃(PK:List (List Int)) (c x:Int) (p4:Option D) (l:Nat),PK.length≤40∧Bg c x∧n+2≤l∧UpO n p4∧∀rest:MS,(seqS (sAsg (.nm 2) (z0b z1I [(mVar 0),(mVar 1)]))
 (seqS (sAsg (.nm 3) z5d)
 (seqS (sFor (z0Z [(z0b z03 [(mVar 2),(mC (.int 31))])]) (.nm 4) (mTri (mC (.bool true)) (mVar 3) (mCB [(z0y (z0Z [(mBin (mC (.int 1)) (z0b z03 [(mVar 2),(mC (.int 4))]) addD)]) (.nm 0) (rt true) (z0b z03 [(mVar 1),(mC (.int 1040))]) 1 [2])] tupF) z1U))
 (seqS (sAsg (.nm 5) (mCB [(mVar 3)] z3w)) rest)))) ⟨[some (.ro (ns.map .int)),some (.int a),o2,o3,o4,o5,o6,o7,o8,o9,o10,o11,o12],[some (.ro (ns.map .int))],n⟩
  =rest ⟨[some (.ro (ns.map .int)),some (.int a),some (.lst n [.int c, .int x]),some (dD (n+1) PK),p4,some (.lst l (PK.map kd)),o6,o7,o8,o9,o10,o11,o12],[some (.ro (ns.map .int))],l+1⟩:=by
 obtain⟨c0,x0,hb0,eb⟩:=zbg ns a n ha hl
 obtain⟨r,c1,x1,hr0,hr1,hb1,e1⟩:=z1L n c0 x0 31 (n+2) hb0 (by decide) (by decide)
 have hR:=z8e ns
 obtain⟨PK,c,x,p4,l,q1,q2,q3,q4,q5,e2⟩:=z73 (ns.map .int) hR a n c1 x1 (n+1) r.toNat [o5,o6,o7,o8,o9,o10,o11,o12] (n+2) o4 (by omega) hb1 (by omega) (by omega) u4
  (fun d=>by simp only[z07,z0g,u5.fix,u6.fix,u7.fix,u8.fix,u9.fix,u10.fix,u11.fix,u12.fix])
  (fun d=>by simp only[z07,z0g,u5.fixk (Nat.le_succ n),u6.fixk (Nat.le_succ n),u7.fixk (Nat.le_succ n),u8.fixk (Nat.le_succ n),u9.fixk (Nat.le_succ n),u10.fixk (Nat.le_succ n),u11.fixk (Nat.le_succ n),u12.fixk (Nat.le_succ n)])
 refine⟨PK,c,x,p4,l,by omega,q4,q5,q3,fun rest=> ?_⟩
 generalize (mTri (mC (.bool true)) (mVar 3) (mCB [(z0y (z0Z [(mBin (mC (.int 1)) (z0b z03 [(mVar 2),(mC (.int 4))]) addD)]) (.nm 0) (rt true) (z0b z03 [(mVar 1),(mC (.int 1040))]) 1 [2])] tupF) z1U)=mb at e2⊢
 walk_at "mr"
 rw[eb]
 walk_at "mr"
 rw[zbu]
 walk_at "mr"
 rw[e1,z15 rfl rfl rfl (by simp only[z07,z0g,Option.map_some,z0A,z0r,z1c hR,z1M (show n+1≠n by omega),u4.fix,u5.fix,u6.fix,u7.fix,u8.fix,u9.fix,u10.fix,u11.fix,u12.fix]) (by simp only[z07,z0g,Option.map_some,z1c hR])]
 simp only[z07,z0g,Option.map_some,z0A,z0r,z1c hR,z1M (show n+1≠n by omega),u4.fix,u5.fix,u6.fix,u7.fix,u8.fix,u9.fix,u10.fix,u11.fix,u12.fix]
 walk_at "mr"
 rw[z3A ⟨by omega,by omega⟩]
 walk_at "mr"
 rw[e2]
 walk_at "mr"
 rw[z9S]
 walk_at "mr"
theorem zcA(ns:List Int)(a n:Nat)(PK:List (List Int))(hP:PK.length≤40)(l:Nat)(o2 o3 o4 o6 o7 o8 o9 o10 o11 o12:Option D)(hl:l<n):
 ∃n',n≤n'∧∀rest:MS,(seqS (sIf (mNot (z1v (mCB [(z0y (z3O [(mC (.int 1)),(mC (.int 10))]) (.nm 0) (rt true) (z0b z0P [(mVar 1),(mVar 0)]) 1 [5])] allD))) (sRet (mC (.bool false))) sNx) rest) ⟨[some (.ro (ns.map .int)),some (.int a),o2,o3,o4,some (.lst l (PK.map kd)),o6,o7,o8,o9,o10,o11,o12],[some (.ro (ns.map .int))],n⟩
  =rest ⟨[some (.ro (ns.map .int)),some (.int a),o2,o3,o4,some (.lst l (PK.map kd)),o6,o7,o8,o9,o10,o11,o12],[some (.ro (ns.map .int))],n'⟩:=by
 have hs:=z7X (S:=PK) (by omega)
 obtain⟨n1,hn1,hc⟩:=z7Q (mi:=z3O [(mC (.int 1)),(mC (.int 10))]) (K:=kRng 1 9) (me:=z0b z0P [(mVar 1),(mVar 0)]) (n0:=n) (g:=fun _=> .bool true) (items:=z1p 1 9) (its:=[]) (ix:=[5]) (s:=⟨[some (.ro (ns.map .int)),some (.int a),o2,o3,o4,some (.lst l (PK.map kd)),o6,o7,o8,o9,o10,o11,o12],[some (.ro (ns.map .int))],n⟩)
  (σ:=[some (.ro (ns.map .int)),some (.int a),o2,o3,o4,some (.lst l (PK.map kd)),o6,o7,o8,o9,o10,o11,o12]) (tm:=[some (.ro (ns.map .int))]) (n:=n) rfl (Nat.le_refl _) rfl (by rw[z2u,zl];decide) (zbf 1 9) rfl (by
   intro d hd tm m hm
   obtain⟨i,hi,rfl⟩:=List.mem_map.mp hd
   have hi:=List.mem_range.mp hi
   obtain⟨n',hn',e⟩:=z7V hs (1+(i:Int)) (by omega) (by omega) l m (by omega)
   refine⟨n',hn', ?_⟩
   show z0b _ _ ⟨[some (.int (1+(i:Int))),some (.lst l (PK.map kd))],tm,m⟩=_
   walk_at "mr"
   rw[e]
   walk_at "mr"
   rfl)
 refine⟨n1+1,by omega,fun rest=> ?_⟩
 walk_at "mr"
 rw[hc]
 walk_at "mr"
 rw[zb9 (bs:=(z1p 1 9).map fun _=>true) (z3y _ fun _=>true),z4N]
 walk_at "mr"
theorem zcB(ns:List Int)(a n:Nat)(PK:List (List Int))(hP:PK.length≤40)(b l j:Nat)(c x:Int)(hb:Bg c x)(hj:j≠b)(hl:l≠b)(hbn:b<n)(o4 o6 o7 o8 o9 o10 o11 o12:Option D)(u4:UpO b o4)(u6:UpO b o6)(u7:UpO b o7)(u8:UpO b o8)(u9:UpO b o9)(u10:UpO b o10)(u11:UpO b o11)(u12:UpO b o12):
 ∃(sz far c' x':Int),1≤sz∧sz≤9∧∀rest:MS,(seqS (sAsg (.nm 6) (mBin (mC (.int 1)) (z0b z03 [(mVar 2),(mC (.int 9))]) addD))
 (seqS (sAsg (.nm 7) (mBin (mBin (mBin (mCB [(mVar 5)] lenD) (mVar 6) addD) (mC (.int 1)) subD) (mVar 6) z1u))
 (seqS (sAsg (.nm 8) (mBin (z0b z03 [(mVar 2),(mBin (mC (.int 10)) (mC (.int 40)) powD)]) (mBin (mCB [(mC (.int 1)),(bd (mC (.int 1)) negD)] lstM) (z0b z03 [(mVar 2),(mC (.int 2))]) ixD) mulD))
 (seqS (sAsg (.nm 9) (mCB [(mVar 5)] z2S)) rest)))) ⟨[some (.ro (ns.map .int)),some (.int a),some (.lst b [.int c, .int x]),some (dD j PK),o4,some (.lst l (PK.map kd)),o6,o7,o8,o9,o10,o11,o12],[some (.ro (ns.map .int))],n⟩
  =rest ⟨sL (ns.map .int) a (some (.lst b [.int c', .int x'])) (some (dD j PK)) o4 l PK sz (((PK.length:Int)+sz - 1)/sz) far (n+1) o10 o11 o12,[some (.ro (ns.map .int))],n+2⟩:=by
 obtain⟨r1,c1,x1,hr0,hr1,hb1,e1⟩:=z1L b c x 9 n hb (by decide) (by decide)
 obtain⟨r2,c2,x2,_,_,hb2,e2⟩:=z1L b c1 x1 (10^(40:Int).toNat) n hb1 (by decide) (by decide)
 obtain⟨r3,c3,x3,hs0,hs1,hb3,e3⟩:=z1L b c2 x2 2 (n+1) hb2 (by decide) (by decide)
 have hR:=z8e ns
 have hL:=(z7X (S:=PK) (by omega)).lab
 have hd: ∃s:Int,(s=1∨s= -1)∧atI [D.int 1,D.int (-1)] r3=some (.int s):=by
  rcases(show r3=0∨r3=1 by omega) with rfl|rfl
  ·exact⟨1, .inl rfl,rfl⟩
  ·exact⟨-1, .inr rfl,rfl⟩
 obtain⟨s,hs,ed⟩:=hd
 refine⟨1+r1,r2*s,c3,x3,by omega,by omega,fun rest=> ?_⟩
 walk_at "mr"
 rw[e1,z15 rfl rfl rfl (by simp only[z07,z0g,Option.map_some,z0A,z0r,z1c hR,z1M hj,z0V hl hL,u4.fix,u6.fix,u7.fix,u8.fix,u9.fix,u10.fix,u11.fix,u12.fix]) (by simp only[z07,z0g,Option.map_some,z1c hR,z0r])]
 simp only[z07,z0g,Option.map_some,z0A,z0r,z1c hR,z1M hj,z0V hl hL,u4.fix,u6.fix,u7.fix,u8.fix,u9.fix,u10.fix,u11.fix,u12.fix]
 walk_at "mr"
 rw[z4J ⟨by omega,by omega⟩]
 walk_at "mr"
 rw[z7L ⟨by decide,by decide,by decide⟩]
 walk_at "mr"
 rw[e2,z15 rfl rfl rfl (by simp only[z07,z0g,Option.map_some,z0A,z0r,z1c hR,z1M hj,z0V hl hL,u4.fix,u6.fix,u7.fix,u8.fix,u9.fix,u10.fix,u11.fix,u12.fix]) (by simp only[z07,z0g,Option.map_some,z1c hR,z0r])]
 simp only[z07,z0g,Option.map_some,z0A,z0r,z1c hR,z1M hj,z0V hl hL,u4.fix,u6.fix,u7.fix,u8.fix,u9.fix,u10.fix,u11.fix,u12.fix]
 walk_at "mr"
 rw[e3,z15 rfl rfl rfl (by simp only[z07,z0g,Option.map_some,z0A,z0r,z1c hR,z1M hj,z0V hl hL,u4.fix,u6.fix,u7.fix,u8.fix,u9.fix,u10.fix,u11.fix,u12.fix]) (by simp only[z07,z0g,Option.map_some,z1c hR,z0r,z0V (show n≠b by omega) (show z00 [D.int 1,D.int (-1)]=[] from rfl)])]
 simp only[z07,z0g,Option.map_some,z0A,z0r,z1c hR,z1M hj,z0V hl hL,z0V (show n≠b by omega) (show z00 [D.int 1,D.int (-1)]=[] from rfl),u4.fix,u6.fix,u7.fix,u8.fix,u9.fix,u10.fix,u11.fix,u12.fix]
 walk_at "mr"
 rw[ed]
 walk_at "mr"
 rw[z1K (.inr ⟨by omega,by omega⟩)]
 walk_at "mr"
 rw[lenS]
set_option Elab.async false
set_option linter.all false
set_option maxRecDepth 100000
set_option maxHeartbeats 1000000
noncomputable def z7Z:MS:=(seqS (sAsg (.nm 2) (z0b z1I [(mVar 0),(mVar 1)]))
 (seqS (sAsg (.nm 3) z5d)
 (seqS (sFor (z0Z [(z0b z03 [(mVar 2),(mC (.int 31))])]) (.nm 4) (mTri (mC (.bool true)) (mVar 3) (mCB [(z0y (z0Z [(mBin (mC (.int 1)) (z0b z03 [(mVar 2),(mC (.int 4))]) addD)]) (.nm 0) (rt true) (z0b z03 [(mVar 1),(mC (.int 1040))]) 1 [2])] tupF) z1U))
 (seqS (sAsg (.nm 5) (mCB [(mVar 3)] z3w))
 (seqS (sIf (mNot (z1v (mCB [(z0y (z3O [(mC (.int 1)),(mC (.int 10))]) (.nm 0) (rt true) (z0b z0P [(mVar 1),(mVar 0)]) 1 [5])] allD))) (sRet (mC (.bool false))) sNx)
 (seqS (sAsg (.nm 6) (mBin (mC (.int 1)) (z0b z03 [(mVar 2),(mC (.int 9))]) addD))
 (seqS (sAsg (.nm 7) (mBin (mBin (mBin (mCB [(mVar 5)] lenD) (mVar 6) addD) (mC (.int 1)) subD) (mVar 6) z1u))
 (seqS (sAsg (.nm 8) (mBin (z0b z03 [(mVar 2),(mBin (mC (.int 10)) (mC (.int 40)) powD)]) (mBin (mCB [(mC (.int 1)),(bd (mC (.int 1)) negD)] lstM) (z0b z03 [(mVar 2),(mC (.int 2))]) ixD) mulD))
 (seqS (sAsg (.nm 9) (mCB [(mVar 5)] z2S))
 (sFor (z0Y (mBin (mCB [(bd (mC (.int 2)) negD),(mBin (mVar 7) (mC (.int 2)) addD)] lrM) (mCB [(mVar 8)] lstM) addD)) (.nm 10) (sFor (z0Y (mBin (mCB [(bd (mC (.int 1)) negD),(mBin (mVar 6) (mC (.int 2)) addD)] lrM) (mCB [(mVar 8),(mBin (mC (.int 0)) (mVar 8) subD)] lstM) addD)) (.nm 11) (seqS (sAsg (.nm 12) (mCB [(mC (.str ("refused" :Str))),(mC (.bool true))] tupD))
 (seqS (sIf (mAnd (mBoo (z0h (mC (.int 0)) (mVar 10) (mVar 7) leD ltD)) (mBoo (z0h (mC (.int 1)) (mVar 11) (mCB [(mVar 6),(mBin (mCB [(mVar 5)] lenD) (mBin (mVar 10) (mVar 6) mulD) subD)] minD) leD leD))) (sAsg (.nm 12) (mBin (mVar 5) (mBin (mBin (mBin (mVar 10) (mVar 6) mulD) (mVar 11) addD) (mC (.int 1)) subD) ixD)) sNx)
 (sIf (mOr (mBoo (mBin (z0b z0s [(mVar 9),(mVar 6),(mVar 10),(mVar 11)]) (mVar 12) neD)) (mBoo (mBin (mVar 9) (mVar 5) neD))) (sRet (mC (.bool false))) sNx))))))))))))))
theorem z9T(ns:List Int)(hl:ns.length<1000)(a n:Nat)(ha:a<1000)(o2 o3 o4 o5 o6 o7 o8 o9 o10 o11 o12:Option D)(u4:UpO n o4)(u5:UpO n o5)(u6:UpO n o6)(u7:UpO n o7)(u8:UpO n o8)(u9:UpO n o9)(u10:UpO n o10)(u11:UpO n o11)(u12:UpO n o12):
 ∃(p2 p3 p4 p5 p6 p7 p8 p9 p10 p11 p12:Option D) (n':Nat),n≤n'∧UpO n' p4∧UpO n' p5∧UpO n' p6∧UpO n' p7∧UpO n' p8∧UpO n' p9∧UpO n' p10∧UpO n' p11∧UpO n' p12∧z7Z ⟨[some (.ro (ns.map .int)),some (.int a),o2,o3,o4,o5,o6,o7,o8,o9,o10,o11,o12],[some (.ro (ns.map .int))],n⟩
  = .nx ⟨[some (.ro (ns.map .int)),some (.int a),p2,p3,p4,p5,p6,p7,p8,p9,p10,p11,p12],[some (.ro (ns.map .int))],n'⟩:=by
 obtain⟨PK,c,x,p4,l,hP,hb,hl2,v4,e1⟩:=zcz ns hl a n ha o2 o3 o4 o5 o6 o7 o8 o9 o10 o11 o12 u4 u5 u6 u7 u8 u9 u10 u11 u12
 obtain⟨n2,hn2,e2⟩:=zcA ns a (l+1) PK hP l (some (.lst n [.int c, .int x])) (some (dD (n+1) PK)) p4 o6 o7 o8 o9 o10 o11 o12 (by omega)
 obtain⟨sz,far,c',x',h0,h1,e3⟩:=zcB ns a n2 PK hP n l (n+1) c x hb (by omega) (by omega) (by omega) p4 o6 o7 o8 o9 o10 o11 o12 v4 u6 u7 u8 u9 u10 u11 u12
 obtain⟨p10,p11,p12,n',hn',w10,w11,w12,e4⟩:=z9R (ns.map .int) a (some (.lst n [.int c', .int x'])) (some (dD (n+1) PK)) p4 l PK (by omega) sz far (n2+1) o10 o11 o12 [some (.ro (ns.map .int))] (n2+2) h0 h1 n u10 u11 u12
 have hL:=(z7X (S:=PK) (by omega)).lab
 refine⟨some (.lst n [.int c', .int x']),some (dD (n+1) PK),p4,some (.lst l (PK.map kd)),some (.int sz),some (.int (((PK.length:Int)+sz - 1)/sz)),some (.int far),some (.lst (n2+1) (PK.map kd)),p10,p11,p12,n',by omega,v4.le (by omega),z4k (by omega) hL,z2t,z2t,z2t,z4k (by omega) hL,w10.le (by omega),w11.le (by omega),w12.le (by omega), ?_⟩
 unfold z7Z
 rw[e1,e2,e3,e4]
theorem zbv(ns:List Int)(hl:ns.length<1000)(n:Nat): ∃n',f_law [.ro (ns.map .int)] n= .ok (.bool true) [.ro (ns.map .int)] n':=by
 unfold f_law
 have e0:z8W=seqS (sFor (z0Z [(mCB [(mC (.int 1)),(mCB [(mC (.int 2)),(mCB [(mVar 0)] lenD)] minD)] maxD)]) (.nm 1) z7Z) (sRet (mC (.bool true))):=rfl
 rw[e0]
 walk_at "mr"
 have w0:((ns.map D.int).length:Int)=ns.length:=by simp
 rw[w0]
 generalize hk:(if(if(ns.length:Int)<(2:Int) then(ns.length:Int) else(2:Int))>1 then(if(ns.length:Int)<(2:Int) then(ns.length:Int) else(2:Int)) else(1:Int))=k
 have hk0:0≤k∧k≤6:=by split at hk<;>(try split at hk)<;>omega
 rw[z3A ⟨by omega,by omega⟩]
 walk_at "mr"
 obtain⟨s',e2,o1,o2,o3,o4,o5,o6,o7,o8,o9,o10,o11,o12,m,rfl,_⟩:=z35 (P:=fun i s=> ∃(o1 o2 o3 o4 o5 o6 o7 o8 o9 o10 o11 o12:Option D) (n:Nat),s=⟨[some (.ro (ns.map .int)),o1,o2,o3,o4,o5,o6,o7,o8,o9,o10,o11,o12],[some (.ro (ns.map .int))],n⟩∧UpO n o4∧UpO n o5∧UpO n o6∧UpO n o7∧UpO n o8∧UpO n o9∧UpO n o10∧UpO n o11∧UpO n o12) (lo:=0) (N:=k.toNat) (g:= .nm 1) (b:=z7Z) (by
  rintro i hi s ⟨o1,o2,o3,o4,o5,o6,o7,o8,o9,o10,o11,o12,n,rfl,u4,u5,u6,u7,u8,u9,u10,u11,u12⟩
  refine⟨[some (.ro (ns.map .int)),some (.int i),o2,o3,o4,o5,o6,o7,o8,o9,o10,o11,o12],by simp only[Int.zero_add];rfl, ?_⟩
  obtain⟨p2,p3,p4,p5,p6,p7,p8,p9,p10,p11,p12,n',hn,v4,v5,v6,v7,v8,v9,v10,v11,v12,e⟩:=z9T ns hl i n (by omega) o2 o3 o4 o5 o6 o7 o8 o9 o10 o11 o12 u4 u5 u6 u7 u8 u9 u10 u11 u12
  exact⟨_,e,_,_,_,_,_,_,_,_,_,_,_,_,n',rfl,v4,v5,v6,v7,v8,v9,v10,v11,v12⟩) k.toNat 0 ⟨[some (.ro (ns.map .int)),none,none,none,none,none,none,none,none,none,none,none,none],[some (.ro (ns.map .int))],n⟩ (by omega) ⟨none,none,none,none,none,none,none,none,none,none,none,none,n,rfl,z0z,z0z,z0z,z0z,z0z,z0z,z0z,z0z,z0z⟩
 rw[e2]
 walk_at "mr"
 exact⟨m,rfl⟩
end My
set_option maxHeartbeats 4000000
namespace Mi
open PySem L2 PySem.Spec PyProof.Rows
noncomputable def z76(K:PySem.W.Frag)(np:Nat)(f:FM):Sp:=fun vs H Q E=>vs.length=np∧∀G:Gx,G.K=K→KD K H→spM G np f vs H Q E
theorem zbw{P:Program}{w:World}{K:PySem.W.Frag}{mg:Str→Option Value}{base:Heap}{CX:CXT}{k:Nat}{fa:Addr}{fd:FuncData}{x:Str}{f:FM}{G:Gx}(hG:G.K=K)(F:FnOk P w K mg base CX k fa fd [x] (spM G 1 f)):FnOk P w K mg base CX k fa fd [x] (z76 K 1 f):=
 ⟨fun _ _ _ _ h=>h.1,fun A outer s H args us vs Q E hr e0 hb hv h=>F.run A outer s H args us vs Q E hr e0 hb hv (h.2 G hG fun a o e=>(e0.bs a o (e0.mod.kin a o e)).2)⟩
theorem RDs.ints{G:Gx}{ρ:Nat→Addr}{H:Hp}: ∀ns:List Int,RDs G ρ H (ns.map D.int) (ns.map V.int)
 |[]=>by simp only[List.map_nil,RDs]
 |n::ns=>by
  simp only[List.map_cons,RDs]
  exact⟨_,_,rfl,by simp only[RD],RDs.ints ns⟩
theorem z3G: ∀ns:List Int,z00 (ns.map D.int)=[]
 |[]=>by simp only[List.map_nil,z00]
 |n::ns=>by simp only[List.map_cons,z00,labs,z3G ns,List.nil_append]
theorem zbx{K:PySem.W.Frag}{H:Hp}{a:Addr}{ns:List Int}{f:FM}{E:XK}(e: ∀n,∃n',f [.ro (ns.map D.int)] n= .ok (.bool true) [.ro (ns.map D.int)] n')(hO:Only H)(hS:SqL K H a (ns.map V.int)):z76 K 1 f [.ref a] H (fun v _=>v= .bl true) E:=by
 refine⟨rfl,fun G hG kd=> ?_⟩
 subst hG
 refine⟨rfl,fun _=>a,0,[.ro (ns.map D.int)], ?_,fun i j hi=>absurd hi (Nat.not_lt_zero _),fun l hl=>absurd hl (Nat.not_lt_zero _),fun l hl=> ?_,kd, ?_⟩
 ·simp only[RDs,RD]
  refine⟨_,_,rfl,⟨a,ns.map V.int,rfl, ?_,RDs.ints ns⟩,rfl⟩
  rcases hS with(h|h)|h
  ·rcases hO a with z|⟨o,xs,z⟩<;>rw[h] at z<;>cases z
  ·exact .inl h
  ·exact .inr h
 ·simp only[z00,labs,z3G,List.append_nil] at hl
  cases hl
 ·obtain⟨n',e⟩:=e 0
  rw[e]
  intro ρ' v H' _ rd _
  simp only[RD] at rd
  exact rd
end Mi
namespace My
open PySem L2 Mi
theorem zby{l:PySem.W.OpenLaw}{w:World}{K:PySem.W.Frag}{h:Heap}{mg:Str→Option Value}{fa f0 f1 f2 f3 f4 f5 f6:Addr}(X:K.In h)(G:h.Ns mainGlobals mg)(hfa:mg "law" =some (.ref fa))
 {od0 an0:Option Addr} {sl0:Array (Option Value)} {oc0 kV0 dc0 pm0 cd0 ct0:Value}
 {od1 an1:Option Addr} {sl1:Array (Option Value)} {oc1 kV1 dc1 pm1 cd1 ct1:Value}
 {od2 an2:Option Addr} {sl2:Array (Option Value)} {oc2 kV2 dc2 pm2 cd2 ct2:Value}
 {od3 an3:Option Addr} {sl3:Array (Option Value)} {oc3 kV3 dc3 pm3 cd3 ct3:Value}
 {od4 an4:Option Addr} {sl4:Array (Option Value)} {oc4 kV4 dc4 pm4 cd4 ct4:Value}
 {od5 an5:Option Addr} {sl5:Array (Option Value)} {oc5 kV5 dc5 pm5 cd5 ct5:Value}
 {od6 an6:Option Addr} {sl6:Array (Option Value)} {oc6 kV6 dc6 pm6 cd6 ct6:Value}
 (a0:PySem.W.nsIn K mainGlobals "pages" =some (some (.ref f0))) (l0:K.lookup f0=some ⟨oc0,od0, .func (PySem.W.fnOf "pages" "pages" (z0G z11) (z0m z11) (z01 z11) .none kV0 dc0 pm0 an0 cd0 ct0),sl0⟩) (c0:PySem.W.codeIn K cd0 "pages" =true) (k0:PySem.W.keepIn K (.ref f0)=true)
 (a1:PySem.W.nsIn K mainGlobals "picked" =some (some (.ref f1))) (l1:K.lookup f1=some ⟨oc1,od1, .func (PySem.W.fnOf "picked" "picked" (z0G z0L) (z0m z0L) (z01 z0L) .none kV1 dc1 pm1 an1 cd1 ct1),sl1⟩) (c1:PySem.W.codeIn K cd1 "picked" =true) (k1:PySem.W.keepIn K (.ref f1)=true)
 (a2:PySem.W.nsIn K mainGlobals "_law_bag" =some (some (.ref f2))) (l2:K.lookup f2=some ⟨oc2,od2, .func (PySem.W.fnOf "_law_bag" "_law_bag" (z0G z1H) (z0m z1H) (z01 z1H) .none kV2 dc2 pm2 an2 cd2 ct2),sl2⟩) (c2:PySem.W.codeIn K cd2 "_law_bag" =true) (k2:PySem.W.keepIn K (.ref f2)=true)
 (a3:PySem.W.nsIn K mainGlobals "_law_take" =some (some (.ref f3))) (l3:K.lookup f3=some ⟨oc3,od3, .func (PySem.W.fnOf "_law_take" "_law_take" (z0G z1i) (z0m z1i) (z01 z1i) .none kV3 dc3 pm3 an3 cd3 ct3),sl3⟩) (c3:PySem.W.codeIn K cd3 "_law_take" =true) (k3:PySem.W.keepIn K (.ref f3)=true)
 (a4:PySem.W.nsIn K mainGlobals "_law_told" =some (some (.ref f4))) (l4:K.lookup f4=some ⟨oc4,od4, .func (PySem.W.fnOf "_law_told" "_law_told" (z0G z1j) (z0m z1j) (z01 z1j) .none kV4 dc4 pm4 an4 cd4 ct4),sl4⟩) (c4:PySem.W.codeIn K cd4 "_law_told" =true) (k4:PySem.W.keepIn K (.ref f4)=true)
 (a5:PySem.W.nsIn K mainGlobals "_law_right" =some (some (.ref f5))) (l5:K.lookup f5=some ⟨oc5,od5, .func (PySem.W.fnOf "_law_right" "_law_right" (z0G z12) (z0m z12) (z01 z12) .none kV5 dc5 pm5 an5 cd5 ct5),sl5⟩) (c5:PySem.W.codeIn K cd5 "_law_right" =true) (k5:PySem.W.keepIn K (.ref f5)=true)
 (a6:PySem.W.nsIn K mainGlobals "law" =some (some (.ref f6))) (l6:K.lookup f6=some ⟨oc6,od6, .func (PySem.W.fnOf "law" "law" (z0G z2Y) (z0m z2Y) (z01 z2Y) .none kV6 dc6 pm6 an6 cd6 ct6),sl6⟩) (c6:PySem.W.codeIn K cd6 "law" =true) (k6:PySem.W.keepIn K (.ref f6)=true)
 (z0:PySem.W.nsIn K mainGlobals "ValueError" =some none)
 (z1:PySem.W.nsIn K mainGlobals "abs" =some none)
 (z2:PySem.W.nsIn K mainGlobals "all" =some none)
 (z3:PySem.W.nsIn K mainGlobals "enumerate" =some none)
 (z4:PySem.W.nsIn K mainGlobals "isinstance" =some none)
 (z5:PySem.W.nsIn K mainGlobals "len" =some none)
 (z6:PySem.W.nsIn K mainGlobals "list" =some none)
 (z7:PySem.W.nsIn K mainGlobals "max" =some none)
 (z8:PySem.W.nsIn K mainGlobals "min" =some none)
 (z9:PySem.W.nsIn K mainGlobals "range" =some none)
 (z10:PySem.W.nsIn K mainGlobals "tuple" =some none)
 {C_Barred:Addr}
 (q_cm_Barred:PySem.W.nsIn K mainGlobals "Barred" =some (some (.ref C_Barred)))
 {C_BenchError:Addr}
 (q_cm_BenchError:PySem.W.nsIn K mainGlobals "BenchError" =some (some (.ref C_BenchError)))
 {C_Fight:Addr}
 (q_cm_Fight:PySem.W.nsIn K mainGlobals "Fight" =some (some (.ref C_Fight)))
 {C_Full:Addr}
 (q_cm_Full:PySem.W.nsIn K mainGlobals "Full" =some (some (.ref C_Full)))
 {C_Marked:Addr}
 (q_cm_Marked:PySem.W.nsIn K mainGlobals "Marked" =some (some (.ref C_Marked)))
 {C_Missing:Addr}
 (q_cm_Missing:PySem.W.nsIn K mainGlobals "Missing" =some (some (.ref C_Missing)))
 {C_NoChoice:Addr}
 (q_cm_NoChoice:PySem.W.nsIn K mainGlobals "NoChoice" =some (some (.ref C_NoChoice)))
 {C_NoCutting:Addr}
 (q_cm_NoCutting:PySem.W.nsIn K mainGlobals "NoCutting" =some (some (.ref C_NoCutting)))
 {C_NoDeed:Addr}
 (q_cm_NoDeed:PySem.W.nsIn K mainGlobals "NoDeed" =some (some (.ref C_NoDeed)))
 {C_NoMark:Addr}
 (q_cm_NoMark:PySem.W.nsIn K mainGlobals "NoMark" =some (some (.ref C_NoMark)))
 {C_NoNode:Addr}
 (q_cm_NoNode:PySem.W.nsIn K mainGlobals "NoNode" =some (some (.ref C_NoNode)))
 {C_NoPlace:Addr}
 (q_cm_NoPlace:PySem.W.nsIn K mainGlobals "NoPlace" =some (some (.ref C_NoPlace)))
 {C_NoSaying:Addr}
 (q_cm_NoSaying:PySem.W.nsIn K mainGlobals "NoSaying" =some (some (.ref C_NoSaying)))
 {C_NoStanding:Addr}
 (q_cm_NoStanding:PySem.W.nsIn K mainGlobals "NoStanding" =some (some (.ref C_NoStanding)))
 {C_NoTable:Addr}
 (q_cm_NoTable:PySem.W.nsIn K mainGlobals "NoTable" =some (some (.ref C_NoTable)))
 {C_NoText:Addr}
 (q_cm_NoText:PySem.W.nsIn K mainGlobals "NoText" =some (some (.ref C_NoText)))
 {C_NoTurn:Addr}
 (q_cm_NoTurn:PySem.W.nsIn K mainGlobals "NoTurn" =some (some (.ref C_NoTurn)))
 {C_NoWish:Addr}
 (q_cm_NoWish:PySem.W.nsIn K mainGlobals "NoWish" =some (some (.ref C_NoWish)))
 {C_NoWord:Addr}
 (q_cm_NoWord:PySem.W.nsIn K mainGlobals "NoWord" =some (some (.ref C_NoWord)))
 {C_Nothing:Addr}
 (q_cm_Nothing:PySem.W.nsIn K mainGlobals "Nothing" =some (some (.ref C_Nothing)))
 {C_TooLong:Addr}
 (q_cm_TooLong:PySem.W.nsIn K mainGlobals "TooLong" =some (some (.ref C_TooLong)))
 {C_TooMany:Addr}
 (q_cm_TooMany:PySem.W.nsIn K mainGlobals "TooMany" =some (some (.ref C_TooMany)))
 {C_Twice:Addr}
 (q_cm_Twice:PySem.W.nsIn K mainGlobals "Twice" =some (some (.ref C_Twice)))
 {C_Waits:Addr}
 (q_cm_Waits:PySem.W.nsIn K mainGlobals "Waits" =some (some (.ref C_Waits)))
 (q_ce_NoChoice:PySem.W.excIn K C_NoChoice bmV "ValueError.__new__" =true)
 (q_cxob_NoChoice:PySem.W.mroIn K C_NoChoice (.type "object")=some true)
 (q_cxba_NoChoice:PySem.W.mroIn K C_NoChoice (.type "BaseException")=some true)
 (q_cxf1_NoChoice:PySem.W.findIn K (.ref C_NoChoice) "__getattribute__" =some (some (.builtin "BaseException.__getattribute__")))
 (q_cxf2_NoChoice:PySem.W.findIn K (.ref C_NoChoice) "__getattr__" =some none)
 (q_cxf3_NoChoice:PySem.W.findIn K (.ref C_NoChoice) "__class__" =some (some (.builtin "object.__class__")))
 (q_ch_NoChoice_BenchError:PySem.W.exmOne K (.ref C_NoChoice) (.ref C_BenchError)=some true)
 (q_ck_0_NoChoice:PySem.W.kitAny K (.ref C_NoChoice) [.ref C_NoWord, .ref C_Twice, .ref C_TooMany, .ref C_Missing, .ref C_NoPlace, .ref C_NoMark, .ref C_Marked, .ref C_Barred, .ref C_TooLong]=some false)
 (q_ck_1_NoChoice:PySem.W.kitAny K (.ref C_NoChoice) [.ref C_NoStanding, .ref C_NoDeed, .ref C_Full, .ref C_NoNode, .ref C_NoText, .ref C_Nothing, .ref C_NoWish, .ref C_Fight]=some false)
 (q_ck_2_NoChoice:PySem.W.kitAny K (.ref C_NoChoice) [.ref C_NoCutting, .ref C_Waits, .ref C_NoTurn, .ref C_NoTable, .ref C_NoSaying]=some false)
 (q_ck_3_NoChoice:PySem.W.kitOne K (.ref C_NoChoice) (.ref C_NoChoice)=some true)
 (q_ck_4_NoChoice:PySem.W.kitOne K (.ref C_NoChoice) (.type "ValueError")=some true)
 (q_cnd:[C_NoChoice].Nodup)
 : ∃fd:FuncData,(∀(s:Shared) (v:Value),BindsTo s fd ⟨[v],[]⟩ [("_law_script",v)])∧∀base:Heap,K.In base→base.Ns mainGlobals mg→FnOk l.prog w K mg base CX0 3 fa fd ["_law_script"] (z76 K 1 f_law):=by
 have e:=hfa.symm.trans (PySem.W.mg_of X G a6)
 cases e
 have F0:=z26 (st:=z11) l0 c0 k0
 have F1:=z26 (st:=z0L) l1 c1 k1
 have F2:=z26 (st:=z1H) l2 c2 k2
 have F3:=z26 (st:=z1i) l3 c3 k3
 have F4:=z26 (st:=z1j) l4 c4 k4
 have F5:=z26 (st:=z12) l5 c5 k5
 have F6:=z26 (st:=z2Y) l6 c6 k6
 have b0:=F0.binds (ps:=["signs", "size"]) fun _ _ _ _ _ _ us hl=>match us,hl with|[_,_],_=>rfl
 have b1:=F1.binds (ps:=["signs", "size", "page", "figure"]) fun _ _ _ _ _ _ us hl=>match us,hl with|[_,_,_,_],_=>rfl
 have b2:=F2.binds (ps:=["_law_script", "_law_at"]) fun _ _ _ _ _ _ us hl=>match us,hl with|[_,_],_=>rfl
 have b3:=F3.binds (ps:=["_law_bag_here", "_law_many"]) fun _ _ _ _ _ _ us hl=>match us,hl with|[_,_],_=>rfl
 have b4:=F4.binds (ps:=["_law_signs", "_law_size", "_law_page", "_law_figure"]) fun _ _ _ _ _ _ us hl=>match us,hl with|[_,_,_,_],_=>rfl
 have b5:=F5.binds (ps:=["_law_signs", "_law_size"]) fun _ _ _ _ _ _ us hl=>match us,hl with|[_,_],_=>rfl
 have b6:=F6.binds (ps:=["_law_script"]) fun _ _ _ _ _ _ us hl=>match us,hl with|[_],_=>rfl
 exact⟨PySem.W.fnOf "law" "law" (z0G z2Y) (z0m z2Y) (z01 z2Y) .none kV6 dc6 pm6 an6 cd6 ct6,fun s v=> .of_eq rfl,fun base _ _=>zbw rfl (zb8 ⟨⟨_,_,F0,b0,PySem.W.mg_of X G a0⟩,⟨_,_,F1,b1,PySem.W.mg_of X G a1⟩,⟨_,_,F2,b2,PySem.W.mg_of X G a2⟩,⟨_,_,F3,b3,PySem.W.mg_of X G a3⟩,⟨_,_,F4,b4,PySem.W.mg_of X G a4⟩,⟨_,_,F5,b5,PySem.W.mg_of X G a5⟩,⟨_,_,F6,b6,PySem.W.mg_of X G a6⟩,PySem.W.mg_none_of X G z0,PySem.W.mg_none_of X G z1,PySem.W.mg_none_of X G z2,PySem.W.mg_none_of X G z3,PySem.W.mg_none_of X G z4,PySem.W.mg_none_of X G z5,PySem.W.mg_none_of X G z6,PySem.W.mg_none_of X G z7,PySem.W.mg_none_of X G z8,PySem.W.mg_none_of X G z9,PySem.W.mg_none_of X G z10,C_Barred,PySem.W.mg_of X G q_cm_Barred,C_BenchError,PySem.W.mg_of X G q_cm_BenchError,C_Fight,PySem.W.mg_of X G q_cm_Fight,C_Full,PySem.W.mg_of X G q_cm_Full,C_Marked,PySem.W.mg_of X G q_cm_Marked,C_Missing,PySem.W.mg_of X G q_cm_Missing,C_NoChoice,PySem.W.mg_of X G q_cm_NoChoice,C_NoCutting,PySem.W.mg_of X G q_cm_NoCutting,C_NoDeed,PySem.W.mg_of X G q_cm_NoDeed,C_NoMark,PySem.W.mg_of X G q_cm_NoMark,C_NoNode,PySem.W.mg_of X G q_cm_NoNode,C_NoPlace,PySem.W.mg_of X G q_cm_NoPlace,C_NoSaying,PySem.W.mg_of X G q_cm_NoSaying,C_NoStanding,PySem.W.mg_of X G q_cm_NoStanding,C_NoTable,PySem.W.mg_of X G q_cm_NoTable,C_NoText,PySem.W.mg_of X G q_cm_NoText,C_NoTurn,PySem.W.mg_of X G q_cm_NoTurn,C_NoWish,PySem.W.mg_of X G q_cm_NoWish,C_NoWord,PySem.W.mg_of X G q_cm_NoWord,C_Nothing,PySem.W.mg_of X G q_cm_Nothing,C_TooLong,PySem.W.mg_of X G q_cm_TooLong,C_TooMany,PySem.W.mg_of X G q_cm_TooMany,C_Twice,PySem.W.mg_of X G q_cm_Twice,C_Waits,PySem.W.mg_of X G q_cm_Waits,q_ce_NoChoice,q_cxob_NoChoice,q_cxba_NoChoice,q_cxf1_NoChoice,q_cxf2_NoChoice,q_cxf3_NoChoice,q_ch_NoChoice_BenchError,q_ck_0_NoChoice,q_ck_1_NoChoice,q_ck_2_NoChoice,q_ck_3_NoChoice,q_ck_4_NoChoice,q_cnd⟩)⟩
theorem walk{l:PySem.W.OpenLaw}{q:Program}{loose:List Str}{XP:(Str→Option Value)→Heap→Prop}{YP:World→Heap→Prop}{d:DefRec}{K:Params→PySem.W.Frag}(hn:l.most=some 63)(hdf:d.params.defaults=[])
 (hY: ∀(w:World) (h:Heap),YP w h→(K w.params).In h)
 (F: ∀(w:World) (mg:Str→Option Value) (fa:Addr) (h:Heap),(K w.params).In h→h.Ns mainGlobals mg→mg d.name=some (.ref fa)→
  ∃fd:FuncData,(∀(s:Shared) (u:Value),BindsTo s fd ⟨[u],[]⟩ [("_law_script",u)])∧∀base:Heap,(K w.params).In base→base.Ns mainGlobals mg→FnOk l.prog w (K w.params) mg base CX0 3 fa fd ["_law_script"] (z76 (K w.params) 1 f_law)):
 PySem.W.WalkO q loose XP YP l.row.toRowW d [] (fun f vs=>PySem.call f vs):=
 L2.z8x (n:=63) (k:=3) (x:= "_law_script") (CX:=fun _=>CX0) (sp:=fun w=>z76 (K w.params) 1 f_law) hn (by decide) hdf ⟨rfl,by decide,by decide,rfl⟩ hY F (fun _ _ a ns hl hO hS=>zbx (fun n=>zbv ns (by omega) n) hO hS) fun _ _ _ _ _ h=>h.elim
end My
theorem PySem.W.Fast.tw946259612183194154:True:=trivial
theorem PySem.W.Fast.tw1589857749076495401:True:=trivial
theorem PySem.W.Fast.tw14898928314567305063:True:=trivial
theorem PySem.W.Fast.tw7103410999964628084:True:=trivial
theorem PySem.W.Fast.tw5307440153056716232:True:=trivial
theorem PySem.W.Fast.tw3596438103694138101:True:=trivial
theorem PySem.W.Fast.tw17633852813685590433:True:=trivial
theorem PySem.W.Fast.tw5230055535514693085:True:=trivial
theorem PySem.W.Fast.tw10478789975701000078:True:=trivial
theorem PySem.W.Fast.tw14637002432145865524:True:=trivial
theorem PySem.W.Fast.tw575298336903708151:True:=trivial
theorem PySem.W.Fast.tw16084343584751729287:True:=trivial
theorem PySem.W.Fast.tw578426150596831971:True:=trivial
theorem PySem.W.Fast.tw14995384695410810094:True:=trivial
theorem PySem.W.Fast.tw4453898242357854727:True:=trivial
theorem PySem.W.Fast.tw2244889210702278416:True:=trivial
theorem PySem.W.Fast.tw10976860228824473474:True:=trivial
theorem PySem.W.Fast.tw9380128515113664653:True:=trivial
theorem PySem.W.Fast.tw6849432829135195015:True:=trivial
theorem PySem.W.Fast.tw15255920676658549412:True:=trivial
theorem PySem.W.Fast.tw9121667676790766173:True:=trivial
theorem PySem.W.Fast.tw3063419904645264773:True:=trivial
theorem PySem.W.Fast.tw9154353433045560085:True:=trivial
theorem PySem.W.Fast.tw14151057613361273480:True:=trivial
theorem PySem.W.Fast.tw5114747947823041908:True:=trivial
theorem PySem.W.Fast.tw16569433148641534753:True:=trivial
theorem PySem.W.Fast.tw156191238241385953:True:=trivial
theorem PySem.W.Fast.tw12671310084579680242:True:=trivial
theorem PySem.W.Fast.tw14597829633377739534:True:=trivial
theorem PySem.W.Fast.tw2821791857410075874:True:=trivial
theorem PySem.W.Fast.tw2748592317315723199:True:=trivial
theorem PySem.W.Fast.tw12885727971949106378:True:=trivial
theorem PySem.W.Fast.tw719353970103192481:True:=trivial
theorem PySem.W.Fast.tw5134090695815446789:True:=trivial
theorem PySem.W.Fast.tw4845874514108830515:True:=trivial
theorem PySem.W.Fast.tw16242374005566726887:True:=trivial
theorem PySem.W.Fast.tw7942084272690341713:True:=trivial
theorem PySem.W.Fast.tw17619225580472694118:True:=trivial
theorem PySem.W.Fast.tw10256525630788934767:True:=trivial
theorem PySem.W.Fast.tw8198292381211081887:True:=trivial
theorem PySem.W.Fast.tw10953876002359581982:True:=trivial
theorem PySem.W.Fast.tw4709129735409970745:True:=trivial
theorem PySem.W.Fast.tw6214953648734121815:True:=trivial
theorem PySem.W.Fast.tw5035344653994566805:True:=trivial
theorem PySem.W.Fast.tw1729310727650323645:True:=trivial
theorem PySem.W.Fast.tw17336786637313704286:True:=trivial
theorem PySem.W.Fast.tw4905586042581066024:True:=trivial
theorem PySem.W.Fast.tw7030026484445871264:True:=trivial
theorem PySem.W.Fast.tw13687422298556370192:True:=trivial
theorem PySem.W.Fast.tw252836493213691309:True:=trivial
theorem PySem.W.Fast.tw15472093900099152386:True:=trivial
theorem PySem.W.Fast.tw363595047711367966:True:=trivial
theorem PySem.W.Fast.tw9357289194171045692:True:=trivial
theorem PySem.W.Fast.tw14244337160734551699:True:=trivial
theorem PySem.W.Fast.tw9243814716007040962:True:=trivial
theorem PySem.W.Fast.tw6854001322915996773:True:=trivial
theorem PySem.W.Fast.tw5375554015268438011:True:=trivial
theorem PySem.W.Fast.tw6428348734116728264:True:=trivial
theorem PySem.W.Fast.tw11003448230351232390:True:=trivial
theorem PySem.W.Fast.tw11527683909058643032:True:=trivial
theorem PySem.W.Fast.tw6726767846817339924:True:=trivial
theorem PySem.W.Fast.tw326433358229821294:True:=trivial
theorem PySem.W.Fast.tw14671680353169913935:True:=trivial
theorem PySem.W.Fast.tw2253054950257782256:True:=trivial
theorem PySem.W.Fast.tw9362998722047028478:True:=trivial
theorem PySem.W.Fast.tw11756590406361787330:True:=trivial
theorem PySem.W.Fast.tw5306350524346121056:True:=trivial
theorem PySem.W.Fast.tw8924232326259307367:True:=trivial
theorem PySem.W.Fast.tw12095006079166790765:True:=trivial
theorem PySem.W.Fast.tw1268984266470612455:True:=trivial
open PySem PySem.W PyProof.Rows
set_option maxRecDepth 100000 in
set_option maxHeartbeats 0 in
theorem PySem.Challenge.cw_signbench_k39_pages_holds : PySem.Challenge.rw_signbench_k39_pages.Holds := by
 w_on;o_law;k_head;(case hw=>w_witness2)
 k_fill
 refine My.walk (l:=PySem.Challenge.rw_signbench_k39_pages) rfl rfl (fun w h Y=>PySem.W.kIn_of Y) ?F
 case F=>
  intro w mg fa h KX G hmg
  refine' My.zby KX G hmg ?a0 ?l0 ?c0 ?k0 ?a1 ?l1 ?c1 ?k1 ?a2 ?l2 ?c2 ?k2 ?a3 ?l3 ?c3 ?k3 ?a4 ?l4 ?c4 ?k4 ?a5 ?l5 ?c5 ?k5 ?a6 ?l6 ?c6 ?k6 ?z0 ?z1 ?z2 ?z3 ?z4 ?z5 ?z6 ?z7 ?z8 ?z9 ?z10 ?q_cm_Barred ?q_cm_BenchError ?q_cm_Fight ?q_cm_Full ?q_cm_Marked ?q_cm_Missing ?q_cm_NoChoice ?q_cm_NoCutting ?q_cm_NoDeed ?q_cm_NoMark ?q_cm_NoNode ?q_cm_NoPlace ?q_cm_NoSaying ?q_cm_NoStanding ?q_cm_NoTable ?q_cm_NoText ?q_cm_NoTurn ?q_cm_NoWish ?q_cm_NoWord ?q_cm_Nothing ?q_cm_TooLong ?q_cm_TooMany ?q_cm_Twice ?q_cm_Waits ?q_ce_NoChoice ?q_cxob_NoChoice ?q_cxba_NoChoice ?q_cxf1_NoChoice ?q_cxf2_NoChoice ?q_cxf3_NoChoice ?q_ch_NoChoice_BenchError ?q_ck_0_NoChoice ?q_ck_1_NoChoice ?q_ck_2_NoChoice ?q_ck_3_NoChoice ?q_ck_4_NoChoice ?q_cnd
  (case a0=>k_is)
  (case l0=>k_is)
  (case c0=>k_is)
  (case k0=>k_is)
  (case a1=>k_is)
  (case l1=>k_is)
  (case c1=>k_is)
  (case k1=>k_is)
  (case a2=>k_is)
  (case l2=>k_is)
  (case c2=>k_is)
  (case k2=>k_is)
  (case a3=>k_is)
  (case l3=>k_is)
  (case c3=>k_is)
  (case k3=>k_is)
  (case a4=>k_is)
  (case l4=>k_is)
  (case c4=>k_is)
  (case k4=>k_is)
  (case a5=>k_is)
  (case l5=>k_is)
  (case c5=>k_is)
  (case k5=>k_is)
  (case a6=>k_is)
  (case l6=>k_is)
  (case c6=>k_is)
  (case k6=>k_is)
  (case z0=>k_is)
  (case z1=>k_is)
  (case z2=>k_is)
  (case z3=>k_is)
  (case z4=>k_is)
  (case z5=>k_is)
  (case z6=>k_is)
  (case z7=>k_is)
  (case z8=>k_is)
  (case z9=>k_is)
  (case z10=>k_is)
  (case q_cm_Barred=>k_is)
  (case q_cm_BenchError=>k_is)
  (case q_cm_Fight=>k_is)
  (case q_cm_Full=>k_is)
  (case q_cm_Marked=>k_is)
  (case q_cm_Missing=>k_is)
  (case q_cm_NoChoice=>k_is)
  (case q_cm_NoCutting=>k_is)
  (case q_cm_NoDeed=>k_is)
  (case q_cm_NoMark=>k_is)
  (case q_cm_NoNode=>k_is)
  (case q_cm_NoPlace=>k_is)
  (case q_cm_NoSaying=>k_is)
  (case q_cm_NoStanding=>k_is)
  (case q_cm_NoTable=>k_is)
  (case q_cm_NoText=>k_is)
  (case q_cm_NoTurn=>k_is)
  (case q_cm_NoWish=>k_is)
  (case q_cm_NoWord=>k_is)
  (case q_cm_Nothing=>k_is)
  (case q_cm_TooLong=>k_is)
  (case q_cm_TooMany=>k_is)
  (case q_cm_Twice=>k_is)
  (case q_cm_Waits=>k_is)
  (case q_ce_NoChoice=>first|k_is|kernel_rfl|rfl)
  (case q_cxob_NoChoice=>first|k_is|kernel_rfl|rfl)
  (case q_cxba_NoChoice=>first|k_is|kernel_rfl|rfl)
  (case q_cxf1_NoChoice=>first|k_is|kernel_rfl|rfl)
  (case q_cxf2_NoChoice=>first|k_is|kernel_rfl|rfl)
  (case q_cxf3_NoChoice=>first|k_is|kernel_rfl|rfl)
  (case q_ch_NoChoice_BenchError=>first|k_is|kernel_rfl|rfl)
  (case q_ck_0_NoChoice=>first|k_is|kernel_rfl|rfl)
  (case q_ck_1_NoChoice=>first|k_is|kernel_rfl|rfl)
  (case q_ck_2_NoChoice=>first|k_is|kernel_rfl|rfl)
  (case q_ck_3_NoChoice=>first|k_is|kernel_rfl|rfl)
  (case q_ck_4_NoChoice=>first|k_is|kernel_rfl|rfl)
  (case q_cnd=>decide)
