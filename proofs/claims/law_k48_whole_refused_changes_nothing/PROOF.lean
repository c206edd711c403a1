import PyProof.Rows.All
import Wide.All
import OpenK.AllK
import Wide.FinOn
import Lean
import PyProof.EqAt
import PyProof.EqKinds
import PyProof.TupleCall
import PyProof.Draws
import PyProof.EnumMake
import PyProof.ListRange
import PyProof.Rows.CountFlat
import PyProof.Rows.Range3
import PySem.Challenge.RW_signbench_k48_whole_refused_changes_noth
set_option Elab.async false
set_option linter.all false
set_option maxRecDepth 100000
namespace L2
open PySem PySem.Spec PyProof.Rows
noncomputable abbrev Key:=Sum Int Str
noncomputable def z9c:Key->Value->Bool
 | .inl k,v=>Value.isInt k v
 | .inr x,v=>Value.isStrOf x v
noncomputable def keyH(w:World):Key->Int
 | .inl k=>hashInt k
 | .inr x=>hashStr w x
theorem z0G: ∀{k:Key} {v:Value},z9c k v=true->(∃i t,k=Sum.inl i/\v=Value.int i t)\/(∃x t,k=Sum.inr x/\v=Value.str x t)
 | .inl i,v,h=>by
  obtain⟨t,e⟩:=Value.isInt_shape (k:=i) (v:=v) h
  exact .inl ⟨i,t,rfl,e⟩
 | .inr x,v,h=>by
  obtain⟨t,e⟩:=Value.isStrOf_shape (x:=x) (v:=v) h
  exact .inr ⟨x,t,rfl,e⟩
theorem z9L(i:Int)(t:Tok):z9c (.inl i) (.int i t)=true:=by simp[z9c,Value.isInt]
theorem z9M(x:Str)(t:Tok):z9c (.inr x) (.str x t)=true:=by simp[z9c,Value.isStrOf]
theorem zeC(a b:Int):decide ((Sum.inl a:Key)=Sum.inl b)=(a==b):=by
 by_cases e:a=b
 ·subst e;simp
 ·have h: ¬(Sum.inl a:Key)=Sum.inl b:=fun q=>e (Sum.inl.inj q)
  rw[decide_eq_false h]
  exact(beq_eq_false_iff_ne.mpr e).symm
theorem zeD(a b:Str):decide ((Sum.inr a:Key)=Sum.inr b)=decide (a=b):=by
 by_cases e:a=b
 ·subst e;simp
 ·have h: ¬(Sum.inr a:Key)=Sum.inr b:=fun q=>e (Sum.inr.inj q)
  rw[decide_eq_false h,decide_eq_false e]
theorem zeE(a:Int)(b:Str):decide ((Sum.inl a:Key)=Sum.inr b)=false:=decide_eq_false (fun q=>nomatch q)
theorem zeF(a:Str)(b:Int):decide ((Sum.inr a:Key)=Sum.inl b)=false:=decide_eq_false (fun q=>nomatch q)
noncomputable def z1o(prog:Program)(w:World):PySem.KeyKind prog w Key where
 is:=z9c
 hash:=keyH w
 inj:=fun v a b ha hb=>by
  rcases z0G ha with⟨i,t,rfl,rfl⟩|⟨x,t,rfl,rfl⟩
  ·rcases z0G hb with⟨j,u,rfl,e⟩|⟨y,u,rfl,e⟩
   ·injection e with e1 _;rw[e1]
   ·exact nomatch e
  ·rcases z0G hb with⟨j,u,rfl,e⟩|⟨y,u,rfl,e⟩
   ·exact nomatch e
   ·injection e with e1 _;rw[e1]
 byValue:=fun k v h=>by
  rcases z0G h with⟨i,t,rfl,rfl⟩|⟨x,t,rfl,rfl⟩<;>rfl
 pyHash:=fun hv h=>by
  rcases z0G hv with⟨i,t,rfl,rfl⟩|⟨x,t,rfl,rfl⟩
  ·exact wpAny_pyHash_int h
  ·exact wpAny_pyHash_str h
 eqBool:=fun hu hv h=>by
  rcases z0G hu with⟨i,t,rfl,rfl⟩|⟨x,t,rfl,rfl⟩
  ·rcases z0G hv with⟨j,u,rfl,rfl⟩|⟨y,u,rfl,rfl⟩
   ·rw[zeC] at h;exact wpAny_eqBool_int h
   ·rw[zeE] at h;exact SeqAt.EqAt.int_str i t y u _ _ _ _ h
  ·rcases z0G hv with⟨j,u,rfl,rfl⟩|⟨y,u,rfl,rfl⟩
   ·rw[zeF] at h;exact SeqAt.EqAt.str_int x t j u _ _ _ _ h
   ·rw[zeD] at h;exact wpAny_eqBool_str h
 «strs» :=fun k x t v h=>by
  rcases z0G h with⟨i,u,rfl,e⟩|⟨y,u,rfl,e⟩
  ·exact nomatch e
  ·injection e with e1 _
   subst e1
   cases v<;>rfl
theorem z7T(prog:Program)(w:World)(i:Int)(t:Tok):(z1o prog w).is (.inl i) (.int i t)=true:=z9L i t
theorem z7U(prog:Program)(w:World)(x:Str)(t:Tok):(z1o prog w).is (.inr x) (.str x t)=true:=z9M x t
inductive V where
 |non|bl (b:Bool)|int (i:Int)|str (x:Str)|byt (b:Array UInt8)|flt (b:UInt64)|ref (a:Addr)|ty (n:String)
 deriving DecidableEq
noncomputable def RelV:V->Value->Prop
 | .non,u=>u=Value.none
 | .bl b,u=>u=Value.bool b
 | .int i,u=> ∃t,u=Value.int i t
 | .str x,u=> ∃t,u=Value.str x t
 | .byt b,u=> ∃t,u=Value.bytes b t
 | .flt b,u=> ∃t,u=Value.float b t
 | .ref a,u=>u=Value.ref a
 | .ty n,u=>u=Value.type n
noncomputable abbrev Vals:List V->List Value->Prop:=Paired RelV
theorem Vals.length{xs:List V}{us:List Value}(r:Vals xs us):xs.length=us.length:=Paired.length r
theorem Vals.get: ∀{xs:List V} {us:List Value} {i:Nat} {x:V},Vals xs us->xs[i]? =some x->∃u,us[i]? =some u/\RelV x u
 |_,_,_,_, .nil,e=>by simp at e
 |_,_,0,_, .cons r _,e=>by simp at e;subst e;exact⟨_,rfl,r⟩
 |_,_,i+1,x, .cons _ t,e=>by
  obtain⟨u,h1,h2⟩:=Vals.get (i:=i) (x:=x) t (by simpa using e)
  exact⟨u,by simpa using h1,h2⟩
theorem Vals.set{x:V}{u:Value}(r:RelV x u): ∀{xs:List V} {us:List Value} (i:Nat),Vals xs us->Vals (xs.set i x) (us.set i u)
 |_,_,_, .nil=> .nil
 |_,_,0, .cons _ t=> .cons r t
 |_,_,i+1, .cons q t=> .cons q (Vals.set r i t)
theorem Vals.append: ∀{xs ys:List V} {us ws:List Value},Vals xs us->Vals ys ws->Vals (xs++ys) (us++ws)
 |_,_,_,_, .nil,s=>s
 |_,_,_,_, .cons r t,s=> .cons r (Vals.append t s)
theorem Vals.take: ∀{xs:List V} {us:List Value} (n:Nat),Vals xs us->Vals (xs.take n) (us.take n)
 |_,_,0,_=> .nil
 |_,_,_+1, .nil=> .nil
 |_,_,n+1, .cons r t=> .cons r (Vals.take n t)
theorem Vals.drop: ∀{xs:List V} {us:List Value} (n:Nat),Vals xs us->Vals (xs.drop n) (us.drop n)
 |_,_,0,r=>r
 |_,_,_+1, .nil=> .nil
 |_,_,n+1, .cons _ t=>Vals.drop n t
noncomputable def RelO:Option V->Option Value->Prop
 |some v,some u=>RelV v u
 |none,none=>True
 |_,_=>False
noncomputable def KV{κ:Type}:List (κ×V)->List (κ×Value)->Prop:=Paired fun(p:κ×V) (q:κ×Value)=>p.1=q.1/\RelV p.2 q.2
noncomputable def kV:Key->V
 | .inl i=> .int i
 | .inr x=> .str x
inductive HO where
 |lst (xs:List V)
 |tup (xs:List V)
 |dK (kvs:List (Key×V))|dT (kvs:List (List Key×V))
 |set (S:Int->Bool) (n:Nat)
 |ins (C dx:Addr) (fs:List (Str×V))
 |own (x:Addr)
 |xd (fs:List (Str×V))
 |met (f x:Addr)
 |rng (lo hi:Int)
 |frz (o:Obj) (u:HO)
 |tbl (ps:Array Value)
 |ext (φ:Heap->Prop)
noncomputable abbrev Hp:=Addr->Option HO
noncomputable def upd(H:Hp)(a:Addr)(o:HO):Hp:=fun b=>if b=a then some o else H b
theorem z0h{H:Hp}{a:Addr}{o:HO}:upd H a o a=some o:=by unfold upd;rw[if_pos rfl]
theorem z0c{H:Hp}{a b:Addr}{o:HO}(h:b≠a):upd H a o b=H b:=by unfold upd;rw[if_neg h]
theorem zcZ{H:Hp}{a:Addr}{o u:HO}:upd (upd H a o) a u=upd H a u:=by
 funext b;unfold upd;split<;>rfl
theorem zbo{H:Hp}{a b:Addr}{o u:HO}(h:H a=some o)(h':H b=some u)(d:o≠u):a≠b:=by
 intro e;subst e;rw[h] at h';exact d (Option.some.inj h')
theorem z1a{H:Hp}{a b:Addr}{o:HO}(h:H a=some o)(h':H b=none):a≠b:=by
 intro e;subst e;rw[h] at h';cases h'
section
variable(P:Program)(w:World)
noncomputable def z2i(H:Hp)(h:Heap)(a:Addr):HO->Prop
 | .lst xs=>xs.length<=sizeLine/\∃(its:List Value) (n:Nat),Vals xs its/\h.get? a=some {cls:= .type "list",data:= .seq its.toArray n}
 | .tup xs=>xs.length<=sizeLine/\∃its:List Value,Vals xs its/\IsTup h a its.toArray
 | .dK kvs=>kvs.length<=sizeLine/\(a==sysModules)=false/\∃vs,KV kvs vs/\h.DictOf (z1o P w) a vs
 | .dT kvs=>kvs.length<=sizeLine/\(a==sysModules)=false/\∃xs:List (List Key×Addr×Value),
  Paired (fun(p:List Key×V) (q:List Key×Addr×Value)=>p.1=q.1/\H q.2.1=some (.tup (p.1.map kV))/\RelV p.2 q.2.2) kvs xs/\
  ∃o es ep,h.get? a=some o/\o.ExactDict/\o.data= .dict es ep/\es.toList=xs.map (entryOfKey (tupleKind (z1o P w)))/\(xs.map (·.1)).Nodup
 | .set S n=>h.SetOf (intKind P w) a S n
 | .ins C dx fs=>H dx=some (.own a)/\fs.length<=1000/\dx≠a/\h.get? a=some (W.instObj C dx)/\
  ∃mA,h.Ns1 dx mA/\(∀f,RelO (fs.lookup f) (mA f))/\PySem.Within mA (fs.map (·.1))
 | .own _=> ∃o,h.get? a=some o
 | .xd fs=> ∃mA,h.Ns1 a mA/\∀f,RelO (fs.lookup f) (mA f)
 | .rng lo hi=> ∃t u v,h.get? a=some {cls:= .type "range",data:= .fields #[.int lo t, .int hi u, .int 1 v]}
 | .frz o u=>h.get? a=some o/\z2i H h a u
 | .tbl ps=>h.get? a=some {cls:= .none,data:= .fields ps}
 | .met f x=>h.get? a=some (W.methodObj (.ref f) (.ref x))
 | .ext φ=>φ h/\(∃o,h.get? a=some o)/\∀h1 h2:Heap,φ h1->(∀o,h1.get? a=some o->h2.get? a=some o)->φ h2
noncomputable def HOk(H:Hp)(h:Heap):Prop:= ∀a o,H a=some o->z2i P w H h a o
end
section
variable{P:Program}{w:World}{H H':Hp}{h h':Heap}{a:Addr}{o:HO}
theorem z2i.lt(x:z2i P w H h a o):a<h.objs.size:=by
 cases o with
 |lst xs=>obtain⟨_,_,_,_,e⟩:=x;exact Heap.lt_size e
 |tup xs=>obtain⟨_,_,_,p⟩:=x;exact p.lt
 |dK kvs=>obtain⟨_,_,_,_,o,_,_,e,_⟩:=x;exact Heap.lt_size e
 |dT kvs=>obtain⟨_,_,_,_,o,_,_,e,_⟩:=x;exact Heap.lt_size e
 |set S n=>obtain⟨o,_,_,_,e,_⟩:=x;exact Heap.lt_size e
 |ins C dx fs=>obtain⟨_,_,_,e,_⟩:=x;exact Heap.lt_size e
 |own y=>obtain⟨_,e⟩:=x;exact Heap.lt_size e
 |xd fs=>obtain⟨_,⟨_,_,_,e,_⟩,_⟩:=x;exact Heap.lt_size e
 |rng lo hi=>obtain⟨_,_,_,e⟩:=x;exact Heap.lt_size e
 |frz ob u=>obtain⟨e,_⟩:=x;exact Heap.lt_size e
 |tbl ps=>exact Heap.lt_size (show h.get? a=some _ from x)
 |met f y=>exact Heap.lt_size (show h.get? a=some _ from x)
 |ext φ=>obtain⟨_,⟨_,e⟩,_⟩:=x;exact Heap.lt_size e
theorem Paired.mapP{α β:Type}{F G:α->β->Prop}: ∀{l₁:List α} {l₂:List β},Paired F l₁ l₂->(∀a b,F a b->G a b)->Paired G l₁ l₂
 |_,_, .nil,_=> .nil
 |_,_, .cons r t,f=> .cons (f _ _ r) (Paired.mapP t f)
theorem z2i.stay(x:z2i P w H h a o)(k: ∀b u,(b=a\/H b=some (.own a))->h.get? b=some u->h'.get? b=some u)
 (ho: ∀b,H b=some (.own a)->H' b=some (.own a)) (ht: ∀b xs,H b=some (.tup xs)->H' b=some (.tup xs)):z2i P w H' h' a o:=by
 induction o with
 |lst xs=>obtain⟨z,its,n,r,e⟩:=x;exact⟨z,its,n,r,k _ _ (.inl rfl) e⟩
 |tup xs=>obtain⟨z,its,r,ob,e,c⟩:=x;exact⟨z,its,r,ob,k _ _ (.inl rfl) e,c⟩
 |dK kvs=>obtain⟨z,y,vs,r,ob,es,ep,e,c⟩:=x;exact⟨z,y,vs,r,ob,es,ep,k _ _ (.inl rfl) e,c⟩
 |dT kvs=>
  obtain⟨z,y,xs,r,ob,es,ep,e,c⟩:=x
  exact⟨z,y,xs,Paired.mapP r fun p q z=>⟨z.1,ht _ _ z.2.1,z.2.2⟩,ob,es,ep,k _ _ (.inl rfl) e,c⟩
 |set S n=>obtain⟨ob,es,ep,t,e,c⟩:=x;exact⟨ob,es,ep,t,k _ _ (.inl rfl) e,c⟩
 |ins C dx fs=>
  obtain⟨d,z,ne,e,mA,⟨od,es,ep,e2,c⟩,r⟩:=x
  exact⟨ho _ d,z,ne,k _ _ (.inl rfl) e,mA,⟨od,es,ep,k _ _ (.inr d) e2,c⟩,r⟩
 |own y=>obtain⟨ob,e⟩:=x;exact⟨ob,k _ _ (.inl rfl) e⟩
 |xd fs=>obtain⟨mA,⟨od,es,ep,e,c⟩,r⟩:=x;exact⟨mA,⟨od,es,ep,k _ _ (.inl rfl) e,c⟩,r⟩
 |rng lo hi=>obtain⟨t,u,v,e⟩:=x;exact⟨t,u,v,k _ _ (.inl rfl) e⟩
 |frz ob u ih=>obtain⟨e,q⟩:=x;exact⟨k _ _ (.inl rfl) e,ih q⟩
 |tbl ps=>
  have e:h.get? a=some {cls:= .none,data:= .fields ps}:=x
  show h'.get? a=some {cls:= .none,data:= .fields ps}
  exact k a _ (.inl rfl) e
 |met f y=>
  have e:h.get? a=some (W.methodObj (.ref f) (.ref y)):=x
  show h'.get? a=some (W.methodObj (.ref f) (.ref y))
  exact k a _ (.inl rfl) e
 |ext φ=>obtain⟨p,⟨o,e⟩,st⟩:=x;exact⟨st _ _ p fun o q=>k _ _ (.inl rfl) q,⟨o,k _ _ (.inl rfl) e⟩,st⟩
theorem HOk.lt(x:HOk P w H h)(e:H a=some o):a<h.objs.size:=(x a o e).lt
theorem HOk.fresh(x:HOk P w H h)(e:h.objs.size<=a):H a=none:=by
 cases q:H a with
 |none=>rfl
 |some u=>exact absurd (Nat.lt_of_lt_of_le (x.lt q) e) (Nat.lt_irrefl _)
theorem HOk.kept(x:HOk P w H h)(k: ∀b u,h.get? b=some u->h'.get? b=some u):HOk P w H h':=fun a o e=>
 (x a o e).stay (fun b u _ q=>k b u q) (fun _ q=>q) fun _ _ q=>q
theorem HOk.laid(x:HOk P w H h)(k: ∀b u,h.get? b=some u->h'.get? b=some u)(hp:h.objs.size<=a)(new:z2i P w (upd H a o) h' a o):HOk P w (upd H a o) h':=fun b u e=>by
 have hn:=x.fresh hp
 by_cases hb:b=a
 ·subst hb;rw[z0h] at e;cases e;exact new
 ·rw[z0c hb] at e
  exact(x b u e).stay (fun c v _ q=>k c v q) (fun c q=>by rw[z0c (z1a q hn)];exact q) fun c xs q=>by rw[z0c (z1a q hn)];exact q
end
noncomputable def Rd(H:Hp)(a:Addr)(u:HO):Prop:=H a=some u\/∃o,H a=some (.frz o u)
theorem Rd.ok{P:Program}{w:World}{H:Hp}{h:Heap}{a:Addr}{u:HO}(r:Rd H a u)(x:HOk P w H h):z2i P w H h a u:=by
 rcases r with r|⟨o,r⟩
 ·exact x a u r
 ·obtain⟨_,q⟩:=x a _ r
  exact q
noncomputable def Mut:Option HO->Prop
 |some (.lst _)=>True
 |some (.dK _)=>True
 |some (.dT _)=>True
 |some (.set _ _)=>True
 |some (.ins _ _ _)=>True
 |some (.ext _)=>True
 |_=>False
section
variable{P:Program}{w:World}{H:Hp}{h h':Heap}{x e:Addr}{o':HO}
theorem HOk.write(ok:HOk P w H h)(mu:Mut (H x))(he:e=x\/H e=some (.own x))(k: ∀b u,b≠e->h.get? b=some u->h'.get? b=some u)(heo: ∃u,h'.get? e=some u)
 (new:z2i P w (upd H x o') h' x o'):HOk P w (upd H x o') h':=fun b u q=>by
 have nown: ∀c y,H c=some (.own y)->c≠x:=fun c y r z=>by subst z;rw[r] at mu;exact mu
 have ntup: ∀c xs,H c=some (.tup xs)->c≠x:=fun c xs r z=>by subst z;rw[r] at mu;exact mu
 by_cases hb:b=x
 ·subst hb;rw[z0h] at q;cases q;exact new
 ·rw[z0c hb] at q
  by_cases hbe:b=e
  ·have q':H b=some (.own x):=by
    rcases he with z|z
    ·exact absurd (hbe.trans z) hb
    ·rw[hbe];exact z
   rw[q] at q';cases q'
   obtain⟨v,hv⟩:=heo
   exact⟨v,by rw[hbe];exact hv⟩
  ·refine(ok b u q).stay (fun c v hc r=>k c v ?_ r) (fun c r=>by rw[z0c (nown c b r)];exact r) fun c xs r=>by rw[z0c (ntup c xs r)];exact r
   rcases hc with rfl|hc
   ·exact hbe
   ·rintro rfl
    rcases he with z|z
    ·exact nown c b hc z
    ·rw[hc] at z;cases z;exact hb rfl
end
structure Un(fs ex:List Addr)(H H':Hp)(h h':Heap):Prop where
 keep: ∀b o,h.get? b=some o->H b=none->b∉fs->b∉ex->h'.get? b=some o
 slot: ∀b o,h.get? b=some o->H b=none->b∈fs->b∉ex->∃sl,h'.get? b=some {o with slots:=sl}
 free: ∀b o,h.get? b=some o->H b=none->b∉ex->H' b=none
 there: ∀b o,h.get? b=some o->b∉ex->∃o',h'.get? b=some o'
 tups: ∀b xs,H b=some (.tup xs)->H' b=some (.tup xs)
 frzs: ∀b o u,H b=some (.frz o u)->H' b=some (.frz o u)
 tbls: ∀b ps,H b=some (.tbl ps)->∃more,H' b=some (.tbl (ps++more))
section
variable{fs fs' ex ex':List Addr}{H H1 H2:Hp}{h h1 h2 h':Heap}{a x e:Addr}{o:HO}
theorem Un.any(u:Un fs ex H H1 h h1){b:Addr}{ob:Obj}(q:h.get? b=some ob)(n:H b=none)(hx:b∉ex): ∃sl,h1.get? b=some {ob with slots:=sl}:=by
 by_cases hb:b∈fs
 ·exact u.slot b ob q n hb hx
 ·exact⟨ob.slots,u.keep b ob q n hb hx⟩
theorem Un.kept(k: ∀b u,h.get? b=some u->h'.get? b=some u):Un fs ex H H h h':=
 ⟨fun b ob q _ _ _=>k b ob q,fun b ob q _ _ _=>⟨ob.slots,k b ob q⟩,fun _ _ _ n _=>n,fun b ob q _=>⟨ob,k b ob q⟩,fun _ _ q=>q,fun _ _ _ q=>q,fun _ ps q=>⟨#[],by rw[q];simp⟩⟩
theorem Un.refl:Un fs ex H H h h:=Un.kept fun _ _ q=>q
theorem Un.laid(k: ∀b u,h.get? b=some u->h'.get? b=some u)(hp:h.objs.size<=a)(hn:H a=none):Un fs ex H (upd H a o) h h' where
 keep:=fun b u q _ _ _=>k b u q
 slot:=fun b u q _ _ _=>⟨u.slots,k b u q⟩
 free:=fun b u q n _=>by rw[z0c (Nat.ne_of_lt (Nat.lt_of_lt_of_le (Heap.lt_size q) hp))];exact n
 there:=fun b u q _=>⟨u,k b u q⟩
 tups:=fun b xs q=>by rw[z0c (z1a q hn)];exact q
 frzs:=fun b u xs q=>by rw[z0c (z1a q hn)];exact q
 tbls:=fun b ps q=>⟨#[],by rw[z0c (z1a q hn),q];simp⟩
theorem Un.write(mu:Mut (H x))(he:e=x\/H e=some (.own x))(k: ∀b u,b≠e->h.get? b=some u->h'.get? b=some u)(heo: ∃u,h'.get? e=some u):Un fs ex H (upd H x o) h h':=by
 have hx: ∀b,H b=none->b≠x:=fun b n z=>by subst z;rw[n] at mu;exact mu
 have hb: ∀b,H b=none->b≠e:=fun b n z=>by
  subst z
  rcases he with r|r
  ·exact hx b n r
  ·rw[n] at r;cases r
 have hm: ∀b u,H b=some u->¬Mut (some u)->b≠x:=fun b u q nm z=>by subst z;rw[q] at mu;exact nm mu
 refine⟨fun b u q n _ _=>k b u (hb b n) q,fun b u q n _ _=>⟨u.slots,k b u (hb b n) q⟩,fun b u q n _=>by rw[z0c (hx b n)];exact n,fun b u q _=> ?_,
  fun b xs q=>by rw[z0c (hm b _ q fun z=>z)];exact q,fun b u xs q=>by rw[z0c (hm b _ q fun z=>z)];exact q,fun b ps q=>⟨#[],by rw[z0c (hm b _ q fun z=>z),q];simp⟩⟩
 by_cases hbe:b=e
 ·subst hbe;exact heo
 ·exact⟨u,k b u hbe q⟩
end
noncomputable def trk(h:Heap)(H:Hp):List Addr:=(List.range h.objs.size).filter fun a=>(H a).isSome
noncomputable def hidT(h:Heap)(H:Hp):Heap:=W.hideAll h (trk h H)
theorem z9N(h:Heap)(H:Hp):(hidT h H).objs.size=h.objs.size:=W.hideAll_size _ _
theorem zbp{h:Heap}{H:Hp}{b:Addr}{o:Obj}(e:h.get? b=some o)(n:H b=none):(hidT h H).get? b=some o:=
 W.hideAll_get _ e fun hm=>by
  have q:(H b).isSome=true:=(List.mem_filter.mp hm).2
  rw[n] at q;simp at q
theorem zd0{h:Heap}{H:Hp}{b:Addr}{o:Obj}(e:(hidT h H).get? b=some o):h.get? b=some o/\H b=none:=by
 have e':h.get? b=some o:=W.of_hideAll (trk h H) e
 refine⟨e', ?_⟩
 cases q:H b with
 |none=>rfl
 |some x=>
  have hm:b∈trk h H:=List.mem_filter.mpr ⟨List.mem_range.mpr (Heap.lt_size e'),by simp[q]⟩
  have z:(hidT h H).get? b=none:=W.hideAll_none (trk h H) hm
  rw[z] at e;cases e
noncomputable def zd1(g h:Heap)(L:Addr):List (Addr×Obj):=(List.range h.objs.size).filterMap fun a=>if a=L\/(g.get? a).isSome=true then none else(h.get? a).map fun o=>(a,o)
noncomputable def rest(g h:Heap)(L d:Addr):List (Addr×Obj):=(zd1 g h L).filter fun p=>decide (p.1≠d)
structure Mod(K:W.Frag)(mg:Str->Option Value)(base:Heap):Prop where
 kin:K.In base
 glob:base.Ns mainGlobals mg
 blt: ∃mb,base.Ns builtinsNs mb/\∀x:Str,x≠ "__name__" ->mb x=bootBuiltins x
 nolimit:base.NoLimit
structure Cx where
 prog:Program
 w:World
 K:W.Frag
 mg:Str->Option Value
 base:Heap
 A:Around
 N:List Str
 s₀:Shared
 H₀:Hp
 env:Env
 outer:List Env
 stack:List Env
 ex:List Addr
 fn:Str->Bool
 calm:Bool
 pn:List (Addr×Obj)
 xe:Value->Shared->Prop
noncomputable def frs(l:List Env):List Addr:=l.filterMap (·.frame)
noncomputable abbrev Cx.fs(X:Cx):List Addr:=frs X.outer
noncomputable def Vis(sc:Scope)(x:Str):Prop:=sc.names.lookup x=some .local\/sc.names.lookup x=some .cell\/sc.names.lookup x=some .free
noncomputable def Loc(sc:Scope)(x:Str):Prop:=sc.names.lookup x=some .local\/sc.names.lookup x=some .cell
noncomputable def Look(env:Env)(h:Heap)(m:Str->Option Value)(x:Str)(u:Value):Prop:=
 (env.kindOf x=some .local/\m x=some u)\/((env.kindOf x=some .cell\/env.kindOf x=some .free)/\∃c,env.cells.lookup x=some c/\h.IsCell c (some u))
structure Cx.Ok(X:Cx):Prop where
 mod:Mod X.K X.mg X.base
 kind:X.env.scope.kind= .function
 glob:X.env.globals=mainGlobals
 blt:X.env.builtins=builtinsNs
 above:X.s₀.heap.objs.size<=X.env.locals
 inj: ∀x y c,X.env.cells.lookup x=some c->X.env.cells.lookup y=some c->x=y
 has: ∀x,(X.env.kindOf x=some .cell\/X.env.kindOf x=some .free)->∃c,X.env.cells.lookup x=some c
 cab: ∀x c,X.fn x=true->X.env.cells.lookup x=some c->X.s₀.heap.objs.size<=c
 hd:X.calm=true->X.A.handled=none
 frames:X.A.frames=some X.stack
 stk:X.stack=X.outer\/(X.stack=X.env::X.outer/\X.env.frame=some X.env.locals)
 exf: ∀b∈X.ex,b≠X.env.locals/\∀x c,X.env.cells.lookup x=some c->c≠b
 bs: ∀b o,X.base.get? b=some o->X.s₀.heap.get? b=some o/\X.H₀ b=none
 bsz:X.base.objs.size<=X.s₀.heap.objs.size
 noex: ∀b o,X.base.get? b=some o->b∉X.ex
 exfs: ∀b∈X.ex,b∉X.fs
 funs:X.s₀.heap.FunFrames X.base X.outer
 frf: ∀b∈X.fs,X.H₀ b=none
structure Inv(X:Cx)(pins:List (Addr×Obj))(σ:List (Option V))(H:Hp)(s:Shared):Prop where
 ok:X.Ok
 os:s.os=X.s₀.os
 bare:AllBare s.gens
 base:Un X.fs X.ex X.H₀ H X.s₀.heap s.heap
 loc: ∃m,s.heap.Ns X.env.locals m/\∀(i:Nat) (x:Str) (v:V),X.N[i]? =some x->σ[i]? =some (some v)->Vis X.env.scope x->∃u,RelV v u/\Look X.env s.heap m x u
 cell: ∀x c,X.env.cells.lookup x=some c->∃v,s.heap.IsCell c v
 free:H X.env.locals=none
 freeC: ∀x c,X.env.cells.lookup x=some c->H c=none
 pin: ∀p∈X.pn++pins,s.heap.get? p.1=some p.2/\H p.1=none/\p.1≠X.env.locals/\p.1∉X.fs/\∀v,p.2.data≠ .cell v
 hok:HOk X.prog X.w H s.heap
 len:σ.length=X.N.length
section
variable{X:Cx}{pins:List (Addr×Obj)}{σ:List (Option V)}{H H':Hp}{s:Shared}{h':Heap}
theorem Cx.Ok.nofr(ok:X.Ok){b:Addr}{o:Obj}(e:X.base.get? b=some o):b∉X.fs:=fun hb=>by
 have:=(ok.funs.mem hb).1
 rw[e] at this;cases this
theorem Inv.bs(I:Inv X pins σ H s): ∀b o,X.base.get? b=some o->s.heap.get? b=some o/\H b=none:=fun b o e=>
 ⟨I.base.keep b o (I.ok.bs b o e).1 (I.ok.bs b o e).2 (I.ok.nofr e) (I.ok.noex b o e),I.base.free b o (I.ok.bs b o e).1 (I.ok.bs b o e).2 (I.ok.noex b o e)⟩
theorem Inv.bk(I:Inv X pins σ H s): ∀b o,X.base.get? b=some o->s.heap.get? b=some o:=fun b o e=>(I.bs b o e).1
theorem Inv.mod(I:Inv X pins σ H s):Mod X.K X.mg X.base:=I.ok.mod
theorem Inv.kIn(I:Inv X pins σ H s):X.K.In s.heap:=I.ok.mod.kin.keeps I.bk
theorem Inv.lt(I:Inv X pins σ H s):X.env.locals<s.heap.objs.size:=let⟨_,hn,_⟩:=I.loc;hn.lt
theorem Inv.sz(I:Inv X pins σ H s):X.s₀.heap.objs.size<=s.heap.objs.size:=Nat.le_trans I.ok.above (Nat.le_of_lt I.lt)
theorem Inv.nofs(I:Inv X pins σ H s){a:Addr}(h:s.heap.objs.size<=a):a∉X.fs:=fun hb=>by
 obtain⟨_,o,ho,_⟩:=I.ok.funs.mem hb
 exact absurd (Nat.lt_of_lt_of_le (Heap.lt_size ho) (Nat.le_trans I.sz h)) (Nat.lt_irrefl _)
theorem Inv.cne(I:Inv X pins σ H s): ∀x c,X.env.cells.lookup x=some c->c≠X.env.locals:=fun x c e z=>by
 obtain⟨v,o,ho,hd⟩:=I.cell x c e
 obtain⟨m,⟨o',es,ep,ho',hd',_⟩,_⟩:=I.loc
 rw[z,ho'] at ho;cases ho;rw[hd'] at hd;cases hd
theorem Inv.funs(I:Inv X pins σ H s):s.heap.FunFrames X.base X.outer:=by
 have all: ∀(l:List Env),(∀b∈frs l,b∈X.fs)->X.s₀.heap.FunFrames X.base l->s.heap.FunFrames X.base l:=by
  intro l
  induction l with
  |nil=>intro _ _;trivial
  |cons env r ih=>
   intro hs hl
   obtain⟨hk,⟨L,o,hf,hn,ho,hd⟩,hr⟩:=hl
   have hL:L∈X.fs:=hs L (by unfold frs;rw[List.filterMap_cons,hf];exact List.mem_cons_self)
   obtain⟨sl,e⟩:=I.base.slot L o ho (I.ok.frf L hL) hL fun z=>I.ok.exfs L z hL
   exact⟨hk,⟨L,_,hf,hn,e,hd⟩,ih (fun b hb=>hs b (by unfold frs;rw[List.filterMap_cons,hf];exact List.mem_cons_of_mem _ hb)) hr⟩
 exact all X.outer (fun _ hb=>hb) I.ok.funs
theorem Inv.stack(I:Inv X pins σ H s):s.heap.FunFrames X.base X.stack:=by
 rcases I.ok.stk with e|⟨e,hf⟩
 ·rw[e];exact I.funs
 ·rw[e]
  obtain⟨m,hn,_⟩:=I.loc
  refine .cons (by rw[I.ok.kind];decide) hf hn ?_ I.funs
  exact Heap.get?_none_of_le (Nat.le_trans I.ok.bsz I.ok.above)
theorem Inv.stkSub(I:Inv X pins σ H s): ∀b∈frs X.stack,b∈X.env.locals::X.fs:=fun b hb=>by
 rcases I.ok.stk with e|⟨e,hf⟩
 ·rw[e] at hb;exact List.mem_cons_of_mem _ hb
 ·rw[e] at hb
  unfold frs at hb
  rw[List.filterMap_cons,hf] at hb
  exact hb
theorem Inv.stkFree(I:Inv X pins σ H s): ∀b∈frs X.stack,H b=none:=fun b hb=>by
 rcases List.mem_cons.mp (I.stkSub b hb) with e|hb
 ·rw[e];exact I.free
 ·obtain⟨_,o,ho,_⟩:=I.ok.funs.mem hb
  exact I.base.free b o ho (I.ok.frf b hb) fun z=>I.ok.exfs b z hb
theorem Inv.step{g':Array GenState}{t':Nat}{d':Drawn}{ch:List Addr}(I:Inv X pins σ H s)
 (hch: ∀b∈ch,(b∈X.ex\/X.s₀.heap.objs.size<=b)/\b≠X.env.locals/\(∀x c,X.env.cells.lookup x=some c->c≠b)/\∀p∈X.pn++pins,p.1≠b)
 (keep: ∀b o,b≠X.env.locals->b∉X.fs->b∉ch->s.heap.get? b=some o->H b=none->h'.get? b=some o)
 (slot: ∀b o,b≠X.env.locals->b∈X.fs->b∉ch->s.heap.get? b=some o->H b=none->∃sl,h'.get? b=some {o with slots:=sl}) (free: ∀b o,b∉ch->s.heap.get? b=some o->H b=none->H' b=none)
 (there: ∀b o,b∉ch->s.heap.get? b=some o->∃o',h'.get? b=some o')
 (tups: ∀b xs,H b=some (.tup xs)->H' b=some (.tup xs)) (frzs: ∀b o u,H b=some (.frz o u)->H' b=some (.frz o u)) (tbls: ∀b ps,H b=some (.tbl ps)->∃more,H' b=some (.tbl (ps++more)))
 (ns: ∀m,s.heap.Ns X.env.locals m->h'.Ns X.env.locals m) (hok:HOk X.prog X.w H' h') (hg:AllBare g'):
 Inv X pins σ H' {s with heap:=h',gens:=g',drawn:=d',toks:=t'}:=by
 have neL: ∀b o,X.s₀.heap.get? b=some o->b≠X.env.locals:=fun b o e=>Nat.ne_of_lt (Nat.lt_of_lt_of_le (Heap.lt_size e) I.ok.above)
 have neC: ∀b o,X.s₀.heap.get? b=some o->b∉X.ex->b∉ch:=fun b o e hx hb=>by
  rcases(hch b hb).1 with z|z
  ·exact hx z
  ·exact absurd (Nat.lt_of_lt_of_le (Heap.lt_size e) z) (Nat.lt_irrefl _)
 have cellK: ∀x c,X.env.cells.lookup x=some c->∀v,s.heap.IsCell c v->h'.IsCell c v:=fun x c e v ⟨o,ho,hd⟩=>by
  have nch:c∉ch:=fun z=>(hch c z).2.2.1 x c e rfl
  by_cases hc:c∈X.fs
  ·obtain⟨sl,q⟩:=slot c o (I.cne x c e) hc nch ho (I.freeC x c e)
   exact⟨_,q,hd⟩
  ·exact⟨o,keep c o (I.cne x c e) hc nch ho (I.freeC x c e),hd⟩
 refine⟨I.ok,I.os,hg,⟨fun b o e n hb hx=> ?_,fun b o e n hb hx=> ?_,fun b o e n hx=> ?_,fun b o e hx=> ?_,fun b xs e=>tups b xs (I.base.tups b xs e),fun b o xs e=>frzs b o xs (I.base.frzs b o xs e),fun b ps e=> ?_⟩, ?_,fun x c e=> ?_, ?_,fun x c e=> ?_,fun p hp=> ?_,hok,I.len⟩
 ·exact keep b o (neL b o e) hb (neC b o e hx) (I.base.keep b o e n hb hx) (I.base.free b o e n hx)
 ·obtain⟨sl,e1⟩:=I.base.slot b o e n hb hx
  obtain⟨sl',e2⟩:=slot b _ (neL b o e) hb (neC b o e hx) e1 (I.base.free b o e n hx)
  exact⟨sl',e2⟩
 ·obtain⟨o',e1⟩:=I.base.there b o e hx
  exact free b o' (neC b o e hx) e1 (I.base.free b o e n hx)
 ·obtain⟨o',e1⟩:=I.base.there b o e hx
  exact there b o' (neC b o e hx) e1
 ·obtain⟨m1,e1⟩:=I.base.tbls b ps e
  obtain⟨m2,e2⟩:=tbls b _ e1
  exact⟨m1++m2,by rw[e2,Array.append_assoc]⟩
 ·obtain⟨m,hn,hl⟩:=I.loc
  refine⟨m,ns m hn,fun i x v e1 e2 e3=> ?_⟩
  obtain⟨u,r,l⟩:=hl i x v e1 e2 e3
  refine⟨u,r, ?_⟩
  rcases l with l|⟨k,c,e,z⟩
  ·exact .inl l
  ·exact .inr ⟨k,c,e,cellK x c e _ z⟩
 ·obtain⟨v,z⟩:=I.cell x c e
  exact⟨v,cellK x c e v z⟩
 ·obtain⟨m,⟨o,_,_,ho,_⟩,_⟩:=I.loc
  exact free _ o (fun z=>(hch _ z).2.1 rfl) ho I.free
 ·obtain⟨v,o,ho,hd⟩:=I.cell x c e
  exact free c o (fun z=>(hch c z).2.2.1 x c e rfl) ho (I.freeC x c e)
 ·obtain⟨e,n,ne,nf,d⟩:=I.pin p hp
  have nch:p.1∉ch:=fun z=>(hch p.1 z).2.2.2 p hp rfl
  exact⟨keep p.1 p.2 ne nf nch e n,free p.1 p.2 nch e n,ne,nf,d⟩
theorem Inv.un{t':Nat}(I:Inv X pins σ H s)(u:Un X.fs [] H H' s.heap h')(hok:HOk X.prog X.w H' h'):Inv X pins σ H' {s with heap:=h',toks:=t'}:=by
 obtain⟨m,⟨o,es,ep,ho,r⟩,_⟩:=id I.loc
 obtain⟨sl,hL⟩:=u.any ho I.free (by simp)
 exact I.step (g':=s.gens) (d':=s.drawn) (ch:=[]) (fun _ z=>nomatch z) (fun b o _ hb _ e n=>u.keep b o e n hb (by simp)) (fun b o _ hb _ e n=>u.slot b o e n hb (by simp)) (fun b o _ e n=>u.free b o e n (by simp)) (fun b o _ e=>u.there b o e (by simp)) u.tups u.frzs u.tbls (fun m' hm=>by
  obtain⟨o',es',ep',ho',r'⟩:=hm
  rw[ho] at ho';cases ho'
  exact⟨_,es',ep',hL,r'⟩) hok I.bare
theorem Inv.call{g':Array GenState}{t':Nat}{d':Drawn}{ch:List Addr}(I:Inv X pins σ H s)(u:Un (frs X.stack) ch H H' s.heap h')(hok:HOk X.prog X.w H' h')(hg:AllBare g')
 (hch: ∀b∈ch,(b∈X.ex\/X.s₀.heap.objs.size<=b)/\b≠X.env.locals/\(∀x c,X.env.cells.lookup x=some c->c≠b)/\∀p∈X.pn++pins,p.1≠b):
 Inv X pins σ H' {s with heap:=h',gens:=g',drawn:=d',toks:=t'}:=by
 obtain⟨m,⟨o,es,ep,ho,r⟩,_⟩:=id I.loc
 obtain⟨sl,hL⟩:=u.any ho I.free fun z=>(hch _ z).2.1 rfl
 exact I.step (ch:=ch) hch (fun b o hL hb hc e n=>u.keep b o e n (fun z=>(List.mem_cons.mp (I.stkSub b z)).elim hL hb) hc) (fun b o _ _ hc e n=>u.any e n hc) (fun b o hc e n=>u.free b o e n hc) (fun b o hc e=>u.there b o e hc) u.tups u.frzs u.tbls (fun m' hm=>by
  obtain⟨o',es',ep',ho',r'⟩:=hm
  rw[ho] at ho';cases ho'
  exact⟨_,es',ep',hL,r'⟩) hok hg
theorem Inv.turned{t':Nat}{it:Addr}(I:Inv X pins σ H s)(k: ∀b o,b≠it->s.heap.get? b=some o->h'.get? b=some o)(hn:H it=none)(hL:it≠X.env.locals)
 (h1:it∈X.ex\/X.s₀.heap.objs.size<=it) (h2: ∀x c,X.env.cells.lookup x=some c->c≠it) (h3: ∀p∈X.pn++pins,p.1≠it):Inv X pins σ H {s with heap:=h',toks:=t'}:=by
 have nit: ∀b u,H b=some u->b≠it:=fun b u e z=>by rw[z,hn] at e;cases e
 refine I.step (g':=s.gens) (d':=s.drawn) (ch:=[it]) (fun b hb=> ?_) (fun b o _ _ hc e _=>k b o (fun z=>hc (by simp[z])) e) (fun b o _ _ hc e _=>⟨o.slots,k b o (fun z=>hc (by simp[z])) e⟩) (fun _ _ _ _ n=>n)
  (fun b o hc e=>⟨o,k b o (fun z=>hc (by simp[z])) e⟩) (fun _ _ e=>e) (fun _ _ _ e=>e) (fun b ps e=>⟨#[],by rw[e];simp⟩) (fun m hm=> ?_) (fun b u e=> ?_) I.bare
 ·have e:b=it:=by simpa using hb
  subst e
  exact⟨h1,hL,h2,h3⟩
 ·obtain⟨o,es,ep,ho,r⟩:=hm
  exact⟨o,es,ep,k _ o (Ne.symm hL) ho,r⟩
 ·refine(I.hok b u e).stay (fun c v hc q=>k c v ?_ q) (fun _ q=>q) fun _ _ q=>q
  rcases hc with z|z
  ·rw[z];exact nit b u e
  ·exact nit c _ z
theorem Inv.tok(I:Inv X pins σ H s)(t:Nat):Inv X pins σ H {s with toks:=t}:=I.un (h':=s.heap) (t':=t) Un.refl I.hok
theorem Inv.kept{t':Nat}(I:Inv X pins σ H s)(k: ∀b u,s.heap.get? b=some u->h'.get? b=some u):Inv X pins σ H {s with heap:=h',toks:=t'}:=I.un (Un.kept k) (I.hok.kept k)
theorem Inv.laid{a:Addr}{o:HO}{t':Nat}(I:Inv X pins σ H s)(k: ∀b u,s.heap.get? b=some u->h'.get? b=some u)(hp:s.heap.objs.size<=a)(new:z2i X.prog X.w (upd H a o) h' a o):
 Inv X pins σ (upd H a o) {s with heap:=h',toks:=t'}:=I.un (Un.laid k hp (I.hok.fresh hp)) (I.hok.laid k hp new)
theorem Inv.write{x e:Addr}{o:HO}{t':Nat}(I:Inv X pins σ H s)(mu:Mut (H x))(he:e=x\/H e=some (.own x))(k: ∀b u,b≠e->s.heap.get? b=some u->h'.get? b=some u)(heo: ∃u,h'.get? e=some u)
 (new:z2i X.prog X.w (upd H x o) h' x o):Inv X pins σ (upd H x o) {s with heap:=h',toks:=t'}:=I.un (Un.write mu he k heo) (I.hok.write mu he k heo new)
theorem Inv.pins_of{pins':List (Addr×Obj)}(I:Inv X pins σ H s)(h: ∀p∈pins',s.heap.get? p.1=some p.2/\H p.1=none/\p.1≠X.env.locals/\p.1∉X.fs/\∀v,p.2.data≠ .cell v):Inv X pins' σ H s:=
 ⟨I.ok,I.os,I.bare,I.base,I.loc,I.cell,I.free,I.freeC,fun p hp=>(List.mem_append.mp hp).elim (fun z=>I.pin p (List.mem_append_left _ z)) (h p),I.hok,I.len⟩
theorem z8u{N:List Str}(hN:N.Nodup){i j:Nat}{x:Str}(a:N[i]? =some x)(b:N[j]? =some x):i=j:=by
 obtain⟨h1,e1⟩:=List.getElem?_eq_some_iff.mp a
 obtain⟨h2,e2⟩:=List.getElem?_eq_some_iff.mp b
 exact(List.getElem_inj hN).mp (e1.trans e2.symm)
theorem z9O{M:Model}{A:Around}{E:Value->Shared->Prop}{i:Nat}{x:Str}{v:V}{u:Value}{Q:Unit->Shared->Prop}(I:Inv X pins σ H s)(hN:X.N.Nodup)(hi:X.N[i]? =some x)(hx:Loc X.env.scope x)(r:RelV v u)
 (h: ∀s',Inv X pins (σ.set i (some v)) H s'->(∃a,Heap.SameBut a s.heap s'.heap/\(a=X.env.locals\/X.env.cells.lookup x=some a))->Q () s') (hf:X.fn x=true\/X.env.scope.names.lookup x=some .local:=by first|exact .inl rfl|exact .inr rfl|assumption):wpAny M A (storeName X.env x u) Q E s:=by
 obtain⟨m,hn,hl⟩:=id I.loc
 have hcls:(X.env.scope.kind== .class||(X.env.scope.kind== .module&&X.env.locals !=X.env.globals))=false:=by rw[I.ok.kind];rfl
 have hiσ:i<σ.length:=by rw[I.len];exact(List.getElem?_eq_some_iff.mp hi).1
 have cne:=I.cne
 have tracked: ∀{a:Addr} {h':Heap},(∃o,s.heap.get? a=some o/\H a=none)->Heap.SameBut a s.heap h'->HOk X.prog X.w H h':=fun{a h'} ha hs b ob e=>by
  obtain⟨_,_,hfree⟩:=ha
  refine(I.hok b ob e).stay (fun c w' hc q=>(hs.2 c ?_).trans q) (fun _ q=>q) fun _ _ q=>q
  rintro rfl
  rcases hc with rfl|hc
  ·rw[hfree] at e;cases e
  ·rw[hfree] at hc;cases hc
 rcases hx with hk|hk
 ·refine wpAny_storeName_local hk hn (fun h' hn' hs=> ?_) hcls
  obtain⟨oL,_,_,hoL,_⟩:=id hn
  refine h _ ⟨I.ok,I.os,I.bare,⟨fun b o e n hb hx=> ?_,fun b o e n hb hx=> ?_,I.base.free,fun b o e hx=> ?_,I.base.tups,I.base.frzs,I.base.tbls⟩,⟨_,hn',fun j y v' e1 e2 e3=> ?_⟩,fun y c e=> ?_,I.free,I.freeC,fun p hp=> ?_,tracked ⟨oL,hoL,I.free⟩ hs,by simpa using I.len⟩ ⟨_,hs, .inl rfl⟩
  ·exact(hs.2 b (Nat.ne_of_lt (Nat.lt_of_lt_of_le (Heap.lt_size e) I.ok.above))).trans (I.base.keep b o e n hb hx)
  ·obtain⟨sl,e1⟩:=I.base.slot b o e n hb hx
   exact⟨sl,(hs.2 b (Nat.ne_of_lt (Nat.lt_of_lt_of_le (Heap.lt_size e) I.ok.above))).trans e1⟩
  ·obtain⟨o',e1⟩:=I.base.there b o e hx
   exact⟨o',(hs.2 b (Nat.ne_of_lt (Nat.lt_of_lt_of_le (Heap.lt_size e) I.ok.above))).trans e1⟩
  ·by_cases hj:j=i
   ·subst hj
    rw[hi] at e1;cases e1
    rw[List.getElem?_set_self hiσ] at e2
    cases e2
    exact⟨u,r, .inl ⟨hk,by simp⟩⟩
   ·rw[List.getElem?_set_ne (Ne.symm hj)] at e2
    obtain⟨u',r',q⟩:=hl j y v' e1 e2 e3
    refine⟨u',r', ?_⟩
    rcases q with⟨k,e⟩|⟨k,c,e,z⟩
    ·refine .inl ⟨k, ?_⟩
     have:y≠x:=fun e=>hj (z8u hN e1 (e▸hi))
     simp[this,e]
    ·exact .inr ⟨k,c,e,z.sameBut hs (cne y c e)⟩
  ·obtain⟨w',z⟩:=I.cell y c e
   exact⟨w',z.sameBut hs (cne y c e)⟩
  ·obtain⟨e,n,ne,nf,d⟩:=I.pin p hp
   exact⟨(hs.2 p.1 ne).trans e,n,ne,nf,d⟩
 ·have hfn:X.fn x=true:=by
   rcases hf with z|z
   ·exact z
   ·rw[z] at hk;cases hk
  obtain⟨c,hc⟩:=I.ok.has x (.inl hk)
  obtain⟨w',z⟩:=I.cell x c hc
  refine wpAny_storeName_cell I.ok.kind hk hc z (fun h' hc' hs=> ?_)
  obtain⟨oc,hoc,hocd⟩:=id z
  refine h {s with heap:=h'} ⟨I.ok,I.os,I.bare,⟨fun b o e n hb hx=> ?_,fun b o e n hb hx=> ?_,I.base.free,fun b o e hx=> ?_,I.base.tups,I.base.frzs,I.base.tbls⟩,⟨m,hn.sameBut hs (Ne.symm (cne x c hc)),fun j y v' e1 e2 e3=> ?_⟩,fun y c' e=> ?_,I.free,I.freeC,fun p hp=> ?_,tracked ⟨oc,hoc,I.freeC x c hc⟩ hs,by simpa using I.len⟩ ⟨c,hs, .inr hc⟩
  ·exact(hs.2 b (Nat.ne_of_lt (Nat.lt_of_lt_of_le (Heap.lt_size e) (I.ok.cab x c hfn hc)))).trans (I.base.keep b o e n hb hx)
  ·obtain⟨sl,e1⟩:=I.base.slot b o e n hb hx
   exact⟨sl,(hs.2 b (Nat.ne_of_lt (Nat.lt_of_lt_of_le (Heap.lt_size e) (I.ok.cab x c hfn hc)))).trans e1⟩
  ·obtain⟨o',e1⟩:=I.base.there b o e hx
   exact⟨o',(hs.2 b (Nat.ne_of_lt (Nat.lt_of_lt_of_le (Heap.lt_size e) (I.ok.cab x c hfn hc)))).trans e1⟩
  ·by_cases hj:j=i
   ·subst hj
    rw[hi] at e1;cases e1
    rw[List.getElem?_set_self hiσ] at e2
    cases e2
    exact⟨u,r, .inr ⟨.inl hk,c,hc,hc'⟩⟩
   ·rw[List.getElem?_set_ne (Ne.symm hj)] at e2
    obtain⟨u',r',q⟩:=hl j y v' e1 e2 e3
    refine⟨u',r', ?_⟩
    rcases q with q|⟨k,c',e,z'⟩
    ·exact .inl q
    ·refine .inr ⟨k,c',e,z'.sameBut hs ?_⟩
     rintro rfl
     exact hj (z8u hN e1 (I.ok.inj _ _ _ e hc▸hi))
  ·by_cases hcc:c'=c
   ·subst hcc;exact⟨_,hc'⟩
   ·obtain⟨w2,z2⟩:=I.cell y c' e
    exact⟨w2,z2.sameBut hs hcc⟩
  ·obtain⟨e,n,ne,nf,d⟩:=I.pin p hp
   refine⟨(hs.2 p.1 ?_).trans e,n,ne,nf,d⟩
   intro q
   rw[q,hoc] at e
   have q':oc=p.2:=Option.some.inj e
   exact d w' (by rw[<-q'];exact hocd)
theorem z3N{M:Model}{A:Around}{E:Value->Shared->Prop}{i:Nat}{x:Str}{v:V}{u:Value}{Q:Unit->Shared->Prop}(I:Inv X pins σ H s)(hN:X.N.Nodup)(hi:X.N[i]? =some x)(hx:Loc X.env.scope x)(r:RelV v u)
 (h: ∀s',Inv X pins (σ.set i (some v)) H s'->Q () s') (hf:X.fn x=true\/X.env.scope.names.lookup x=some .local:=by first|exact .inl rfl|exact .inr rfl|assumption):wpAny M A (storeName X.env x u) Q E s:=
 z9O I hN hi hx r (fun s' I' _=>h s' I') hf
theorem Inv.call'{s':Shared}{ch:List Addr}(I:Inv X pins σ H s)(ho:s'.os=s.os)(u:Un (frs X.stack) ch H H' s.heap s'.heap)(hok:HOk X.prog X.w H' s'.heap)(hg:AllBare s'.gens)
 (hch: ∀b∈ch,(b∈X.ex\/X.s₀.heap.objs.size<=b)/\b≠X.env.locals/\(∀x c,X.env.cells.lookup x=some c->c≠b)/\∀p∈X.pn++pins,p.1≠b):Inv X pins σ H' s':=by
 obtain⟨h',g',d',t',o'⟩:=s'
 have e:o'=s.os:=ho
 subst e
 exact I.call (g':=g') (t':=t') (d':=d') u hok hg hch
end
noncomputable abbrev XK:=Value->Option Addr->Hp->Prop
noncomputable abbrev St:=List (Option V)
noncomputable abbrev VK:=V->Hp->Prop
noncomputable abbrev TE:=St->Hp->VK->Prop
noncomputable abbrev TT:=St->Hp->(Bool->Hp->Prop)->Prop
noncomputable abbrev TA:=St->Hp->(List V->Hp->Prop)->Prop
structure Ends where
 nx:St->Hp->Prop
 rt:VK
 bk:St->Hp->Prop:=fun _ _=>False
 ct:St->Hp->Prop:=fun _ _=>False
noncomputable abbrev TS:=Ends->St->Hp->Prop
noncomputable def EP(X:Cx)(pins:List (Addr×Obj))(σ:St)(Q:VK)(u:Value)(s':Shared):Prop:= ∃v H',Inv X pins σ H' s'/\RelV v u/\Q v H'
noncomputable def TP(X:Cx)(pins:List (Addr×Obj))(σ:St)(Q:Bool->Hp->Prop)(b:Bool)(s':Shared):Prop:= ∃H',Inv X pins σ H' s'/\Q b H'
noncomputable def AP(X:Cx)(pins:List (Addr×Obj))(σ:St)(Q:List V->Hp->Prop)(us:List Value)(s':Shared):Prop:= ∃vs H',Inv X pins σ H' s'/\Vals vs us/\Q vs H'
noncomputable def SP(X:Cx)(pins:List (Addr×Obj))(D:Ends)(f:Flow)(s':Shared):Prop:=
 match f with
 | .next=> ∃σ' H',Inv X pins σ' H' s'/\D.nx σ' H'
 | .brk=> ∃σ' H',Inv X pins σ' H' s'/\D.bk σ' H'
 | .cont=> ∃σ' H',Inv X pins σ' H' s'/\D.ct σ' H'
 | .ret u=> ∃v σ' H',Inv X pins σ' H' s'/\RelV v u/\D.rt v H'
noncomputable def PE(X:Cx)(e:Expr)(t:TE):Prop:=
 ∀(pins:List (Addr×Obj)) (s:Shared) (σ:St) (H:Hp) (Q:VK),Inv X pins σ H s->t σ H Q->wpAny (model X.prog X.w) X.A (eval e X.env) (EP X pins σ Q) X.xe s
noncomputable def PT(X:Cx)(e:Expr)(t:TT):Prop:=
 ∀(pins:List (Addr×Obj)) (s:Shared) (σ:St) (H:Hp) (Q:Bool->Hp->Prop),Inv X pins σ H s->t σ H Q->wpAny (model X.prog X.w) X.A (isTrue e X.env (eval e X.env)) (TP X pins σ Q) X.xe s
noncomputable def PW(X:Cx)(e:Expr)(t:TT):Prop:=
 ∀(whole:Sem Value) (pins:List (Addr×Obj)) (s:Shared) (σ:St) (H:Hp) (Q:Bool->Hp->Prop),Inv X pins σ H s->t σ H Q->wpAny (model X.prog X.w) X.A (isTrue e X.env whole) (TP X pins σ Q) X.xe s
theorem PW.pt{X:Cx}{e:Expr}{t:TT}(h:PW X e t):PT X e t:=h _
noncomputable def PA(X:Cx)(es:List Expr)(t:TA):Prop:=
 ∀(pos:Pos) (pins:List (Addr×Obj)) (s:Shared) (σ:St) (H:Hp) (Q:List V->Hp->Prop),Inv X pins σ H s->t σ H Q->wpAny (model X.prog X.w) X.A (spliced (backTo pos (starEach es X.env))) (AP X pins σ Q) X.xe s
noncomputable def PS(X:Cx)(st:Stmt)(t:TS):Prop:=
 ∀(pins:List (Addr×Obj)) (s:Shared) (σ:St) (H:Hp) (D:Ends),Inv X pins σ H s->t D σ H->wpAny (model X.prog X.w) X.A (exec st X.env) (SP X pins D) X.xe s
noncomputable def PSs(X:Cx)(st:List Stmt)(t:TS):Prop:=
 ∀(pins:List (Addr×Obj)) (s:Shared) (σ:St) (H:Hp) (D:Ends),Inv X pins σ H s->t D σ H->wpAny (model X.prog X.w) X.A (execs st X.env) (SP X pins D) X.xe s
theorem thn{α:Type}{t:Sem α}{Q Q':α->Shared->Prop}{M:Model}{A:Around}{E:Value->Shared->Prop}{s:Shared}(h:wpAny M A t Q E s)(hQ: ∀a s,Q a s->Q' a s):wpAny M A t Q' E s:=wpAny_mono h hQ fun _ _ x=>x
section
variable{X:Cx}
noncomputable def tVar(i:Nat):TE:=fun σ H Q=> ∃v,σ[i]? =some (some v)/\Q v H
noncomputable def tC(v:V):TE:=fun _ H Q=>Q v H
theorem zeG{i:Nat}{x:Str}{pos:Pos}(hN:X.N[i]? =some x)(hv:Vis X.env.scope x)(hd:(x==("__debug__" :Str))=false:=by decide)(hcd:(x==("__classdict__" :Str))=false:=by decide):PE X (.Name x pos) (tVar i):=by
 intro pins s σ H Q I h
 obtain⟨v,e,h⟩:=h
 obtain⟨m,hn,hl⟩:=I.loc
 obtain⟨u,r,l⟩:=hl i x v hN e hv
 have fin:EP X pins σ Q u s:=⟨v,H,I,r,h⟩
 rcases l with⟨hk,hm⟩|⟨hk,c,hc,hcell⟩
 ·exact wpAny_Name (wpAny_loadName_local I.ok.kind hk hn hm fin) hd
 ·rcases hk with hk|hk
  ·exact wpAny_Name (wpAny_loadName_cell I.ok.kind hk hc hcell fin) hd
  ·exact wpAny_Name (wpAny_loadName_free I.ok.kind hk hc hcell fin hcd) hd
theorem z00{i j pos}:PE X (.Constant (.int i) j pos) (tC (.int i)):=fun _ _ _ H _ I h=>wpAny_Constant_int ⟨.int i,H,I.tok _,⟨_,rfl⟩,h⟩
theorem z1R{b j pos}:PE X (.Constant (.bool b) j pos) (tC (.bl b)):=fun _ _ _ H _ I h=>Constant_bool ⟨.bl b,H,I,rfl,h⟩
theorem z1w{j pos}:PE X (.Constant .none j pos) (tC .non):=fun _ _ _ H _ I h=>Constant_none ⟨.non,H,I,rfl,h⟩
theorem z06{x j pos}:PE X (.Constant (.str x) j pos) (tC (.str x)):=fun _ _ _ H _ I h=>Calls.Constant_str ⟨.str x,H,I.tok _,⟨_,rfl⟩,h⟩
noncomputable def Gl(X:Cx)(x:Str):Prop:=X.env.kindOf x=some .globalImplicit
theorem z4B{E:Value->Shared->Prop}{pins:List (Addr×Obj)}{s:Shared}{σ:St}{H:Hp}{x:Str}{u:Value}{pos:Pos}{Q:Value->Shared->Prop}(I:Inv X pins σ H s)(hg:Gl X x)(hm:X.mg x=some u)(h:Q u s)
 (hd:(x==("__debug__" :Str))=false:=by decide):wpAny (model X.prog X.w) X.A (eval (.Name x pos) X.env) Q E s:=
 Calls.Name_function_global I.ok.kind hg (Calls.loadGlobal_global (by rw[I.ok.glob];exact I.mod.glob.keeps I.bk) hm h) hd
theorem z6l{E:Value->Shared->Prop}{pins:List (Addr×Obj)}{s:Shared}{σ:St}{H:Hp}{x:Str}{u:Value}{pos:Pos}{Q:Value->Shared->Prop}(I:Inv X pins σ H s)(hg:Gl X x)(hm:X.mg x=none)(hv:bootBuiltins x=some u)(h:Q u s)
 (hn:x≠ "__name__" :=by decide) (hd:(x==("__debug__" :Str))=false:=by decide):wpAny (model X.prog X.w) X.A (eval (.Name x pos) X.env) Q E s:=by
 obtain⟨mb,h1,h2⟩:=I.mod.blt
 exact Calls.Name_function_global I.ok.kind hg (Calls.loadGlobal_builtin (by rw[I.ok.glob];exact I.mod.glob.keeps I.bk) hm (by rw[I.ok.blt];exact h1.keeps I.bk) ((h2 x hn).trans hv) h) hd
theorem z0d{x:Str}{v:V}{u:Value}{pos:Pos}(hg:Gl X x)(hm:X.mg x=some u)(r:RelV v u)(hd:(x==("__debug__" :Str))=false:=by decide):PE X (.Name x pos) (tC v):=
 fun _ _ _ H _ I h=>z4B I hg hm ⟨v,H,I,r,h⟩ hd
theorem z1x{x:Str}{v:V}{u:Value}{pos:Pos}(hg:Gl X x)(hm:X.mg x=none)(hv:bootBuiltins x=some u)(r:RelV v u)(hn:x≠ "__name__" :=by decide)(hd:(x==("__debug__" :Str))=false:=by decide):PE X (.Name x pos) (tC v):=
 fun _ _ _ H _ I h=>z6l I hg hm hv ⟨v,H,I,r,h⟩ hn hd
variable{a b:Expr}{ta tb:TE}{pos:Pos}
variable{tA tB':TT}{rest:List Expr}
noncomputable def tAnd(t u:TT):TT:=fun σ H Q=>t σ H fun c H1=>if c=true then u σ H1 Q else Q false H1
noncomputable def tOr(t u:TT):TT:=fun σ H Q=>t σ H fun c H1=>if c=true then Q true H1 else u σ H1 Q
noncomputable def tNot(t:TT):TT:=fun σ H Q=>t σ H fun c H1=>Q (!c) H1
theorem zd2(ha:PT X a tA):PW X (.BoolOp .And [a] pos) tA:=by
 intro wh pins s σ H Q I h
 refine isTrue_and (thn (ha pins s σ H Q I h) fun c s1 e=> ?_)
 cases c with
 |true=>exact isTrue_and_nil e
 |false=>exact e
theorem zeH(ha:PT X a tA):PW X (.BoolOp .Or [a] pos) tA:=by
 intro wh pins s σ H Q I h
 refine isTrue_or (thn (ha pins s σ H Q I h) fun c s1 e=> ?_)
 cases c with
 |false=>exact isTrue_or_nil e
 |true=>exact e
theorem zeI(ha:PT X a tA)(hb:PW X (.BoolOp .And (b::rest) pos) tB'):PW X (.BoolOp .And (a::b::rest) pos) (tAnd tA tB'):=by
 intro wh pins s σ H Q I h
 refine isTrue_and (thn (ha pins s σ H _ I h) fun c s1 ⟨H1,I1,q1⟩=> ?_)
 cases c with
 |true=>exact hb wh pins s1 σ H1 Q I1 q1
 |false=>exact⟨H1,I1,q1⟩
theorem zhc(ha:PT X a tA)(hb:PW X (.BoolOp .Or (b::rest) pos) tB'):PW X (.BoolOp .Or (a::b::rest) pos) (tOr tA tB'):=by
 intro wh pins s σ H Q I h
 refine isTrue_or (thn (ha pins s σ H _ I h) fun c s1 ⟨H1,I1,q1⟩=> ?_)
 cases c with
 |true=>exact⟨H1,I1,q1⟩
 |false=>exact hb wh pins s1 σ H1 Q I1 q1
theorem zeJ(ha:PT X a tA):PT X (.UnaryOp .Not a pos) (tNot tA):=by
 intro pins s σ H Q I h
 exact isTrue_not (ha pins s σ H (fun c H1=>Q (!c) H1) I h)
noncomputable def zhd(ta tb:TE):TE:=fun σ H Q=>ta σ H fun x H1=> ∃c,x= .bl c/\if c=true then tb σ H1 Q else Q (.bl false) H1
noncomputable def zhe(ta:TE):TE:=fun σ H Q=>ta σ H fun x H1=> ∃c,x= .bl c/\Q (.bl (!c)) H1
theorem zeK{op}{t:TE}(h:PE X a t):PE X (.BoolOp op [a] pos) t:=fun pins s σ H Q I hw=>BoolOp_one (h pins s σ H Q I hw)
theorem zeL(ha:PE X a ta)(hb:PE X (.BoolOp .And (b::rest) pos) tb):PE X (.BoolOp .And (a::b::rest) pos) (zhd ta tb):=by
 intro pins s σ H Q I h
 refine BoolOp_and (thn (ha pins s σ H _ I h) fun v s1 ⟨x,H1,I1,r1,q1⟩=> ?_)
 obtain⟨c,rfl,q1⟩:=q1
 cases r1
 refine wpAny_truthy_bool ?_
 cases c with
 |true=>exact hb pins s1 σ H1 Q I1 q1
 |false=>exact⟨.bl false,H1,I1,rfl,q1⟩
theorem zeM(ha:PE X a ta):PE X (.UnaryOp .Not a pos) (zhe ta):=by
 intro pins s σ H Q I h
 refine UnaryOp_ (thn (ha pins s σ H _ I h) fun v s1 ⟨x,H1,I1,r1,q1⟩=> ?_)
 obtain⟨c,rfl,q1⟩:=q1
 cases r1
 exact not_of (wpAny_truthy_bool ⟨.bl (!c),H1,I1,rfl,q1⟩)
noncomputable def tIf(t:TT)(ta tb:TE):TE:=fun σ H Q=>t σ H fun c H1=>if c=true then ta σ H1 Q else tb σ H1 Q
theorem zbq{c:Expr}(hc:PT X c tA)(ha:PE X a ta)(hb:PE X b tb):PE X (.IfExp c a b pos) (tIf tA ta tb):=by
 intro pins s σ H Q I h
 refine wpAny_IfExp (thn (hc pins s σ H _ I h) fun d s1 ⟨H1,I1,q1⟩=> ?_)
 cases d with
 |true=>exact ha pins s1 σ H1 Q I1 q1
 |false=>exact hb pins s1 σ H1 Q I1 q1
end
noncomputable def SqL(K:W.Frag)(H:Hp)(a:Addr)(xs:List V):Prop:=
 Rd H a (.lst xs)\/
  ∃(o:Obj) (its:Array Value) (n:Nat),K.lookup a=some o/\o.cls= .type "list" /\o.dict=none/\o.data= .seq its n/\its.size<=sizeLine/\Vals xs its.toList
noncomputable def SqT(K:W.Frag)(H:Hp)(a:Addr)(xs:List V):Prop:=
 Rd H a (.tup xs)\/
  ∃(o:Obj) (its:Array Value) (n:Nat),K.lookup a=some o/\o.cls= .type "tuple" /\o.data= .seq its n/\its.size<=sizeLine/\Vals xs its.toList
noncomputable def absV:Value->Option V
 | .none=>some .non
 | .bool b=>some (.bl b)
 | .int i _=>some (.int i)
 | .str x _=>some (.str x)
 | .bytes b _=>some (.byt b)
 | .float b _=>some (.flt b)
 | .ref a=>some (.ref a)
 | .type n=>some (.ty n)
 |_=>none
theorem RelV.abs{x:V}{u:Value}(r:RelV x u):absV u=some x:=by
 cases x with
 |non=>cases r;rfl
 |bl _=>cases r;rfl
 |int _=>obtain⟨t,rfl⟩:=r;rfl
 |str _=>obtain⟨t,rfl⟩:=r;rfl
 |byt _=>obtain⟨t,rfl⟩:=r;rfl
 |flt _=>obtain⟨t,rfl⟩:=r;rfl
 |ref _=>cases r;rfl
 |ty _=>cases r;rfl
theorem RelV.inj{x y:V}{u:Value}(r:RelV x u)(q:RelV y u):x=y:=Option.some.inj (r.abs.symm.trans q.abs)
theorem Vals.inj: ∀{xs ys:List V} {us:List Value},Vals xs us->Vals ys us->xs=ys
 |_,_,_, .nil, .nil=>rfl
 |_,_,_, .cons r t, .cons r' t'=>by rw[r.inj r',Vals.inj t t']
section
variable{X:Cx}{pins:List (Addr×Obj)}{σ:St}{H:Hp}{s:Shared}{a:Addr}{xs ys:List V}
theorem SqL.of{K:W.Frag}(h:H a=some (.lst xs)):SqL K H a xs:= .inl (.inl h)
theorem SqT.of{K:W.Frag}(h:H a=some (.tup xs)):SqT K H a xs:= .inl (.inl h)
theorem Inv.list(I:Inv X pins σ H s)(h:SqL X.K H a xs): ∃its:List Value,Vals xs its/\PlainL s.heap a its.toArray/\xs.length<=sizeLine:=by
 rcases h with h|⟨o,its,n,hk,hc,hd,hs,hz,r⟩
 ·obtain⟨z,its,n,r,e⟩:=h.ok I.hok
  exact⟨its,r,⟨_,n,e,rfl,rfl,rfl⟩,z⟩
 ·refine⟨its.toList,r,⟨o,n,I.kIn a o hk,hc,hd,by simpa using hs⟩, ?_⟩
  have e:=r.length
  simp only[Array.length_toList] at e
  lia
theorem Inv.tuple(I:Inv X pins σ H s)(h:SqT X.K H a xs): ∃its:List Value,Vals xs its/\IsTup s.heap a its.toArray/\xs.length<=sizeLine:=by
 rcases h with h|⟨o,its,n,hk,hc,hs,hz,r⟩
 ·obtain⟨z,its,r,p⟩:=h.ok I.hok
  exact⟨its,r,p,z⟩
 ·refine⟨its.toList,r,⟨o,I.kIn a o hk,hc,n,by simpa using hs⟩, ?_⟩
  have e:=r.length
  simp only[Array.length_toList] at e
  lia
theorem Inv.list_inj(I:Inv X pins σ H s)(h:SqL X.K H a xs)(h':SqL X.K H a ys):xs=ys:=by
 obtain⟨its,r,⟨o,n,e,_,_,d⟩,_⟩:=I.list h
 obtain⟨its',r',⟨o',n',e',_,_,d'⟩,_⟩:=I.list h'
 rw[e] at e';cases e'
 rw[d] at d'
 injection d' with d1 _
 have:its=its':=by simpa using congrArg Array.toList d1
 subst this
 exact r.inj r'
theorem Inv.tuple_inj(I:Inv X pins σ H s)(h:SqT X.K H a xs)(h':SqT X.K H a ys):xs=ys:=by
 obtain⟨its,r,⟨o,e,_,n,d⟩,_⟩:=I.tuple h
 obtain⟨its',r',⟨o',e',_,n',d'⟩,_⟩:=I.tuple h'
 rw[e] at e';cases e'
 rw[d] at d'
 injection d' with d1 _
 have:its=its':=by simpa using congrArg Array.toList d1
 subst this
 exact r.inj r'
end
noncomputable abbrev Cx.wish(X:Cx)(E:Value->Shared->Prop):Cx:={X with xe:=E}
noncomputable abbrev Cx.nox(X:Cx):Cx:=X.wish fun _ _=>False
theorem Cx.Ok.wish{X:Cx}(ok:X.Ok)(E:Value->Shared->Prop):(X.wish E).Ok:=
 ⟨ok.mod,ok.kind,ok.glob,ok.blt,ok.above,ok.inj,ok.has,ok.cab,ok.hd,ok.frames,ok.stk,ok.exf,ok.bs,ok.bsz,ok.noex,ok.exfs,ok.funs,ok.frf⟩
theorem Cx.Ok.unwish{X:Cx}{E:Value->Shared->Prop}(ok:(X.wish E).Ok):X.Ok:=
 ⟨ok.mod,ok.kind,ok.glob,ok.blt,ok.above,ok.inj,ok.has,ok.cab,ok.hd,ok.frames,ok.stk,ok.exf,ok.bs,ok.bsz,ok.noex,ok.exfs,ok.funs,ok.frf⟩
section
variable{X:Cx}{pins:List (Addr×Obj)}{σ:St}{H:Hp}{s:Shared}{E:Value->Shared->Prop}
theorem Inv.wish(I:Inv X pins σ H s)(E:Value->Shared->Prop):Inv (X.wish E) pins σ H s:=⟨I.ok.wish E,I.os,I.bare,I.base,I.loc,I.cell,I.free,I.freeC,I.pin,I.hok,I.len⟩
theorem Inv.unwish(I:Inv (X.wish E) pins σ H s):Inv X pins σ H s:=⟨I.ok.unwish,I.os,I.bare,I.base,I.loc,I.cell,I.free,I.freeC,I.pin,I.hok,I.len⟩
theorem SP.unwish{D:Ends}{f:Flow}{s':Shared}(h:SP (X.wish E) pins D f s'):SP X pins D f s':=by
 cases f with
 |next=>obtain⟨σ',H',I,q⟩:=h;exact⟨σ',H',I.unwish,q⟩
 |brk=>obtain⟨σ',H',I,q⟩:=h;exact⟨σ',H',I.unwish,q⟩
 |cont=>obtain⟨σ',H',I,q⟩:=h;exact⟨σ',H',I.unwish,q⟩
 |ret u=>obtain⟨v,σ',H',I,r,q⟩:=h;exact⟨v,σ',H',I.unwish,r,q⟩
theorem PSs.nox{st:List Stmt}{t:TS}(h:PSs X.nox st t):PSs X st t:=fun pins s σ H D I hw=>
 wpAny_mono (h pins s σ H D (I.wish _) hw) (fun _ _ q=>q.unwish) fun _ _ z=>False.elim z
end
section
variable{X:Cx}{st:Stmt}{rest:List Stmt}{t u:TS}{e:Expr}{te:TE}{pos:Pos}
noncomputable def zhf:TS:=fun D σ H=>D.nx σ H
noncomputable def tSeq(t u:TS):TS:=fun D σ H=>t {D with nx:=u D} σ H
theorem zd3:PSs X [] zhf:=fun _ _ σ H _ I h=>wpAny_execs_nil ⟨σ,H,I,h⟩
theorem zbr(h1:PS X st t)(h2:PSs X rest u):PSs X (st::rest) (tSeq t u):=by
 intro pins s σ H D I h
 refine wpAny_execs_cons (thn (h1 pins s σ H {D with nx:=u D} I h) fun f s1 q=> ?_)
 cases f with
 |next=>
  obtain⟨σ',H',I',q⟩:=q
  exact h2 pins s1 σ' H' D I' q
 |ret v=>exact q
 |brk=>exact q
 |cont=>exact q
theorem zd4(h1:PS X st t):PSs X [st] t:=by
 intro pins s σ H D I h
 refine wpAny_execs_cons (thn (h1 pins s σ H D I h) fun f s1 q=> ?_)
 cases f with
 |next=>exact wpAny_execs_nil q
 |ret v=>exact q
 |brk=>exact q
 |cont=>exact q
theorem Inv.quiet{pins:List (Addr×Obj)}{σ:St}{H:Hp}{s:Shared}(I:Inv X pins σ H s):interactive X.env=false:=by simp[interactive,I.ok.kind]
noncomputable def zhg(te:TE):TS:=fun D σ H=>te σ H fun _ H1=>D.nx σ H1
theorem zd5(he:PE X e te)(hs:swapsWith e none pos.line X.env=pure false:=by rfl):PS X (.Expr e pos) (zhg te):=by
 intro pins s σ H D I h
 exact wpAny_Expr_any (thn (he pins s σ H _ I h) fun v s1 ⟨x,H1,I1,r1,q1⟩=>⟨σ,H1,I1,q1⟩) I.quiet hs
noncomputable def tRet(te:TE):TS:=fun D σ H=>te σ H D.rt
theorem zeN(he:PE X e te):PS X (.Return (some e) pos) (tRet te):=by
 intro pins s σ H D I h
 exact wpAny_Return_some (thn (he pins s σ H _ I h) fun v s1 ⟨x,H1,I1,r1,q1⟩=>⟨x,σ,H1,I1,r1,q1⟩)
noncomputable def tIfS(c:TT)(t u:TS):TS:=fun D σ H=>c σ H fun b H1=>if b=true then t D σ H1 else u D σ H1
theorem zhh{c:Expr}{a b:List Stmt}{tc:TT}(hc:PT X c tc)(ha:PSs X a t)(hb:PSs X b u):PS X (.If c a b pos) (tIfS tc t u):=by
 intro pins s σ H D I h
 refine wpAny_If (thn (hc pins s σ H _ I h) fun d s1 ⟨H1,I1,q1⟩=> ?_)
 cases d with
 |true=>exact ha pins s1 σ H1 D I1 q1
 |false=>exact hb pins s1 σ H1 D I1 q1
end
noncomputable abbrev TG:=V->St->Hp->(St->Hp->Prop)->Prop
noncomputable abbrev TGs:=List V->St->Hp->(St->Hp->Prop)->Prop
noncomputable def PG(X:Cx)(target:Expr)(t:TG):Prop:=
 ∀(pins:List (Addr×Obj)) (s:Shared) (σ:St) (H:Hp) (v:V) (u:Value) (Q:St->Hp->Prop),Inv X pins σ H s->RelV v u->t v σ H Q->
  wpAny (model X.prog X.w) X.A (assign target X.env u) (fun _ s'=> ∃σ' H',Inv X pins σ' H' s'/\Q σ' H') X.xe s
noncomputable def PGs(X:Cx)(ts:List Expr)(t:TGs):Prop:=
 ∀(pins:List (Addr×Obj)) (s:Shared) (σ:St) (H:Hp) (vs:List V) (us:List Value) (Q:St->Hp->Prop),Inv X pins σ H s->Vals vs us->t vs σ H Q->
  wpAny (model X.prog X.w) X.A (assignInOrder ((assignEach ts X.env).map (·.2)) us) (fun _ s'=> ∃σ' H',Inv X pins σ' H' s'/\Q σ' H') X.xe s
noncomputable abbrev TSet:=V->V->V->Hp->(Hp->Prop)->Prop
noncomputable def PSet(X:Cx)(t:TSet):Prop:=
 ∀(pins:List (Addr×Obj)) (s:Shared) (σ:St) (H:Hp) (o i v:V) (ov iv u:Value) (Q:Hp->Prop),Inv X pins σ H s->RelV o ov->RelV i iv->RelV v u->t o i v H Q->
  wpAny (model X.prog X.w) X.A (setItem ov iv u) (fun _ s'=> ∃H',Inv X pins σ H' s'/\Q H') X.xe s
section
variable{X:Cx}{pos:Pos}
noncomputable def z9d(i:Nat):TG:=fun v σ H Q=>Q (σ.set i (some v)) H
theorem z0u{i:Nat}{x:Str}(hN:X.N.Nodup)(hi:X.N[i]? =some x)(hx:Loc X.env.scope x)(hf:X.fn x=true\/X.env.scope.names.lookup x=some .local:=by first|exact .inl rfl|exact .inr rfl|assumption):PG X (.Name x pos) (z9d i):=by
 intro pins s σ H v u Q I r h
 exact wpAny_assign_Name (z3N I hN hi hx r (fun s' I'=>⟨_,H,I',h⟩) hf)
noncomputable def gNil:TGs:=fun vs σ H Q=>vs=[]/\Q σ H
noncomputable def zhi(t:TG)(u:TGs):TGs:=fun vs σ H Q=> ∃v r,vs=v::r/\t v σ H fun σ' H'=>u r σ' H' Q
theorem zd6:PGs X [] gNil:=by
 intro pins s σ H vs us Q I r h
 obtain⟨e,h⟩:=h
 subst e
 cases r
 exact assignInOrder_nil ⟨σ,H,I,h⟩
theorem zbs{e:Expr}{es:List Expr}{t:TG}{u:TGs}(h1:PG X e t)(h2:PGs X es u)
 (hs:(assignEach (e::es) X.env).map (·.2)=assign e X.env::(assignEach es X.env).map (·.2):=by rfl):PGs X (e::es) (zhi t u):=by
 intro pins s σ H vs us Q I r h
 obtain⟨v,vr,e1,h⟩:=h
 subst e1
 cases r with
 |cons r rr=>
  rw[hs]
  refine assignInOrder_cons (thn (h1 pins s σ H _ _ _ I r h) fun _ s1 ⟨σ1,H1,I1,q1⟩=> ?_)
  exact h2 pins s1 σ1 H1 _ _ Q I1 rr q1
noncomputable def gTup(K:W.Frag)(n:Nat)(t:TGs):TG:=fun v σ H Q=> ∃a xs,v= .ref a/\SqT K H a xs/\xs.length=n/\t xs σ H Q
theorem zeO{es:List Expr}{k:Nat}{t:TGs}{n:Nat}(hc:X.calm=true)(h:PGs X es t)
 (hn:(assignEach es X.env).length=n:=by rfl) (hst:(assignEach es X.env).findIdx? (·.1)=none:=by rfl):PG X (.Tuple es k pos) (gTup X.K n t):=by
 intro pins s σ H v u Q I r hw
 obtain⟨a,xs,e1,hq,hl,hw⟩:=hw
 subst e1
 cases r
 obtain⟨its,rv,ht,hz⟩:=I.tuple hq
 refine assign_Tuple_tuple (I.ok.hd hc) ht (by simp[hn,<-hl,rv.length]) hst fun h' hx=> ?_
 have I1:Inv X pins σ H {s with heap:=h'}:=I.kept (t':=s.toks) fun b o e=>hx b o (Nat.ne_of_lt (Heap.lt_size e)) e
 exact h pins _ σ H xs _ Q I1 (by simpa using rv) hw
noncomputable def gSub(to ti:TE)(t:TSet):TG:=fun v σ H Q=>to σ H fun o H1=>ti σ H1 fun i H2=>t o i v H2 fun H3=>Q σ H3
theorem zcv{o i:Expr}{to ti:TE}{t:TSet}(ho:PE X o to)(hi:PE X i ti)(hs:PSet X t)
 (ha: ∀v,assign (.Subscript o i pos) X.env v=(do
  let ov<-holding [v] (eval o X.env)
  let iv<-holding [v,ov] (eval i X.env)
  standAt pos
  holding [v,ov,iv] (setItem ov iv v)
  release [v,ov,iv] []):=by intro _;rfl):PG X (.Subscript o i pos) (gSub to ti t):=by
 intro pins s σ H v u Q I r h
 rw[ha]
 refine wpAny_bind (wpAny_holding (thn (ho pins s σ H _ I h) fun ov s1 ⟨x,H1,I1,r1,q1⟩=> ?_))
 refine wpAny_bind (wpAny_holding (thn (hi pins s1 σ H1 _ I1 q1) fun iv s2 ⟨y,H2,I2,r2,q2⟩=> ?_))
 refine wpAny_bind (wpAny_standAt (wpAny_bind (wpAny_holding (thn (hs pins s2 σ H2 x y v ov iv u _ I2 r1 r2 r q2) fun _ s3 ⟨H3,I3,q3⟩=> ?_))))
 exact wpAny_release ⟨σ,H3,I3,q3⟩
noncomputable def tAsg(te:TE)(g:TG):TS:=fun D σ H=>te σ H fun x H1=>g x σ H1 D.nx
theorem zcw{tg e:Expr}{te:TE}{g:TG}(he:PE X e te)(hg:PG X tg g)(hs:swapsWithSole [tg] e pos.line X.env=pure false:=by rfl)(hw:swappedStores [tg] e X.env=pure none:=by rfl)
 (h1:(assignEach [tg] X.env).map (·.2)=[assign tg X.env]:=by rfl):PS X (.Assign [tg] e pos) (tAsg te g):=by
 intro pins s σ H D I h
 refine wpAny_Assign_stores (thn (he pins s σ H _ I h) fun v s1 ⟨x,H1,I1,r1,q1⟩=> ?_) hs hw
 rw[h1]
 exact thn (hg pins s1 σ H1 x v _ I1 r1 q1) fun _ s2 q=>q
theorem z7d{i:Nat}{x:Str}{e:Expr}{te:TE}{pos':Pos}(hN:X.N.Nodup)(hi:X.N[i]? =some x)(hx:Loc X.env.scope x)(he:PE X e te)(hs:swapsWith e (some (.Name x pos')) pos.line X.env=pure false:=by rfl)(hf:X.fn x=true\/X.env.scope.names.lookup x=some .local:=by first|exact .inl rfl|exact .inr rfl|assumption):
 PS X (.Assign [.Name x pos'] e pos) (tAsg te (z9d i)):=by
 intro pins s σ H D I h
 refine wpAny_Assign_Name (thn (he pins s σ H _ I h) fun v s1 ⟨y,H1,I1,r1,q1⟩=> ?_) hs
 exact z3N I1 hN hi hx r1 (fun s2 I2=>⟨_,H1,I2,q1⟩) hf
noncomputable def tPar(i j:Nat)(ta:TA):TS:=fun D σ H=>ta σ H fun vs H1=> ∃v w,vs=[v,w]/\D.nx ((σ.set i (some v)).set j (some w)) H1
theorem zeP{i j:Nat}{x y:Str}{a b:Expr}{ta:TA}{px py pt:Pos}{kt k2 pt2}(hc:X.calm=true)(hN:X.N.Nodup)(hi:X.N[i]? =some x)(hj:X.N[j]? =some y)(hij:i≠j)
 (hx:X.env.scope.names.lookup x=some .local) (hy:X.env.scope.names.lookup y=some .local) (ha:PA X [a,b] ta)
 (hw:swappedStores [.Tuple [.Name x px, .Name y py] kt pt] (.Tuple [a,b] k2 pt2) X.env=pure (some [x,y]))
 (hs:swapsWithSole [.Tuple [.Name x px, .Name y py] kt pt] (.Tuple [a,b] k2 pt2) pos.line X.env=pure false:=by rfl):
 PS X (.Assign [.Tuple [.Name x px, .Name y py] kt pt] (.Tuple [a,b] k2 pt2) pos) (tPar i j ta):=by
 intro pins s σ H D I h
 rw[exec_Assign_arm]
 refine wpAny_bind (wpAny_standAt ?_)
 rw[hs]
 refine wpAny_bind (wpAny_pure ?_)
 rw[if_neg (by decide)]
 refine wpAny_bind (Tuple_ (thn (ha _ pins s σ H _ I h) fun us s1 ⟨vs,H1,I1,r1,q1⟩=> ?_))
 obtain⟨v,w,e1,q1⟩:=q1
 subst e1
 obtain⟨u1,u2,rfl,rv,rw'⟩: ∃u1 u2,us=[u1,u2]/\RelV v u1/\RelV w u2:=by
  cases r1 with
  |cons p q=>
   cases q with
   |cons p' q'=>
    cases q'
    exact⟨_,_,rfl,p,p'⟩
 refine wpAny_newObj_type ?_ (by show 2<=sizeLine;decide)
 have I2:Inv X pins σ H1 {s1 with heap:=s1.heap.push {cls:= .type "tuple",data:= .seq [u1,u2].toArray}}:=I1.kept (t':=s1.toks) fun b o e=>Heap.get?_push_of_some _ e
 rw[hw]
 refine wpAny_bind (wpAny_pure ?_)
 show wpAny (model X.prog X.w) X.A (do rule "assign.swapped-stores";let items<-unpackItems (.ref s1.heap.objs.size) 2 none;assignInOrder [fun v=>bindName X.env y v,fun v=>bindName X.env x v] items.reverse;pure Flow.next) _ _ _
 refine wpAny_bind (wpAny_rule (wpAny_bind (unpackItems_tuple (items:= #[u1,u2]) (I.ok.hd hc) (IsTup.new s1.heap _) fun h' hx'=> ?_)))
 have I3:=I2.kept (h':=h') (t':=s1.toks) fun b o e=>hx' b o (Nat.ne_of_lt (Heap.lt_size e)) e
 show wpAny _ _ (assignInOrder [fun v=>bindName X.env y v,fun v=>bindName X.env x v] [u2,u1]>>=fun _=>pure Flow.next) _ _ _
 refine wpAny_bind (assignInOrder_cons (wpAny_bindName (z3N I3 hN hj (.inl hy) rw' (fun s2 I4=> ?_) (.inr hy))))
 refine assignInOrder_cons (wpAny_bindName (z3N I4 hN hi (.inl hx) rv (fun s3 I5=>assignInOrder_nil (wpAny_pure ?_)) (.inr hx)))
 rw[List.set_comm _ _ (Ne.symm hij)] at I5
 exact⟨_,H1,I5,q1⟩
end
structure It where
 go:Nat->Hp->Prop
 yld:Nat->Hp->V->Hp->Prop
 stop:Nat->Hp->Prop
noncomputable def FpOk(X:Cx)(pins:List (Addr×Obj))(H:Hp)(b:Addr):Prop:=
 H b=none/\b≠X.env.locals/\b∉X.fs/\(b∈X.ex\/X.s₀.heap.objs.size<=b)/\(∀x c,X.env.cells.lookup x=some c->c≠b)/\∀p∈X.pn++pins,p.1≠b
theorem Inv.fpOk{X:Cx}{pins:List (Addr×Obj)}{σ:St}{H H':Hp}{s:Shared}{b:Addr}(I:Inv X pins σ H s)(hb:s.heap.objs.size<=b)(hn:H' b=none):FpOk X pins H' b:=by
 refine⟨hn,Nat.ne_of_gt (Nat.lt_of_lt_of_le I.lt hb),I.nofs hb, .inr (Nat.le_trans I.sz hb),fun x c e z=> ?_,fun p hp z=> ?_⟩
 ·obtain⟨v,q⟩:=I.cell x c e
  exact absurd (Nat.lt_of_lt_of_le q.lt (by rw[z];exact hb)) (Nat.lt_irrefl _)
 ·exact absurd (Nat.lt_of_lt_of_le (Heap.lt_size (I.pin p hp).1) (by rw[z];exact hb)) (Nat.lt_irrefl _)
structure Turn(P:Program)(w:World)(K:W.Frag)(tg:Expr)(J:It)(fp:List Addr)(it:Addr)(tn:Nat->Heap->Prop):Prop where
 mem:it∈fp
 obj: ∀i h,tn i h->∀b∈fp,∃o,h.get? b=some o/\∀v,o.data≠ .cell v
 keep: ∀i h h',tn i h->(∀b∈fp,∀o,h.get? b=some o->h'.get? b=some o)->tn i h'
 item: ∀(X:Cx),X.prog=P->X.w=w->X.K=K->X.calm=true->∀(i:Nat) (pins:List (Addr×Obj)) (s:Shared) (σ:St) (H:Hp) (E:Value->Shared->Prop),Inv X pins σ H s->(∀b∈fp,FpOk X pins H b)->tn i s.heap->J.go i H->
  wpAny (model P w) X.A (pyNext (.ref it)) (fun r s1=> ∃u,r=some u/\
   wpAny (model P w) X.A (letOwnedTupleGo tg (.ref it) u) (fun _ s2=> ∃x H',Inv X pins σ H' s2/\RelV x u/\J.yld i H x H'/\tn (i+1) s2.heap/\∀b∈fp,H' b=none) E s1) E s
 done: ∀(X:Cx),X.prog=P->X.w=w->X.K=K->X.calm=true->∀(i:Nat) (pins:List (Addr×Obj)) (s:Shared) (σ:St) (H:Hp) (E:Value->Shared->Prop),Inv X pins σ H s->(∀b∈fp,FpOk X pins H b)->tn i s.heap->J.stop i H->
  wpAny (model P w) X.A (pyNext (.ref it)) (fun r s1=>r=none/\Inv X pins σ H s1) E s
 self: ∀(A:Around) (i:Nat) (s:Shared) (Q:Value->Shared->Prop) (E:Value->Shared->Prop),tn i s.heap->Q (.ref it) s->wpAny (model P w) A (pyIter (.ref it)) Q E s
noncomputable abbrev TI:=St->Hp->(It->Hp->Prop)->Prop
noncomputable def PIE(X:Cx)(pins:List (Addr×Obj))(σ:St)(tg:Expr)(R:It->Hp->Prop)(itv:Value)(s2:Shared):Prop:=
 ∃(it:Addr) (fp:List Addr) (tn:Nat->Heap->Prop) (J:It) (H':Hp),itv= .ref it/\Inv X pins σ H' s2/\Turn X.prog X.w X.K tg J fp it tn/\tn 0 s2.heap/\(∀b∈fp,FpOk X pins H' b)/\R J H'
noncomputable def PI(X:Cx)(tg iter:Expr)(wi:TI):Prop:=
 ∀(pins:List (Addr×Obj)) (s:Shared) (σ:St) (H:Hp) (R:It->Hp->Prop),Inv X pins σ H s->wi σ H R->
  wpAny (model X.prog X.w) X.A (eval iter X.env) (fun v s1=>wpAny (model X.prog X.w) X.A (pyIter v) (PIE X pins σ tg R) X.xe s1) X.xe s
theorem zd7{M:Model}{A:Around}{E:Value->Shared->Prop}{s:Shared}{tg:Expr}{it:Addr}{u:Value}{o:Obj}{n:String}{vs:Array Value}{Q:Unit->Shared->Prop}(ho:s.heap.get? it=some o)(hc:o.cls= .type n)(hd:o.data= .fields vs)
 (hn:["enumerate", "zip", "dict_itemiterator", "dict_reverseitemiterator", "odict_iterator", "itertools.zip_longest", "itertools.pairwise"].contains n=false) (hQ:Q () s):wpAny M A (letOwnedTupleGo tg (.ref it) u) Q E s:=by
 unfold letOwnedTupleGo
 cases tg<;>first
  |exact wpAny_pure hQ
  |(cases u<;>first
   |exact wpAny_pure hQ
   |(refine wpAny_bind (wpAny_load ho ?_)
     rw[hc,hd]
     show wpAny M A (if(["enumerate", "zip", "dict_itemiterator", "dict_reverseitemiterator", "odict_iterator", "itertools.zip_longest", "itertools.pairwise"].contains n&&vs[0]? ==some (rawInt _))=true then _ else _) Q E s
     rw[if_neg (by intro h;rw[hn,Bool.false_and] at h;cases h)]
     exact wpAny_pure hQ))
noncomputable def Itl(K:W.Frag)(a:Addr):It:=
 ⟨fun i H=> ∃xs x,SqL K H a xs/\xs[i]? =some x,fun i H x H'=>H'=H/\∀xs,SqL K H a xs->xs[i]? =some x,fun i H=> ∃xs,SqL K H a xs/\xs.length<=i⟩
noncomputable def Itt(K:W.Frag)(a:Addr):It:=
 ⟨fun i H=> ∃xs x,SqT K H a xs/\xs[i]? =some x,fun i H x H'=>H'=H/\∀xs,SqT K H a xs->xs[i]? =some x,fun i H=> ∃xs,SqT K H a xs/\xs.length<=i⟩
noncomputable def Itr(lo:Int)(n:Nat):It:=⟨fun i _=>i<n,fun i H x H'=>H'=H/\x= .int (lo+i),fun i _=>n<=i⟩
theorem z9P{P:Program}{w:World}{K:W.Frag}{tg:Expr}(a it:Addr):Turn P w K tg (Itl K a) [it] it (fun i h=>h.IsListIter it a i) where
 mem:=by simp
 obj:=fun i h st b hb=>by
  have e:b=it:=by simpa using hb
  subst e
  obtain⟨o,e,c,d⟩:=st
  exact⟨o,e,fun v z=>by rw[d] at z;cases z⟩
 keep:=fun i h h' st k=>st.at fun o e=>k it (by simp) o e
 item:=by
  intro X hP hw hK hc i pins s σ H E I hf st hg
  subst hP hw hK
  obtain⟨xs,x,hq,hx⟩:=hg
  obtain⟨its,rv,p,hz⟩:=I.list hq
  obtain⟨u,hu,ru⟩:=rv.get hx
  obtain⟨f0,f1,f2,f3,f4,f5⟩:=hf it (by simp)
  refine wpAny_pyNext_list_item st p.isList (x:=u) (by simpa using hu) fun h' st' sb=> ?_
  have I1:Inv X pins σ H {s with heap:=h'}:=I.turned (t':=s.toks) (fun b o hb e=>(sb.2 b hb).trans e) f0 f1 f3 f4 f5
  obtain⟨o,e,c,d⟩:=id st'
  exact⟨u,rfl,zd7 (s:={s with heap:=h'}) e c d (by decide) ⟨x,H,I1,ru,⟨rfl,fun ys hy=>by rw[I.list_inj hy hq];exact hx⟩,st',fun b hb=>(hf b hb).1⟩⟩
 done:=by
  intro X hP hw hK hc i pins s σ H E I hf st hg
  subst hP hw hK
  obtain⟨xs,hq,hx⟩:=hg
  obtain⟨its,rv,p,hz⟩:=I.list hq
  obtain⟨f0,f1,f2,f3,f4,f5⟩:=hf it (by simp)
  have hl:=rv.length
  exact wpAny_pyNext_list_end (I.ok.hd hc) st p.isList (by simp;lia) fun h' eb=>⟨rfl,I.turned (t':=s.toks) (fun b o hb e=>eb b o hb e) f0 f1 f3 f4 f5⟩
 self:=fun _ _ _ _ _ st h=>wpAny_pyIter_listiter st h
theorem z9e{P:Program}{w:World}{K:W.Frag}{tg:Expr}(a it:Addr):Turn P w K tg (Itt K a) [it] it (fun i h=>h.IsTupleIter it a i) where
 mem:=by simp
 obj:=fun i h st b hb=>by
  have e:b=it:=by simpa using hb
  subst e
  obtain⟨o,e,c,d⟩:=st
  exact⟨o,e,fun v z=>by rw[d] at z;cases z⟩
 keep:=fun i h h' st k=>st.at fun o e=>k it (by simp) o e
 item:=by
  intro X hP hw hK hc i pins s σ H E I hf st hg
  subst hP hw hK
  obtain⟨xs,x,hq,hx⟩:=hg
  obtain⟨its,rv,p,hz⟩:=I.tuple hq
  obtain⟨u,hu,ru⟩:=rv.get hx
  obtain⟨f0,f1,f2,f3,f4,f5⟩:=hf it (by simp)
  refine wpAny_pyNext_tuple_item st (show s.heap.IsTuple a its.toArray from p) (x:=u) (by simpa using hu) fun h' st' sb=> ?_
  have I1:Inv X pins σ H {s with heap:=h'}:=I.turned (t':=s.toks) (fun b o hb e=>(sb.2 b hb).trans e) f0 f1 f3 f4 f5
  obtain⟨o,e,c,d⟩:=id st'
  exact⟨u,rfl,zd7 (s:={s with heap:=h'}) e c d (by decide) ⟨x,H,I1,ru,⟨rfl,fun ys hy=>by rw[I.tuple_inj hy hq];exact hx⟩,st',fun b hb=>(hf b hb).1⟩⟩
 done:=by
  intro X hP hw hK hc i pins s σ H E I hf st hg
  subst hP hw hK
  obtain⟨xs,hq,hx⟩:=hg
  obtain⟨its,rv,p,hz⟩:=I.tuple hq
  obtain⟨f0,f1,f2,f3,f4,f5⟩:=hf it (by simp)
  have hl:=rv.length
  exact wpAny_pyNext_tuple_end (I.ok.hd hc) st (show s.heap.IsTuple a its.toArray from p) (by simp;lia) fun h' eb=>⟨rfl,I.turned (t':=s.toks) (fun b o hb e=>eb b o hb e) f0 f1 f3 f4 f5⟩
 self:=fun _ _ _ _ _ st h=>wpAny_pyIter_tupleiter st h
theorem z9f{P:Program}{w:World}{K:W.Frag}{tg:Expr}(it:Addr)(lo:Int)(n:Nat):Turn P w K tg (Itr lo n) [it] it (fun i h=>IsRangeIter h it (lo+(i:Nat)*1) ((n:Int) -(i:Nat)) 1) where
 mem:=by simp
 obj:=fun i h st b hb=>by
  have e:b=it:=by simpa using hb
  subst e
  exact⟨_,st,fun v z=>by
   have z':Data.fields _=Data.cell v:=z
   cases z'⟩
 keep:=fun i h h' st k=>k it (by simp) _ st
 item:=by
  intro X hP hw hK hc i pins s σ H E I hf st hg
  subst hP hw hK
  obtain⟨f0,f1,f2,f3,f4,f5⟩:=hf it (by simp)
  have W:=Walks.range (prog:=X.prog) (w:=X.w) (I.ok.hd hc) it lo 1 n
  refine W.item i s _ _ hg st fun v h' tk hv st' kk=> ?_
  obtain⟨t,rfl⟩:=hv
  have I1:Inv X pins σ H {s with heap:=h',toks:=tk}:=I.turned (fun b o hb e=>kk b o (by simpa using hb) e) f0 f1 f3 f4 f5
  refine⟨_,rfl,zd7 (s:={s with heap:=h',toks:=tk}) (n:= "range_iterator") st' rfl rfl (by decide) ⟨.int (lo+i),H,I1,⟨t, ?_⟩,⟨rfl,rfl⟩,st',fun b hb=>(hf b hb).1⟩⟩
  rw[Int.mul_one]
 done:=by
  intro X hP hw hK hc i pins s σ H E I hf st hg
  subst hP hw hK
  obtain⟨f0,f1,f2,f3,f4,f5⟩:=hf it (by simp)
  exact wpAny_pyNext_range_end (I.ok.hd hc) st (by have:n<=i:=hg;lia) fun h' eb=>⟨rfl,I.turned (t':=s.toks) (fun b o hb e=>eb b o hb e) f0 f1 f3 f4 f5⟩
 self:=fun _ _ _ _ _ st h=>wpAny_pyIter_rangeiter st h
section
variable{X:Cx}{tg:Expr}
theorem z8v{pins:List (Addr×Obj)}{σ:St}{H:Hp}{s:Shared}{R:It->Hp->Prop}{E:Value->Shared->Prop}{lo hi:Int}{t u v:Tok}{tk:Nat}(I:Inv X pins σ H s)(h1: -(2^62)<=lo)(h2:lo<2^62)(h3: -(2^62)<=hi)(h4:hi<2^62)
 (q:R (Itr lo (hi -lo).toNat) H):wpAny (model X.prog X.w) X.A (pyIter (.ref s.heap.objs.size)) (PIE X pins σ tg R) E {s with heap:=s.heap.push {cls:= .type "range",data:= .fields #[.int lo t, .int hi u, .int 1 v]},toks:=tk}:=by
 refine wpAny_pyIter_range (IsRange.new ..) (small_one h1 h2 h3 h4) ?_
 have I1:Inv X pins σ H {s with heap:=s.heap.push {cls:= .type "range",data:= .fields #[.int lo t, .int hi u, .int 1 v]},toks:=tk}:=I.kept fun b o e=>Heap.get?_push_of_some _ e
 refine⟨(s.heap.push {cls:= .type "range",data:= .fields #[.int lo t, .int hi u, .int 1 v]}).objs.size,[(s.heap.push {cls:= .type "range",data:= .fields #[.int lo t, .int hi u, .int 1 v]}).objs.size],_,_,H,rfl,
  I1.kept (t':=tk) fun b o e=>Heap.get?_push_of_some _ e,z9f _ lo (hi -lo).toNat, ?_,fun b hb=> ?_,q⟩
 ·have e1:lo+((0:Nat):Int)*1=lo:=by simp
  have e2:(((hi -lo).toNat:Nat):Int) -((0:Nat):Int)=Builtin.Range.rangeSize lo hi 1:=by rw[rangeSize_one];split<;>lia
  show IsRangeIter _ _ (lo+((0:Nat):Int)*1) ((((hi -lo).toNat:Nat):Int) -((0:Nat):Int)) 1
  rw[e1,e2]
  exact Heap.get?_push_size _ rfl
 ·have e:b=(s.heap.push {cls:= .type "range",data:= .fields #[.int lo t, .int hi u, .int 1 v]}).objs.size:=by simpa using hb
  subst e
  exact I1.fpOk (Nat.le_refl _) (I1.hok.fresh (Nat.le_refl _))
noncomputable def zhj(ta:TA):TI:=fun σ H R=>ta σ H fun vs H1=> ∃j:Int,vs=[.int j]/\-(2^62)<=j/\j<2^62/\R (Itr 0 j.toNat) H1
noncomputable def zhk(ta:TA):TI:=fun σ H R=>ta σ H fun vs H1=> ∃i j:Int,vs=[.int i, .int j]/\(-(2^62)<=i/\i<2^62/\-(2^62)<=j/\j<2^62)/\R (Itr i (j -i).toNat) H1
theorem z9Q{a:Expr}{ta:TA}{p pos:Pos}(hg:Gl X "range")(hm:X.mg "range" =none)(ha:PA X [a] ta)(hs:starEach [a] X.env=[(false,eval a X.env)]:=by rfl):PI X tg (.Call (.Name "range" p) [a] [] pos) (zhj ta):=by
 intro pins s σ H R I h
 refine Call_ (z6l I hg hm boot_range (PyProof.Rows.callWith_type1 (thn (ha pos pins s σ H _ I h) fun us s1 ⟨vs,H1,I1,r1,q1⟩=> ?_) hs rfl))
 obtain⟨j,e,q1,q2,q⟩:=q1
 subst e
 cases r1 with
 |cons r rr=>
  cases rr
  obtain⟨t,rfl⟩:=r
  exact call_range_1 (z8v I1 (by lia) (by lia) q1 q2 (by simpa using q))
theorem z9R{a b:Expr}{ta:TA}{p pos:Pos}(hg:Gl X "range")(hm:X.mg "range" =none)(ha:PA X [a,b] ta)(hs:starEach [a,b] X.env=[(false,eval a X.env),(false,eval b X.env)]:=by rfl)(hs2:starEach [b] X.env=[(false,eval b X.env)]:=by rfl):
 PI X tg (.Call (.Name "range" p) [a,b] [] pos) (zhk ta):=by
 intro pins s σ H R I h
 refine Call_ (z6l I hg hm boot_range (PyProof.Rows.callWith_type1 (thn (ha pos pins s σ H _ I h) fun us s1 ⟨vs,H1,I1,r1,q1⟩=> ?_) (by rw[hs,hs2]) (by rw[hs2];rfl)))
 obtain⟨i,j,e,⟨q1,q2,q3,q4⟩,q⟩:=q1
 subst e
 cases r1 with
 |cons r rr=>
  cases rr with
  |cons r' rr=>
   cases rr
   obtain⟨t,rfl⟩:=r
   obtain⟨t',rfl⟩:=r'
   exact call_range_2 (z8v I1 q1 q2 q3 q4 q)
noncomputable def tFor(wi:TI)(g:TG)(tb:TS):TS:=fun D σ H=>wi σ H fun J H1=> ∃W:Nat->Nat->St->Hp->Prop,(∃m,W 0 m σ H1)/\∀i m σ H,W i m σ H->
 (J.stop i H/\D.nx σ H)\/(J.go i H/\∃N:St->Hp->Prop,(∀σ' H',N σ' H'->∃m',m'<m/\W (i+1) m' σ' H')/\∀x H',J.yld i H x H'->g x σ H' fun σ2 H2=>tb {D with nx:=N,ct:=N,bk:=D.nx} σ2 H2)
noncomputable def z8w(fp:List Addr)(h:Heap):List (Addr×Obj):=fp.filterMap fun b=>(h.get? b).map fun o=>(b,o)
theorem z0D{fp:List Addr}{h:Heap}{b:Addr}{o:Obj}(hb:b∈fp)(e:h.get? b=some o):(b,o)∈z8w fp h:=List.mem_filterMap.mpr ⟨b,hb,by rw[e];rfl⟩
theorem z9S{fp:List Addr}{h:Heap}{p:Addr×Obj}(hp:p∈z8w fp h):p.1∈fp/\h.get? p.1=some p.2:=by
 obtain⟨b,hb,e⟩:=List.mem_filterMap.mp hp
 cases q:h.get? b with
 |none=>rw[q] at e;cases e
 |some o=>
  rw[q] at e
  have e':(b,o)=p:=Option.some.inj e
  subst e'
  exact⟨hb,q⟩
theorem Inv.pinned{pins:List (Addr×Obj)}{σ:St}{H:Hp}{s:Shared}{fp:List Addr}(I:Inv X pins σ H s)(hf: ∀b∈fp,FpOk X pins H b)(ho: ∀b∈fp,∃o,s.heap.get? b=some o/\∀v,o.data≠ .cell v):Inv X (pins++z8w fp s.heap) σ H s:=
 I.pins_of fun p hp=>(List.mem_append.mp hp).elim (fun z=>I.pin p (List.mem_append_right _ z)) fun z=>by
  obtain⟨hb,e⟩:=z9S z
  obtain⟨f0,f1,f2,_⟩:=hf p.1 hb
  obtain⟨o,e',d⟩:=ho p.1 hb
  rw[e] at e';cases e'
  exact⟨e,f0,f1,f2,d⟩
theorem Inv.unpinned{pins pl:List (Addr×Obj)}{σ:St}{H:Hp}{s:Shared}(I:Inv X (pins++pl) σ H s):Inv X pins σ H s:=I.pins_of fun p hp=>I.pin p (List.mem_append_right _ (List.mem_append_left _ hp))
theorem zeQ{iter:Expr}{body:List Stmt}{wi:TI}{g:TG}{tb:TS}{pos:Pos}(hp:PassesOwn (model X.prog X.w) X.A X.env X.xe)(hc:X.calm=true)(hi:PI X tg iter wi)(hg:PG X tg g)(hb:PSs X body tb)
 (hs: ∀x,foldedSetIterable iter X.env x=pure x:=by intro _;rfl):PS X (.For tg iter body [] pos) (tFor wi g tb):=by
 intro pins s σ H D I h
 refine wpAny_For (thn (hi pins s σ H _ I h) fun v s1 h1=>thn h1 fun itv s2 h2=> ?_) hs
 obtain⟨it,fp,tn,J,H2,e,I2,T,st2,f2,W,⟨m0,w0⟩,turn⟩:=h2
 subst e
 have stat: ∀{H':Hp},(∀b∈fp,H' b=none)->∀b∈fp,FpOk X pins H' b:=fun hn b hb=>⟨hn b hb,(f2 b hb).2⟩
 refine codeAny_forLoop_any (fun n s'=> ∃i σ' H',Inv X pins σ' H' s'/\tn i s'.heap/\(∀b∈fp,H' b=none)/\W i n σ' H') ?_ m0 ⟨0,σ,H2,I2,st2,fun b hb=>(f2 b hb).1,w0⟩
 rintro n s3 ⟨i,σ3,H3,I3,st3,fr3,w3⟩
 rcases turn i n σ3 H3 w3 with⟨stop,qn⟩|⟨go,N,hN,step⟩
 ·refine wpAny_passesOwn hp (thn (T.done X rfl rfl rfl hc i pins s3 σ3 H3 X.xe I3 (stat fr3) st3 stop) fun r s4 ⟨hr,I4⟩=> ?_)
  subst hr
  exact wpAny_execs_nil ⟨σ3,H3,I4,qn⟩
 ·refine wpAny_passesOwn hp (thn (T.item X rfl rfl rfl hc i pins s3 σ3 H3 X.xe I3 (stat fr3) st3 go) fun r s4 ⟨u,hr,h4⟩=> ?_)
  subst hr
  refine wpAny_passesOwn hp (thn h4 fun _ s5 ⟨x,H5,I5,r5,y5,st5,fr5⟩=> ?_)
  have I5':=I5.pinned (stat fr5) (T.obj _ _ st5)
  refine wpAny_passesOwn hp (thn (hg _ s5 σ3 H5 x u _ I5' r5 (step x H5 y5)) fun _ s6 ⟨σ6,H6,I6,q6⟩=> ?_)
  refine wpAny_passesOwn hp (thn (hb _ s6 σ6 H6 _ I6 q6) fun f s7 q7=> ?_)
  have again: ∀{σ7:St} {H7:Hp},Inv X (pins++z8w fp s5.heap) σ7 H7 s7->N σ7 H7->∃m,m<n/\∃i σ' H',Inv X pins σ' H' s7/\tn i s7.heap/\(∀b∈fp,H' b=none)/\W i m σ' H':=fun{σ7 H7} I7 n7=>by
   obtain⟨m',hm,w7⟩:=hN σ7 H7 n7
   refine⟨m',hm,i+1,σ7,H7,I7.unpinned,T.keep _ _ _ st5 fun b hb o e=>(I7.pin (b,o) (List.mem_append_right _ (List.mem_append_right _ (z0D hb e)))).1,fun b hb=> ?_,w7⟩
   obtain⟨o,e,d⟩:=T.obj _ _ st5 b hb
   exact(I7.pin (b,o) (List.mem_append_right _ (List.mem_append_right _ (z0D hb e)))).2.1
  cases f with
  |next=>obtain⟨σ7,H7,I7,n7⟩:=q7;exact again I7 n7
  |cont=>obtain⟨σ7,H7,I7,n7⟩:=q7;exact again I7 n7
  |brk=>obtain⟨σ7,H7,I7,q7⟩:=q7;exact⟨σ7,H7,I7.unpinned,q7⟩
  |ret v=>obtain⟨x7,σ7,H7,I7,r7,q7⟩:=q7;exact⟨x7,σ7,H7,I7.unpinned,r7,q7⟩
end
noncomputable abbrev R2:=V->V->Hp->VK->Prop
noncomputable def OpR(X:Cx)(f:Value->Value->Sem Value)(r:R2):Prop:=
 ∀(pins:List (Addr×Obj)) (s:Shared) (σ:St) (H:Hp) (x y:V) (v u:Value) (Q:VK),Inv X pins σ H s->RelV x v->RelV y u->r x y H Q->
  wpAny (model X.prog X.w) X.A (f v u) (EP X pins σ Q) X.xe s
noncomputable def UnR(X:Cx)(f:Value->Sem Value)(r:V->Hp->VK->Prop):Prop:=
 ∀(pins:List (Addr×Obj)) (s:Shared) (σ:St) (H:Hp) (x:V) (v:Value) (Q:VK),Inv X pins σ H s->RelV x v->r x H Q->
  wpAny (model X.prog X.w) X.A (f v) (EP X pins σ Q) X.xe s
noncomputable def CallR(X:Cx)(f:Value)(r:List V->Hp->VK->Prop):Prop:=
 ∀(pins:List (Addr×Obj)) (s:Shared) (σ:St) (H:Hp) (xs:List V) (us:List Value) (Q:VK),Inv X pins σ H s->Vals xs us->r xs H Q->
  wpAny (model X.prog X.w) X.A (call f us) (EP X pins σ Q) X.xe s
noncomputable def TruR(X:Cx)(r:V->Hp->(Bool->Hp->Prop)->Prop):Prop:=
 ∀(pins:List (Addr×Obj)) (s:Shared) (σ:St) (H:Hp) (x:V) (v:Value) (Q:Bool->Hp->Prop),Inv X pins σ H s->RelV x v->r x H Q->
  wpAny (model X.prog X.w) X.A (truthy v) (TP X pins σ Q) X.xe s
noncomputable def tOp(r:R2)(ta tb:TE):TE:=fun σ H Q=>ta σ H fun x H1=>tb σ H1 fun y H2=>r x y H2 Q
noncomputable def tUn(r:V->Hp->VK->Prop)(ta:TE):TE:=fun σ H Q=>ta σ H fun x H1=>r x H1 Q
noncomputable def rI(C:Int->Int->Prop)(g:Int->Int->V):R2:=fun x y H Q=> ∃i j,x= .int i/\y= .int j/\C i j/\Q (g i j) H
noncomputable def rI0(g:Int->Int->V):R2:=fun x y H Q=> ∃i j,x= .int i/\y= .int j/\Q (g i j) H
noncomputable def rU(g:Int->V):V->Hp->VK->Prop:=fun x H Q=> ∃i,x= .int i/\Q (g i) H
section
variable{X:Cx}{a b c:Expr}{ta tb tc:TE}{pos:Pos}
theorem binT(ha:PE X a ta)(hb:PE X b tb){pins:List (Addr×Obj)}{s:Shared}{σ:St}{H:Hp}{R:V->V->Hp->Prop}(I:Inv X pins σ H s)
 (h:ta σ H fun x H1=>tb σ H1 fun y H2=>R x y H2) {Q:Value->Shared->Prop} {f:Value->Value->Sem Value}
 (hf: ∀v u s2 x y H2,Inv X pins σ H2 s2->RelV x v->RelV y u->R x y H2->wpAny (model X.prog X.w) X.A (f v u) Q X.xe s2):
 wpAny (model X.prog X.w) X.A (eval a X.env) (fun v s₁=>wpAny (model X.prog X.w) X.A (eval b X.env) (fun u s₂=>wpAny (model X.prog X.w) X.A (f v u) Q X.xe s₂) X.xe s₁) X.xe s:=by
 refine thn (ha pins s σ H _ I h) fun v s1 ⟨x,H1,I1,r1,q1⟩=> ?_
 refine thn (hb pins s1 σ H1 _ I1 q1) fun u s2 ⟨y,H2,I2,r2,q2⟩=> ?_
 exact hf v u s2 x y H2 I2 r1 r2 q2
theorem zhl{op:Operator}{r:R2}(ho:OpR X (binaryOp op) r)(ha:PE X a ta)(hb:PE X b tb):PE X (.BinOp a op b pos) (tOp r ta tb):=by
 intro pins s σ H Q I h
 exact wpAny_BinOp (binT ha hb I h fun v u s2 x y H2 I2 rx ry q=>ho pins s2 σ H2 x y v u Q I2 rx ry q)
theorem zhm{op:UnaryOp}{r:V->Hp->VK->Prop}(ho:UnR X (unaryOp op) r)(ha:PE X a ta):PE X (.UnaryOp op a pos) (tUn r ta):=by
 intro pins s σ H Q I h
 exact UnaryOp_ (thn (ha pins s σ H _ I h) fun v s1 ⟨x,H1,I1,r1,q1⟩=>ho pins s1 σ H1 x v Q I1 r1 q1)
theorem opI{f:Value->Value->Sem Value}{C:Int->Int->Prop}{g:Int->Int->Int}
 (rule: ∀(i j:Int) (t u:Tok) (s:Shared) (Q:Value->Shared->Prop) (E:Value->Shared->Prop),C i j->Q (.int (g i j) s.toks) {s with toks:=s.toks+1}->wpAny (model X.prog X.w) X.A (f (.int i t) (.int j u)) Q E s):
 OpR X f (rI C fun i j=> .int (g i j)):=by
 intro pins s σ H x y v u Q I rx ry h
 obtain⟨i,j,rfl,rfl,hc,q⟩:=h
 obtain⟨t,rfl⟩:=rx
 obtain⟨t',rfl⟩:=ry
 exact rule i j t t' s _ _ hc ⟨.int (g i j),H,I.tok _,⟨_,rfl⟩,q⟩
theorem opI0{f:Value->Value->Sem Value}{g:Int->Int->Int}
 (rule: ∀(i j:Int) (t u:Tok) (s:Shared) (Q:Value->Shared->Prop) (E:Value->Shared->Prop),Q (.int (g i j) s.toks) {s with toks:=s.toks+1}->wpAny (model X.prog X.w) X.A (f (.int i t) (.int j u)) Q E s):
 OpR X f (rI0 fun i j=> .int (g i j)):=by
 intro pins s σ H x y v u Q I rx ry h
 obtain⟨i,j,rfl,rfl,q⟩:=h
 obtain⟨t,rfl⟩:=rx
 obtain⟨t',rfl⟩:=ry
 exact rule i j t t' s _ _ ⟨.int (g i j),H,I.tok _,⟨_,rfl⟩,q⟩
theorem opB0{f:Value->Value->Sem Value}{g:Int->Int->Bool}
 (rule: ∀(i j:Int) (t u:Tok) (s:Shared) (Q:Value->Shared->Prop) (E:Value->Shared->Prop),Q (.bool (g i j)) s->wpAny (model X.prog X.w) X.A (f (.int i t) (.int j u)) Q E s):
 OpR X f (rI0 fun i j=> .bl (g i j)):=by
 intro pins s σ H x y v u Q I rx ry h
 obtain⟨i,j,rfl,rfl,q⟩:=h
 obtain⟨t,rfl⟩:=rx
 obtain⟨t',rfl⟩:=ry
 exact rule i j t t' s _ _ ⟨.bl (g i j),H,I,rfl,q⟩
noncomputable def CDiv(i j:Int):Prop:=0<j/\j<2^200
theorem zhn{x j:Int}(h1:0<j)(h2:j<2^200):Builtin.divisionGoesByPylong x j=false:=by
 refine PyProof.noPylong_of_log2 ?_
 have h3:j.natAbs.log2<200:=(Nat.log2_lt (by lia)).mpr (by lia)
 lia
noncomputable def CPow(i j:Int):Prop:=0<=j/\j<=1000000/\i.natAbs<2^64
noncomputable def CMul(i j:Int):Prop:=(-(2^64)<i/\i<2^64)\/(-(2^64)<j/\j<2^64)
theorem CMul.ok{i j:Int}(h:CMul i j):IntMulOk i j:=by
 rcases h with⟨h1,h2⟩|⟨h1,h2⟩
 ·exact .of_left (intBits_le_64 h1 h2)
 ·exact .of_right (intBits_le_64 h1 h2)
theorem zeR:OpR X (binaryOp .Add) (rI0 fun i j=> .int (i+j)):=opI0 fun _ _ _ _ _ _ _ q=>add_int q
theorem zeS:OpR X (binaryOp .Sub) (rI0 fun i j=> .int (i -j)):=opI0 fun _ _ _ _ _ _ _ q=>sub_int q
theorem zeT:OpR X (binaryOp .Mult) (rI CMul fun i j=> .int (i*j)):=opI fun _ _ _ _ _ _ _ hc q=>mul_int q hc.ok
theorem zd8:OpR X (binaryOp .FloorDiv) (rI CDiv fun i j=> .int (i/j)):=opI fun i j _ _ _ _ _ hc q=>by
 have h1:(0:Int)<j:=hc.1
 have h2:j<2^200:=hc.2
 exact floordiv_int (by lia) (by rw[Int.fdiv_eq_ediv_of_nonneg i (by lia)];exact q) (.inl (zhn h1 h2))
theorem zeU:OpR X (binaryOp .Mod) (rI (fun _ j=>0<j) fun i j=> .int (i %j)):=opI fun i j _ _ _ _ _ hc q=>by
 have h1:(0:Int)<j:=hc
 exact mod_int' (by lia) (by rw[Int.fmod_eq_emod_of_nonneg i (by lia)];exact q)
theorem zeV:OpR X (binaryOp .Pow) (rI CPow fun i j=> .int (i^j.toNat)):=opI fun _ _ _ _ _ _ _ hc q=>pow_int_small hc.1 hc.2.1 hc.2.2 q
theorem unI{f:Value->Sem Value}{g:Int->Int}
 (rule: ∀(i:Int) (t:Tok) (s:Shared) (Q:Value->Shared->Prop) (E:Value->Shared->Prop),Q (.int (g i) s.toks) {s with toks:=s.toks+1}->wpAny (model X.prog X.w) X.A (f (.int i t)) Q E s):
 UnR X f (rU fun i=> .int (g i)):=by
 intro pins s σ H x v Q I rx h
 obtain⟨i,rfl,q⟩:=h
 obtain⟨t,rfl⟩:=rx
 exact rule i t s _ _ ⟨.int (g i),H,I.tok _,⟨_,rfl⟩,q⟩
theorem zeW:UnR X (unaryOp .USub) (rU fun i=> .int (-i)):=unI fun _ _ _ _ _ q=>neg_int q
theorem zcx{pins:List (Addr×Obj)}{σ:St}{H:Hp}{s:Shared}{Q:VK}{k k':Bool}(I:Inv X pins σ H s)(q:Q (.bl k) H)(e:k=k'):EP X pins σ Q (.bool k') s:=by
 subst e
 exact⟨.bl k,H,I,rfl,q⟩
theorem zho:OpR X (compareOp .Lt) (rI0 fun i j=> .bl (decide (i<j))):=opB0 fun _ _ _ _ _ _ _ q=>lt_int q
theorem zhp:OpR X (compareOp .LtE) (rI0 fun i j=> .bl (decide (i<=j))):=opB0 fun _ _ _ _ _ _ _ q=>le_int q
theorem zhq:OpR X (compareOp .Gt) (rI0 fun i j=> .bl (decide (j<i))):=opB0 fun _ _ _ _ _ _ _ q=>gt_int q
theorem zhr:OpR X (compareOp .GtE) (rI0 fun i j=> .bl (decide (j<=i))):=opB0 fun _ _ _ _ _ _ _ q=>ge_int q
theorem zeX:OpR X (compareOp .Is) (fun x y H Q=>y= .non/\Q (.bl (decide (x= .non))) H):=by
 intro pins s σ H x y v u Q I rx ry h
 obtain⟨rfl,q⟩:=h
 cases ry
 refine is_none_gen (zcx I q ?_)
 cases x<;>first
  |(cases rx;rfl)
  |(obtain⟨t,rfl⟩:=rx;rfl)
theorem zd9:OpR X (compareOp .IsNot) (fun x y H Q=>y= .non/\Q (.bl (!decide (x= .non))) H):=by
 intro pins s σ H x y v u Q I rx ry h
 obtain⟨rfl,q⟩:=h
 cases ry
 refine isnot_none_gen (zcx I q ?_)
 cases x<;>first
  |(cases rx;rfl)
  |(obtain⟨t,rfl⟩:=rx;rfl)
theorem OpR.or{f:Value->Value->Sem Value}{r r':R2}(h:OpR X f r)(h':OpR X f r'):OpR X f (fun x y H Q=>r x y H Q\/r' x y H Q):=by
 intro pins s σ H x y v u Q I rx ry q
 rcases q with q|q
 ·exact h pins s σ H x y v u Q I rx ry q
 ·exact h' pins s σ H x y v u Q I rx ry q
theorem z04(b:Expr){op:CmpOp}(h:op≠ .In:=by decide)(h2:op≠ .NotIn:=by decide):behindInMarks op b=false:=by
 have e1:(op==CmpOp.In)=false:=by cases op<;>first|rfl|exact absurd rfl h
 have e2:(op==CmpOp.NotIn)=false:=by cases op<;>first|rfl|exact absurd rfl h2
 cases b<;>simp[behindInMarks,e1,e2]
theorem zda{op:CmpOp}{r:R2}(ho:OpR X (compareOp op) r)(ha:PE X a ta)(hb:PE X b tb)(hm:behindInMarks op b=false):PE X (.Compare a [op] [b] pos) (tOp r ta tb):=by
 intro pins s σ H Q I h
 exact wpAny_Compare1 (binT ha hb I h fun v u s2 x y H2 I2 rx ry q=>ho pins s2 σ H2 x y v u Q I2 rx ry q) hm
noncomputable def zeY(t:TE):TT:=fun σ H Q=>t σ H fun x H'=> ∃k,x= .bl k/\Q k H'
theorem zdb{op:CmpOp}{r:R2}(ho:OpR X (compareOp op) r)(ha:PE X a ta)(hb:PE X b tb)(hm:behindInMarks op b=false):PT X (.Compare a [op] [b] pos) (zeY (tOp r ta tb)):=by
 intro pins s σ H Q I h
 refine wpAny_isTrue_Compare1 (thn (ha pins s σ H _ I h) fun v s1 ⟨x,H1,I1,r1,q1⟩=>thn (hb pins s1 σ H1 _ I1 q1) fun u s2 ⟨y,H2,I2,r2,q2⟩=>
  thn (ho pins s2 σ H2 x y v u _ I2 r1 r2 q2) fun c s3 ⟨z,H3,I3,r3,k,e,q3⟩=> ?_) hm
 subst e
 cases r3
 exact wpAny_truthy_bool ⟨H3,I3,q3⟩
noncomputable def z9T(r r':R2)(ta tb tc:TE):TE:=fun σ H Q=>ta σ H fun x H1=>tb σ H1 fun y H2=>r x y H2 fun z H3=> ∃k,z= .bl k/\
 (if k=true then tc σ H3 fun w' H4=>r' y w' H4 Q else Q (.bl false) H3)
theorem zbt{op op':CmpOp}{r r':R2}(ho:OpR X (compareOp op) r)(ho':OpR X (compareOp op') r')(ha:PE X a ta)(hb:PE X b tb)(hc:PE X c tc)
 (hm:lastMarks [op,op'] [b,c]=false:=by with_unfolding_all rfl):PE X (.Compare a [op,op'] [b,c] pos) (z9T r r' ta tb tc):=by
 intro pins s σ H Q I h
 refine Compare_chain (thn (ha pins s σ H _ I h) fun v s1 ⟨x,H1,I1,r1,q1⟩=>chain_link (thn (hb pins s1 σ H1 _ I1 q1) fun u s2 ⟨y,H2,I2,r2,q2⟩=>
  thn (ho pins s2 σ H2 x y v u _ I2 r1 r2 q2) fun d s3 ⟨z,H3,I3,r3,k,e,q3⟩=> ?_)) hm
 subst e
 cases r3
 refine wpAny_truthy_bool ?_
 cases k with
 |false=>exact ite_ff ⟨.bl false,H3,I3,rfl,q3⟩
 |true=>exact ite_tt (chain_last (thn (hc pins s3 σ H3 _ I3 q3) fun w' s4 ⟨z',H4,I4,r4,q4⟩=>ho' pins s4 σ H4 y z' u w' Q I4 r2 r4 q4))
theorem zbu{op op':CmpOp}{r r':R2}(ho:OpR X (compareOp op) r)(ho':OpR X (compareOp op') r')(ha:PE X a ta)(hb:PE X b tb)(hc:PE X c tc)
 (hm:lastMarks [op,op'] [b,c]=false:=by with_unfolding_all rfl):PT X (.Compare a [op,op'] [b,c] pos) (zeY (z9T r r' ta tb tc)):=by
 intro pins s σ H Q I h
 refine isTrue_chain (thn (ha pins s σ H _ I h) fun v s1 ⟨x,H1,I1,r1,q1⟩=>test_link (thn (hb pins s1 σ H1 _ I1 q1) fun u s2 ⟨y,H2,I2,r2,q2⟩=>
  thn (ho pins s2 σ H2 x y v u _ I2 r1 r2 q2) fun d s3 ⟨z,H3,I3,r3,k,e,q3⟩=> ?_)) hm
 subst e
 cases r3
 refine wpAny_truthy_bool ?_
 cases k with
 |false=>
  obtain⟨k',e',q'⟩:=q3
  cases e'
  exact ite_ff ⟨H3,I3,q'⟩
 |true=>
  refine ite_tt (test_last (thn (hc pins s3 σ H3 _ I3 q3) fun w' s4 ⟨z',H4,I4,r4,q4⟩=>thn (ho' pins s4 σ H4 y z' u w' _ I4 r2 r4 q4) fun d' s5 ⟨z2,H5,I5,r5,k2,e2,q5⟩=> ?_))
  subst e2
  cases r5
  exact wpAny_truthy_bool ⟨H5,I5,q5⟩
noncomputable def TruV(K:W.Frag)(x:V)(H:Hp)(k:Bool):Prop:=
 match x with
 | .non=>k=false
 | .bl b=>k=b
 | .int i=>k=(i !=0)
 | .str y=>y.length<=sizeLine/\k=((y.length:Int) !=0)
 | .byt y=>y.size<=sizeLine/\k=((y.size:Int) !=0)
 | .ref p=>(∃xs,SqL K H p xs/\k= !xs.isEmpty)\/(∃xs,SqT K H p xs/\k= !xs.isEmpty)\/∃kvs,H p=some (.dK kvs)/\k= !kvs.isEmpty
 |_=>False
theorem z9g{κ:Type}{kvs:List (κ×V)}{vs:List (κ×Value)}(r:KV kvs vs):(!vs.isEmpty)= !kvs.isEmpty:=by
 cases r<;>rfl
theorem z6m{xs:List V}{its:List Value}(r:Vals xs its):(!its.toArray.isEmpty)= !xs.isEmpty:=by
 cases r<;>simp
theorem z6n:(sizeLine:Nat)<2^63:=by rw[sizeLine_eq];decide
theorem zcy:TruR X (fun x H Q=> ∃k,TruV X.K x H k/\Q k H):=by
 intro pins s σ H x v Q I rx h
 obtain⟨k,e,q⟩:=h
 have hl:=z6n
 have hs:sizeLine=16777216:=sizeLine_eq
 cases x with
 |non=>
  cases rx
  have e':k=false:=e
  subst e'
  exact truthy_none ⟨H,I,q⟩
 |bl b=>
  cases rx
  have e':k=b:=e
  subst e'
  exact wpAny_truthy_bool ⟨H,I,q⟩
 |int i=>
  obtain⟨t,rfl⟩:=rx
  have e':k=(i !=0):=e
  subst e'
  exact PySem.P.truthy_int ⟨H,I,q⟩
 |str y=>
  obtain⟨t,rfl⟩:=rx
  obtain⟨hy,e'⟩:y.length<=sizeLine/\k=((y.length:Int) !=0):=e
  subst e'
  exact PySem.P.truthy_str (by lia) ⟨H,I.tok _,q⟩
 |byt y=>
  obtain⟨t,rfl⟩:=rx
  obtain⟨hy,e'⟩:y.size<=sizeLine/\k=((y.size:Int) !=0):=e
  subst e'
  exact W.truthy_bytes (by lia) ⟨H,I.tok _,q⟩
 |ref p=>
  cases rx
  have e':(∃xs,SqL X.K H p xs/\k= !xs.isEmpty)\/(∃xs,SqT X.K H p xs/\k= !xs.isEmpty)\/∃kvs,H p=some (.dK kvs)/\k= !kvs.isEmpty:=e
  rcases e' with⟨xs,hx,e'⟩|⟨xs,hx,e'⟩|⟨kvs,hx,e'⟩
  ·subst e'
   obtain⟨its,r,pl,hz⟩:=I.list hx
   have hlen:=r.length
   exact wpAny_truthy_list pl.isList (by simp only[List.size_toArray];lia) ⟨H,I.tok _,by rw[z6m r];exact q⟩
  ·subst e'
   obtain⟨its,r,pl,hz⟩:=I.tuple hx
   have hlen:=r.length
   exact truthy_tuple pl (by simp only[List.size_toArray];lia) ⟨H,I.tok _,by rw[z6m r];exact q⟩
  ·subst e'
   obtain⟨hz,hS,vs,r,m⟩:kvs.length<=sizeLine/\(p==sysModules)=false/\∃vs,KV kvs vs/\s.heap.DictOf (z1o X.prog X.w) p vs:=I.hok p _ hx
   have hlen:kvs.length=vs.length:=Paired.length r
   exact wpAny_truthy_dict hS m (by lia) ⟨H,I.tok _,by rw[z9g r];exact q⟩
 |_=>exact(show False from e).elim
theorem zbv(ha:PE X a ta)(he: ∀whole,isTrue a X.env whole=(do let v<-whole;standAt a.pos;holding [v] (truthy v))):
 PT X a (fun σ H Q=>ta σ H fun x H'=> ∃k,TruV X.K x H' k/\Q k H'):=by
 intro pins s σ H Q I h
 exact isTrue_plain (thn (ha pins s σ H _ I h) fun v s1 ⟨x,H1,I1,r1,q1⟩=>zcy pins s1 σ H1 x v Q I1 r1 q1) (he _)
theorem z9h:OpR X (binaryOp .Add) (fun x y H Q=> ∃i j,x= .str i/\y= .str j/\i.length+j.length<=sizeLine/\Q (.str (i++j)) H):=by
 intro pins s σ H x y v u Q I rx ry h
 obtain⟨i,j,rfl,rfl,hz,q⟩:=h
 obtain⟨t,rfl⟩:=rx
 obtain⟨t',rfl⟩:=ry
 exact add_str (fun t' tk=>⟨.str (i++j),H,I.tok _,⟨_,rfl⟩,q⟩) hz
theorem z7V{x:V}{us:List Value}(r:Vals [x] us): ∃u,us=[u]/\RelV x u:=by
 cases r with
 |cons r1 r2=>cases r2;exact⟨_,rfl,r1⟩
theorem zeZ{x y:V}{us:List Value}(r:Vals [x,y] us): ∃u w',us=[u,w']/\RelV x u/\RelV y w':=by
 cases r with
 |cons r1 r2=>
  cases r2 with
  |cons r3 r4=>cases r4;exact⟨_,_,rfl,r1,r3⟩
theorem zbw:CallR X (.builtin "abs") (fun xs H Q=> ∃i,xs=[.int i]/\Q (.int (if i<0 then -i else i)) H):=by
 intro pins s σ H xs us Q I r h
 obtain⟨i,rfl,q⟩:=h
 obtain⟨u,rfl,t,rfl⟩:=z7V r
 exact call_abs_int fun u tk=>⟨.int (if i<0 then -i else i),H,I.tok _,⟨_,rfl⟩,q⟩
theorem z9U(hc:X.calm=true):CallR X (.builtin "min") (fun xs H Q=> ∃i j,xs=[.int i, .int j]/\Q (.int (if j<i then j else i)) H):=by
 intro pins s σ H xs us Q I r h
 obtain⟨i,j,rfl,q⟩:=h
 obtain⟨u,w',rfl,⟨t,rfl⟩,⟨t',rfl⟩⟩:=zeZ r
 refine min_two_ints (I.ok.hd hc) fun h' tk k=>⟨_,H,I.kept k, ?_,q⟩
 by_cases hj:j<i
 ·rw[if_pos hj,if_pos hj];exact⟨_,rfl⟩
 ·rw[if_neg hj,if_neg hj];exact⟨_,rfl⟩
theorem z9V:CallR X (.type "int") (fun xs H Q=>(∃i,xs=[.int i]/\Q (.int i) H)\/∃k,xs=[.bl k]/\Q (.int (if k then 1 else 0)) H):=by
 intro pins s σ H xs us Q I r h
 rcases h with⟨i,rfl,q⟩|⟨k,rfl,q⟩
 ·obtain⟨u,rfl,t,rfl⟩:=z7V r
  exact call_int_int ⟨.int i,H,I,⟨_,rfl⟩,q⟩
 ·obtain⟨u,rfl,r1⟩:=z7V r
  cases r1
  exact call_int_bool ⟨.int (if k then 1 else 0),H,I.tok _,⟨_,rfl⟩,q⟩
end
structure ObjM(h:Heap)(x dx C:Addr)(mA:Str->Option Value):Prop where
 obj:h.get? x=some (W.instObj C dx)
 ns:h.Ns1 dx mA
 ne:dx≠x
theorem RelO.some_of{v:V}{o:Option Value}(r:RelO (some v) o): ∃u,o=some u/\RelV v u:=by
 cases o with
 |none=>exact(show False from r).elim
 |some u=>exact⟨u,rfl,r⟩
structure Cls(K:W.Frag)(C:Addr):Prop where
 pg:W.plainGet K C Str.empty=true
 hd:W.hasDictIn K C=true
 po:W.plainOver K C=true
 sa:W.findIn K (.ref C) "__setattr__" =some (some (.builtin "object.__setattr__"))
structure Con(K:W.Frag)(C:Addr)(f:Str)(v:V)(u:Value):Prop where
 at_:W.findIn K (.ref C) f=some (some u)
 rel:RelV v u
 get:W.specialIn K u "__get__" =some none
 cp:W.copiedNames.contains f=false
structure Meth(K:W.Frag)(C:Addr)(m:Str)(f:Addr):Prop where
 at_:W.findIn K (.ref C) m=some (some (.ref f))
 fn:W.isFn K (.ref f)=true
 kp:W.keepIn K (.ref f)=true
section
variable{X:Cx}{pins:List (Addr×Obj)}{σ:St}{H:Hp}{s:Shared}{A:Around}{E:Value->Shared->Prop}{Q:Value->Shared->Prop}{c:Value}{b:Bool}
inductive TyOf(K:W.Frag)(H:Hp):V->Value->Prop where
 |non:TyOf K H .non (.type "NoneType")
 |bl (x:Bool):TyOf K H (.bl x) (.type "bool")
 |int (i:Int):TyOf K H (.int i) (.type "int")
 |str (x:Str):TyOf K H (.str x) (.type "str")
 |flt (x:UInt64):TyOf K H (.flt x) (.type "float")
 |lst {a:Addr} {xs:List V} (e:H a=some (.lst xs)):TyOf K H (.ref a) (.type "list")
 |frz {a:Addr} {o:Obj} {xs:List V} (e:H a=some (.frz o (.lst xs))):TyOf K H (.ref a) (.type "list")
 |tup {a:Addr} {xs:List V} (e:H a=some (.tup xs)):TyOf K H (.ref a) (.type "tuple")
 |dK {a:Addr} {kvs:List (Key×V)} (e:H a=some (.dK kvs)):TyOf K H (.ref a) (.type "dict")
 |dT {a:Addr} {kvs:List (List Key×V)} (e:H a=some (.dT kvs)):TyOf K H (.ref a) (.type "dict")
 |ins {a C dx:Addr} {fs:List (Str×V)} (e:H a=some (.ins C dx fs)) (cl:Cls K C) (ha:W.findIn K (.ref C) "__class__" =some (some (.builtin "object.__class__")))
  (hn:W.specialIn K (.builtin "object.__class__") "__get__" =some (some (.builtin "getset_descriptor.__get__"))) (htk:W.takesIn K (.builtin "object.__class__")=some true)
  (hm:W.mroIn K C (.type "object")=some true):TyOf K H (.ref a) (.ref C)
end
structure Room(k:Nat)(A:Around):Prop where
 hd:A.handled=none
 dp:A.depth+3*k+5<recursionLimit
 un:A.units+16*k+200<cLine
 gd:A.guards=some []
theorem Room.mono{j k:Nat}{A:Around}(r:Room k A)(h:j<=k):Room j A:=⟨r.hd,by have:=r.dp;lia,by have:=r.un;lia,r.gd⟩
theorem Room.deeper{k:Nat}{A:Around}(r:Room (k+1) A)(env:Env):Room k (A.deeper env):=
 ⟨r.hd,by have:=r.dp;show A.depth+1+3*k+5<_;lia,by have:=r.un;show A.units+3+16*k+200<_;lia,r.gd⟩
theorem Room.depth{k:Nat}{A:Around}(r:Room k A):A.depth<recursionLimit:=by have:=r.dp;lia
theorem Room.units{k:Nat}{A:Around}(r:Room k A):A.units+64<cLine:=by have:=r.un;lia
noncomputable def tNil:TA:=fun _ H Q=>Q [] H
noncomputable def zhs(ta:TE)(tr:TA):TA:=fun σ H Q=>ta σ H fun x H1=>tr σ H1 fun xs H2=>Q (x::xs) H2
section
variable{X:Cx}{e:Expr}{es:List Expr}{te:TE}{t:TA}{pos:Pos}
theorem z5l:PA X [] tNil:=fun _ _ _ _ H Q I h=>Calls.spliced_nil ⟨[],H,I, .nil,h⟩
theorem z0q(ha:PE X e te)(hr:PA X es t)(hs:starEach (e::es) X.env=(false,eval e X.env)::starEach es X.env:=by rfl):PA X (e::es) (zhs te t):=by
 intro pos pins s σ H Q I h
 rw[hs]
 show wpAny _ _ (spliced ((false,eval e X.env)::backTo pos (starEach es X.env))) _ _ s
 refine Calls.spliced_cons (thn (ha pins s σ H _ I h) fun u s1 ⟨x,H1,I1,r1,q1⟩=> ?_)
 exact thn (hr pos pins s1 σ H1 _ I1 q1) fun us s2 ⟨xs,H2,I2,r2,q2⟩=>⟨x::xs,H2,I2, .cons r1 r2,q2⟩
noncomputable def tTup(t:TA):TE:=fun σ H Q=>t σ H fun xs H1=>xs.length<=sizeLine/\∀p,H1 p=none->Q (.ref p) (upd H1 p (.tup xs))
noncomputable def tLst(t:TA):TE:=fun σ H Q=>t σ H fun xs H1=>xs.length<=sizeLine/\∀p,H1 p=none->Q (.ref p) (upd H1 p (.lst xs))
theorem zf0{x1}(h:PA X es t):PE X (.Tuple es x1 pos) (tTup t):=by
 intro pins s σ H Q I hq
 refine wpAny_Tuple_spliced (thn (h pos pins s σ H _ I hq) fun us s1 ⟨xs,H1,I1,r,z,q⟩=>⟨by rw[<-r.length];exact z, ?_⟩)
 have hf:H1 s1.heap.objs.size=none:=I1.hok.fresh (Nat.le_refl _)
 refine⟨.ref s1.heap.objs.size,upd H1 s1.heap.objs.size (.tup xs),I1.laid (t':=s1.toks) (fun b u e=>Heap.get?_push_of_some _ e) (Nat.le_refl _) ?_,rfl,q _ hf⟩
 exact⟨z,us,r,⟨_,Heap.get?_push_size _ rfl,rfl,_,rfl⟩⟩
theorem zf1(h:PA X es t):PE X (.List es pos) (tLst t):=by
 intro pins s σ H Q I hq
 refine wpAny_List_spliced (thn (h pos pins s σ H _ I hq) fun us s1 ⟨xs,H1,I1,r,z,q⟩=>⟨by rw[<-r.length];exact z, ?_⟩)
 have hf:H1 s1.heap.objs.size=none:=I1.hok.fresh (Nat.le_refl _)
 refine⟨.ref s1.heap.objs.size,upd H1 s1.heap.objs.size (.lst xs),I1.laid (t':=s1.toks) (fun b u e=>Heap.get?_push_of_some _ e) (Nat.le_refl _) ?_,rfl,q _ hf⟩
 exact⟨z,us,0,r,Heap.get?_push_size _ rfl⟩
end
noncomputable abbrev Sp:=List V->Hp->VK->XK->Prop
noncomputable abbrev CXT:=List Env->Hp->Shared->XK->Value->Shared->Prop
structure Env0(P:Program)(w:World)(K:W.Frag)(mg:Str->Option Value)(base:Heap)(A:Around)(outer:List Env)(s:Shared)(H:Hp):Prop where
 frames:A.frames=some outer
 mod:Mod K mg base
 bs: ∀b o,base.get? b=some o->s.heap.get? b=some o/\H b=none
 bsz:base.objs.size<=s.heap.objs.size
 funs:s.heap.FunFrames base outer
 frf: ∀b∈frs outer,H b=none
 hok:HOk P w H s.heap
 bare:AllBare s.gens
noncomputable def CE(outer:List Env)(P:Program)(w:World)(H:Hp)(s:Shared)(Q:VK)(u:Value)(s':Shared):Prop:=
 ∃v H',s'.os=s.os/\AllBare s'.gens/\Un (frs outer) [] H H' s.heap s'.heap/\HOk P w H' s'.heap/\RelV v u/\Q v H'
noncomputable def CR(CX:CXT)(outer:List Env)(P:Program)(w:World)(H:Hp)(s:Shared)(Q:VK)(E:XK)(r:Result)(s':Shared):Prop:=
 match r with
 | .ok (.ret u)=>CE outer P w H s Q u s'
 | .ok _=>False
 | .error e=>CX outer H s E e s'
structure FnOk(P:Program)(w:World)(K:W.Frag)(mg:Str->Option Value)(base:Heap)(CX:CXT)(k:Nat)(f:Addr)(fd:FuncData)(ps:List Str)(sp:Sp):Prop where
 len: ∀vs H Q E,sp vs H Q E->vs.length=ps.length
 run: ∀(A:Around) (outer:List Env) (s:Shared) (H:Hp) (args:Args) (us:List Value) (vs:List V) (Q:VK) (E:XK),Room k A->Env0 P w K mg base A outer s H->BindsTo s fd args (ps.zip us)->Vals vs us->sp vs H Q E->
  codeAny (model P w) A (.call (.ref f) args) (CR CX outer P w H s Q E) s
theorem FnOk.mono{P:Program}{w:World}{K:W.Frag}{mg:Str->Option Value}{base:Heap}{CX:CXT}{j k:Nat}{f:Addr}{fd:FuncData}{ps:List Str}{sp:Sp}(F:FnOk P w K mg base CX j f fd ps sp)(h:j<=k):
 FnOk P w K mg base CX k f fd ps sp:=⟨F.len,fun A outer s H args us vs Q E hr=>F.run A outer s H args us vs Q E (hr.mono h)⟩
section
variable{X:Cx}{pins:List (Addr×Obj)}{σ:St}{H:Hp}{s s':Shared}
theorem Inv.env0(I:Inv X pins σ H s):Env0 X.prog X.w X.K X.mg X.base X.A X.stack s H:=
 ⟨I.ok.frames,I.ok.mod,I.bs,Nat.le_trans I.ok.bsz I.sz,I.stack,I.stkFree,I.hok,I.bare⟩
theorem Inv.after{Q:VK}{u:Value}(I:Inv X pins σ H s)(h:CE X.stack X.prog X.w H s Q u s'):EP X pins σ Q u s':=by
 obtain⟨v,H',os,bare,un,hok,r,q⟩:=h
 obtain⟨hh,g,d,t,os'⟩:=s'
 obtain rfl:os'=s.os:=os
 exact⟨v,H',I.call (h':=hh) (g':=g) (d':=d) (t':=t) (ch:=[]) un hok bare (fun b z=>absurd z (by simp)),r,q⟩
end
noncomputable def zf2(sp:Sp)(dvs:List V)(E:XK)(t:TA):TE:=fun σ H Q=>t σ H fun vs H1=>sp (vs++dvs) H1 Q E
noncomputable def z3R(K:W.Frag)(fd:FuncData)(ps:List Str)(ds:List Value):Prop:=
 ∀(s:Shared) (us:List Value),K.In s.heap->(us++ds).length=ps.length->BindsTo s fd ⟨us,[]⟩ (ps.zip (us++ds))
theorem z3R.all{K:W.Frag}{fd:FuncData}{ps:List Str}(h: ∀us:List Value,us.length=ps.length->bindArgs fd ⟨us,[]⟩=pure (ps.zip us)):z3R K fd ps []:=fun s us _ hl=>by
 rw[List.append_nil] at hl⊢
 exact .of_eq (h us hl)
noncomputable def z3p(CX:CXT)(X:Cx)(E:XK):Prop:= ∀(pins:List (Addr×Obj)) (σ:St) (H:Hp) (s:Shared) (e:Value) (s':Shared),Inv X pins σ H s->CX X.stack H s E e s'->X.xe e s'
section
variable{X:Cx}{CX:CXT}{k:Nat}{f C:Addr}{fd:FuncData}{ps:List Str}{sp:Sp}{dvs:List V}{ds:List Value}{E:XK}{x m:Str}{p pos apos:Pos}{e o:Expr}{es:List Expr}{ta:TE}{t:TA}
theorem zf3{pins:List (Addr×Obj)}{σ:St}{H:Hp}{s:Shared}{Q:VK}{us:List Value}{vs:List V}(F:FnOk X.prog X.w X.K X.mg X.base CX k f fd ps sp)(hr:Room k X.A)(hb:z3R X.K fd ps ds)(hd:Vals dvs ds)(hx:z3p CX X E)
 (I:Inv X pins σ H s) (r:Vals vs us) (h:sp (vs++dvs) H Q E):wpAny (model X.prog X.w) X.A (call (.ref f) us) (EP X pins σ Q) X.xe s:=by
 have r2:Vals (vs++dvs) (us++ds):=r.append hd
 have hl:(us++ds).length=ps.length:=by rw[<-r2.length];exact F.len _ _ _ _ h
 refine wpAny_call (codeAny_mono (F.run X.A X.stack s H ⟨us,[]⟩ (us++ds) (vs++dvs) Q E hr I.env0 (hb s us I.kIn hl) r2 h) fun r s' hq=> ?_)
 cases r with
 |error e=>exact hx pins σ H s e s' I hq
 |ok fl=>
  cases fl with
  |ret u=>exact I.after hq
  |next=>exact False.elim hq
  |brk=>exact False.elim hq
  |cont=>exact False.elim hq
theorem zdc(F:FnOk X.prog X.w X.K X.mg X.base CX k f fd ps sp)(hr:Room k X.A)(hg:Gl X x)(hm:X.mg x=some (.ref f))(hk:W.keepIn X.K (.ref f)=true)(hb:z3R X.K fd ps ds)(hd:Vals dvs ds)(hx:z3p CX X E)
 (ha:PA X (e::es) t) (hdb:(x==("__debug__" :Str))=false:=by decide) (he:starEach (e::es) X.env=(false,eval e X.env)::starEach es X.env:=by rfl) (hpl:(backTo pos (starEach es X.env)).any (·.1)=false:=by rfl):
 PE X (.Call (.Name x p) (e::es) [] pos) (zf2 sp dvs E t):=by
 intro pins s σ H Q I h
 refine wpAny_Call_Name_kw (z4B I hg hm ?_ hdb)
 refine W.callWith_K (h₀:=X.base) I.ok.mod.kin hk (thn (ha pos pins s σ H _ I h) fun us s1 ⟨vs,H1,I1,r,q⟩=>⟨I1.kIn, ?_⟩) he hpl
 exact zf3 F hr hb hd hx I1 r q
structure Mk(K:W.Frag)(C f:Addr):Prop where
 makes:W.makesIn K C=true
 init:W.findIn K (.ref C) "__init__" =some (some (.ref f))
 fn:W.isFn K (.ref f)=true
 kp:W.keepIn K (.ref C)=true
end
section
variable{X:Cx}{CX:CXT}{k:Nat}{f C:Addr}{fd:FuncData}{ps ks:List Str}{sp:Sp}{E:XK}{x m:Str}{p pos apos kpos:Pos}{e o:Expr}{es:List Expr}{kws:List Keyword}{te ta:TE}{t tk:TA}{nm:Option Str}
structure ziE(K:W.Frag)(fd:FuncData)(ps ks:List Str)(g:List Value->List Value->List Value)(gV:List V->List V->List V):Prop where
 to: ∀(s:Shared) (us ws:List Value),K.In s.heap->(g us ws).length=ps.length->BindsTo s fd ⟨us,ks.zip ws⟩ (ps.zip (g us ws))
 rel: ∀{vs:List V} {us:List Value} {zs:List V} {ws:List Value},Vals vs us->Vals zs ws->Vals (gV vs zs) (g us ws)
variable{g:List Value->List Value->List Value}{gV:List V->List V->List V}
end
structure z05(N P:List Str)(sc:Scope):Prop where
 kind:sc.kind= .function
 co:sc.isCoroutine=false
 gen:sc.isGenerator=false
 nd:N.Nodup
 pre:N.take P.length=P
 par: ∀x∈P,sc.names.lookup x=some .local\/sc.names.lookup x=some .cell
 nofree: ∀y∈sc.names,y.2≠ .free
theorem z7e{kindOf:Str->Option NameKind}{x:Str}: ∀{binds:List (Str×Value)} {m:Str->Option Value},(∀v,(x,v)∉binds)->bindL kindOf binds m x=m x
 |[],_,_=>rfl
 |(n,v)::r,m,h=>by
  unfold bindL
  rw[z7e fun w hw=>h w (List.mem_cons_of_mem _ hw)]
  split
  ·have:x≠n:=by rintro rfl;exact h v List.mem_cons_self
   simp[this]
  ·rfl
theorem z7f{kindOf:Str->Option NameKind}{x:Str}: ∀{binds:List (Str×Value)} {m:Str->Option Value},(∀v,(x,v)∉binds)->bindC kindOf binds m x=m x
 |[],_,_=>rfl
 |(n,v)::r,m,h=>by
  unfold bindC
  rw[z7f fun w hw=>h w (List.mem_cons_of_mem _ hw)]
  split
  ·rfl
  ·have:x≠n:=by rintro rfl;exact h v List.mem_cons_self
   simp[this]
theorem z7g{kindOf:Str->Option NameKind}{x:Str}{v:Value}: ∀{P:List Str} {vs:List Value} {i:Nat} {m:Str->Option Value},P.Nodup->P[i]? =some x->vs[i]? =some v->kindOf x=some .local->
 bindL kindOf (P.zip vs) m x=some v
 |[],_,_,_,_,h,_,_=>by simp at h
 |_::_,[],_,_,_,_,h,_=>by simp at h
 |p::P,w::vs,0,m,nd,h1,h2,hk=>by
  simp at h1 h2;subst h1;subst h2
  show bindL kindOf ((p,w)::P.zip vs) m p=_
  unfold bindL
  rw[z7e fun v hv=>(List.nodup_cons.mp nd).1 (List.of_mem_zip hv).1,if_pos hk]
  simp
 |p::P,w::vs,i+1,m,nd,h1,h2,hk=>by
  show bindL kindOf ((p,w)::P.zip vs) m x=_
  unfold bindL
  exact z7g (i:=i) (List.nodup_cons.mp nd).2 (by simpa using h1) (by simpa using h2) hk
theorem z7h{kindOf:Str->Option NameKind}{x:Str}{v:Value}: ∀{P:List Str} {vs:List Value} {i:Nat} {m:Str->Option Value},P.Nodup->P[i]? =some x->vs[i]? =some v->kindOf x≠some .local->
 bindC kindOf (P.zip vs) m x=some v
 |[],_,_,_,_,h,_,_=>by simp at h
 |_::_,[],_,_,_,_,h,_=>by simp at h
 |p::P,w::vs,0,m,nd,h1,h2,hk=>by
  simp at h1 h2;subst h1;subst h2
  show bindC kindOf ((p,w)::P.zip vs) m p=_
  unfold bindC
  rw[z7f fun v hv=>(List.nodup_cons.mp nd).1 (List.of_mem_zip hv).1,if_neg hk]
  simp
 |p::P,w::vs,i+1,m,nd,h1,h2,hk=>by
  show bindC kindOf ((p,w)::P.zip vs) m x=_
  unfold bindC
  exact z7h (i:=i) (List.nodup_cons.mp nd).2 (by simpa using h1) (by simpa using h2) hk
noncomputable def z4C(N:List Str)(vs:List V):St:=vs.map some++List.replicate (N.length -vs.length) none
noncomputable def cxOf(CX:CXT)(P:Program)(w:World)(K:W.Frag)(mg:Str->Option Value)(base:Heap)(N:List Str)(qual:Str)(scope:Scope)(f:Addr)(cd:Value)(A:Around)(outer:List Env)(s:Shared)(H:Hp)(E:XK):Cx where
 prog:=P
 w:=w
 K:=K
 mg:=mg
 base:=base
 A:=A.deeper (envOfC qual scope s.heap.objs.size f cd)
 N:=N
 s₀:=s
 H₀:=H
 env:=envOfC qual scope s.heap.objs.size f cd
 outer:=outer
 stack:=envOfC qual scope s.heap.objs.size f cd::outer
 ex:=[]
 calm:=true
 fn:=fun _=>true
 pn:=[]
 xe:=fun e s'=>wpAny (model P w) (A.deeper (envOfC qual scope s.heap.objs.size f cd)) (leaving (envOfC qual scope s.heap.objs.size f cd) e) (fun _ s''=>CX outer H s E e s'') (fun e' s''=>CX outer H s E e' s'') s'
theorem z8x{sc:Scope}{n:Nat}{x:Str}(h:sc.names.lookup x=some .cell): ∃c,(cellsFrom n sc.names []).lookup x=some c:=by
 have q:=W.cellsFrom_some sc.names n [] (.inl h)
 exact Option.isSome_iff_exists.mp q
theorem z7i{CX:CXT}{P:Program}{w:World}{K:W.Frag}{mg:Str->Option Value}{base:Heap}{N ps:List Str}{qual:Str}{scope:Scope}{f:Addr}{cd:Value}{A:Around}{outer:List Env}{s s1:Shared}{H:Hp}{E:XK}{us:List Value}{vs:List V}
 (S:z05 N ps scope) (hd:A.handled=none) (e0:Env0 P w K mg base A outer s H) (hl:vs.length=ps.length) (r:Vals vs us)
 (x:InCallC s s.heap.objs.size (bindL (envOfC qual scope s.heap.objs.size f cd).kindOf (ps.zip us) fun _=>none) (cellsFrom (s.heap.objs.size+1) scope.names []) (bindC (envOfC qual scope s.heap.objs.size f cd).kindOf (ps.zip us) fun _=>none) s1):
 Inv (cxOf CX P w K mg base N qual scope f cd A outer s H E) [] (z4C N vs) H s1:=by
 have hpl:ps.length<=N.length:=by have:=congrArg List.length S.pre;rw[List.length_take] at this;lia
 obtain⟨h1,tk,rfl,hk⟩:=x.done
 have noA: ∀b:Addr,b∉(cxOf CX P w K mg base N qual scope f cd A outer s H E).ex:=fun b z=>absurd (show b∈([]:List Addr) from z) (by simp)
 refine⟨⟨e0.mod,S.kind,rfl,rfl,Nat.le_refl _,fun y z c h1 h2=> ?_,fun y hy=> ?_,fun y c _ h=> ?_,fun _=>hd,Around.frames_deeper e0.frames, .inr ⟨rfl,rfl⟩,fun b z=>absurd z (noA b),e0.bs,e0.bsz,fun b _ _=>noA b,fun b z=>absurd z (noA b),e0.funs,e0.frf⟩,
  rfl,e0.bare,Un.kept hk,⟨_,x.toInCall.ns,fun i y v h1 h2 h3=> ?_⟩,fun y c h=>⟨_,x.cell y c h⟩,e0.hok.fresh (Nat.le_refl _),fun y c h=> ?_,fun p hp=>absurd (show p∈([]:List (Addr×Obj)) from hp) (by simp),e0.hok.kept hk, ?_⟩
 ·exact name_of_addr x.apart (PySem.mem_of_lookup h1) (PySem.mem_of_lookup h2)
 ·have hy:scope.names.lookup y=some .cell\/scope.names.lookup y=some .free:=hy
  rcases hy with hy|hy
  ·exact z8x hy
  ·exact absurd rfl (S.nofree _ (PySem.mem_of_lookup hy))
 ·exact Nat.le_of_lt (x.above y c (PySem.mem_of_lookup h))
 ·have hi:i<vs.length:=by
   unfold z4C at h2
   by_cases hi:i<vs.length
   ·exact hi
   ·rw[List.getElem?_append_right (by simpa using hi)] at h2
    rw[List.getElem?_replicate] at h2
    split at h2<;>cases h2
  have ha:vs[i]? =some v:=by
   unfold z4C at h2
   rw[List.getElem?_append_left (by simpa using hi),List.getElem?_map] at h2
   cases e:vs[i]? with
   |none=>rw[e] at h2;cases h2
   |some a=>rw[e] at h2;cases h2;rfl
  obtain⟨u,hu,rv⟩:=r.get ha
  have hp:ps[i]? =some y:=by
   rw[<-S.pre,List.getElem?_take_of_lt (by lia)];exact h1
  have ndP:ps.Nodup:=by rw[<-S.pre];exact S.nd.sublist (List.take_sublist _ _)
  refine⟨u,rv, ?_⟩
  rcases S.par y (List.mem_of_getElem? hp) with k|k
  ·exact .inl ⟨k,z7g ndP hp hu k⟩
  ·obtain⟨c,e⟩:=z8x (n:=s.heap.objs.size+1) k
   refine .inr ⟨.inl k,c,e, ?_⟩
   have q:=x.cell y c e
   rw[z7h ndP hp hu (by show scope.names.lookup y≠_;rw[k];decide)] at q
   exact q
 ·exact e0.hok.fresh (Nat.le_of_lt (x.above y c (PySem.mem_of_lookup h)))
 ·unfold z4C
  show _=N.length
  rw[List.length_append,List.length_map,List.length_replicate]
  lia
theorem zf4{CX:CXT}{P:Program}{w:World}{K:W.Frag}{mg:Str->Option Value}{base:Heap}{k:Nat}{f:Addr}{name qual:Str}{params:Arguments}{body:List Stmt}{scope:Scope}{dV kV doc pm cdv ct oc:Value}{an od:Option Addr}
 {osl:Array (Option Value)} {N ps:List Str} {sp:Sp} (lk:K.lookup f=some ⟨oc,od, .func (W.fnOf name qual params body scope dV kV doc pm an cdv ct),osl⟩) (hcd:W.codeIn K cdv qual=true) (S:z05 N ps scope)
 (len: ∀vs H Q E,sp vs H Q E->vs.length=ps.length)
 (hbody: ∀(A:Around) (outer:List Env) (s:Shared) (H:Hp) (vs:List V) (Q:VK) (E:XK),Room k (A.deeper (envOfC qual scope s.heap.objs.size f cdv))->sp vs H Q E->
  ∃t,PSs (cxOf CX P w K mg base N qual scope f cdv A outer s H E) body t/\t {nx:=fun _ H'=>Q .non H',rt:=Q} (z4C N vs) H):
 FnOk P w K mg base CX (k+1) f (W.fnOf name qual params body scope dV kV doc pm an cdv ct) ps sp:=by
 refine⟨len,fun A outer s H args us vs Q E hr e0 hb r hsp=> ?_⟩
 have hl:=len _ _ _ _ hsp
 have KX:K.In s.heap:=e0.mod.kin.keeps fun b o e=>(e0.bs b o e).1
 have lim:s.heap.NoLimit:=e0.mod.nolimit.keeps fun b o e=>(e0.bs b o e).1
 have hkind: ∀y∈ps.zip us,scope.names.lookup y.1=some .local\/(scope.names.lookup y.1=some .cell/\((cellsFrom (s.heap.objs.size+1) scope.names []).lookup y.1).isSome=true):=fun⟨n,v⟩ hy=>by
  rcases S.par n (List.of_mem_zip hy).1 with q|q
  ·exact .inl q
  ·exact .inr ⟨q,W.cellsFrom_some _ _ _ (.inl q)⟩
 refine codeAny_call_function hr.depth (KX _ _ lk) rfl S.co S.gen rfl (W.codeRec_of KX hcd) (hb _ _ _ _ ?_)
 refine wpAny_newFunctionEnv_cells S.kind hkind fun env he s1 x=> ?_
 subst he
 refine⟨lim.keeps x.toInCall.keep,codeAny_func ?_⟩
 obtain⟨t,ht,hq⟩:=hbody A outer s H vs Q E (hr.deeper _) hsp
 have I:Inv (cxOf CX P w K mg base N qual scope f cdv A outer s H E) [] (z4C N vs) H s1:=z7i S hr.hd e0 hl r x
 refine wpAny_mono (ht [] s1 (z4C N vs) H _ I hq) (fun fl s' hs=> ?_) fun e s' hs=>hs
 have fin: ∀{σ':St} {H':Hp} {v:V} {u:Value},Inv (cxOf CX P w K mg base N qual scope f cdv A outer s H E) [] σ' H' s'->RelV v u->Q v H'->CE outer P w H s Q u s':=
  fun{σ' H' v u} J rv q=>⟨v,H',J.os,J.bare,J.base,J.hok,rv,q⟩
 cases fl with
 |ret u=>
  obtain⟨v,σ',H',J,rv,q⟩:=hs
  exact fin J rv q
 |next=>
  obtain⟨σ',H',J,q⟩:=hs
  exact fin (v:=V.non) (u:=Value.none) J rfl q
 |brk=>
  obtain⟨_,_,_,q⟩:=hs
  exact False.elim q
 |cont=>
  obtain⟨_,_,_,q⟩:=hs
  exact False.elim q
section
variable{X:Cx}{x:Str}{p pos:Pos}{e:Expr}{es:List Expr}{t:TA}{id T:String}{r:List V->Hp->VK->Prop}
noncomputable def tCB(r:List V->Hp->VK->Prop)(t:TA):TE:=fun σ H Q=>t σ H fun vs H1=>r vs H1 Q
theorem z5d(hc:CallR X (.builtin id) r)(hg:Gl X x)(hm:X.mg x=none)(hv:bootBuiltins x=some (.builtin id))(ha:PA X (e::es) t)(hn:x≠ "__name__" :=by decide)(hdb:(x==("__debug__" :Str))=false:=by decide)
 (he:starEach (e::es) X.env=(false,eval e X.env)::starEach es X.env:=by rfl) (hpl:(backTo pos (starEach es X.env)).any (·.1)=false:=by rfl):PE X (.Call (.Name x p) (e::es) [] pos) (tCB r t):=by
 intro pins s σ H Q I h
 refine wpAny_Call_Name_kw (z6l I hg hm hv ?_ hn hdb)
 exact PyProof.Rows.callWith_builtin1 (thn (ha pos pins s σ H _ I h) fun us s1 ⟨vs,H1,I1,r1,q1⟩=>hc pins s1 σ H1 vs us Q I1 r1 q1) he hpl
theorem z9W(hc:CallR X (.type T) r)(hg:Gl X x)(hm:X.mg x=none)(hv:bootBuiltins x=some (.type T))(ha:PA X (e::es) t)(hn:x≠ "__name__" :=by decide)(hdb:(x==("__debug__" :Str))=false:=by decide)
 (he:starEach (e::es) X.env=(false,eval e X.env)::starEach es X.env:=by rfl) (hpl:(backTo pos (starEach es X.env)).any (·.1)=false:=by rfl):PE X (.Call (.Name x p) (e::es) [] pos) (tCB r t):=by
 intro pins s σ H Q I h
 refine wpAny_Call_Name_kw (z6l I hg hm hv ?_ hn hdb)
 exact PyProof.Rows.callWith_type1 (thn (ha pos pins s σ H _ I h) fun us s1 ⟨vs,H1,I1,r1,q1⟩=>hc pins s1 σ H1 vs us Q I1 r1 q1) he hpl
end
end L2
namespace HT
open PySem PyProof.Rows
section
open PySem.SeqAt
open PySem.AutoSeq1 (wpAny_loadPart')
open PySem.MeetsSeq PySem.MeetsSeq2 PySem.MeetsSeq3
end
section
variable{prog:Program}{w:World}{A:Around}{E:Value->Shared->Prop}{s:Shared}
theorem cat_tup{t b:Addr}{vs ws:List Value}{Q:Value->Shared->Prop}(ht:IsTup s.heap t vs.toArray)(hb:IsTup s.heap b ws.toArray)(hv:vs≠[])
 (h1:ws=[]->Q (.ref t) s) (h2:ws≠[]->Q (.ref s.heap.objs.size) {s with heap:=s.heap.push {cls:= .type "tuple",data:= .seq (vs++ws).toArray}})
 (hsz:vs.length+ws.length<=sizeLine):wpAny (model prog w) A (binaryOp .Add (.ref t) (.ref b)) Q E s:=by
 obtain⟨⟨cls,dd,data,sl⟩,ho,hc,n,hd⟩:=id ht
 obtain⟨⟨cls2,dd2,data2,sl2⟩,ho2,hc2,n2,hd2⟩:=id hb
 simp only at hc hd hc2 hd2
 subst hc hd hc2 hd2
 have e:vs.toArray++ws.toArray=(vs++ws).toArray:=by simp
 by_cases hw:ws=[]
 ·exact concat_meets ⟨_,ho,rfl⟩ ⟨_,ho2,rfl⟩ noFill_tuple_add seq_tuple_add PySem.F.slot_tuple_add PySem.F.entry_tuple_add (PySem.F.args_tuple_add_2 _ _)
   (tuple_addW1 t b vs.toArray ws.toArray n n2 dd dd2 sl sl2 (by simpa using hv) (by simp[hw])) ⟨ho,ho2,h1 hw⟩
 ·refine concat_meets ⟨_,ho,rfl⟩ ⟨_,ho2,rfl⟩ noFill_tuple_add seq_tuple_add PySem.F.slot_tuple_add PySem.F.entry_tuple_add (PySem.F.args_tuple_add_2 _ _)
   (tuple_addW2 t b vs.toArray ws.toArray n n2 dd dd2 sl sl2 (by simpa using hv) (by simpa using hw) (by rw[List.size_toArray,List.size_toArray];exact hsz)) ⟨ho,ho2, ?_⟩
  rw[e]
  exact h2 hw
noncomputable def sIx(n d:Nat):Option Int->Nat
 |none=>d
 |some v=>if v<0 then(v+(n:Int)).toNat else min v.toNat n
theorem sIx_none(n d:Nat):sIx n d none=d:=rfl
theorem sIx_nat(n d k:Nat):sIx n d (some (k:Int))=min k n:=by
 show(if(k:Int)<0 then((k:Int)+(n:Int)).toNat else min (k:Int).toNat n)=min k n
 rw[if_neg (by lia),Int.toNat_natCast]
theorem zf5(n d:Nat)(hd:d<=n)(o:Option Int):sIx n d o<=n:=by
 cases o with
 |none=>exact hd
 |some v=>
  show(if v<0 then(v+(n:Int)).toNat else min v.toNat n)<=n
  by_cases hv:v<0
  ·rw[if_pos hv];lia
  ·rw[if_neg hv];exact Nat.min_le_right _ _
theorem z9X(v:Int)(n d:Nat):(if v<0 then max (v+(n:Int)) 0 else min v (n:Int))=((sIx n d (some v):Nat):Int):=by
 show(if v<0 then max (v+(n:Int)) 0 else min v (n:Int))=(((if v<0 then(v+(n:Int)).toNat else min v.toNat n):Nat):Int)
 by_cases hv:v<0
 ·simp only[if_pos hv];lia
 ·simp only[if_neg hv];lia
theorem z9i(lo hi:Option Int)(n:Nat):Builtin.Slice.sliceAdjust lo hi 1 (n:Int)=(((sIx n 0 lo:Nat):Int),((sIx n n hi:Nat):Int)):=by
 have h1: ¬((1:Int)<0):=by lia
 unfold Builtin.Slice.sliceAdjust
 simp only[h1,if_false]
 refine Prod.ext ?_ ?_
 ·cases lo with
  |none=>rfl
  |some v=>exact z9X v n 0
 ·cases hi with
  |none=>rfl
  |some v=>exact z9X v n n
theorem z9j(i j:Nat):Builtin.Slice.slicePlaces (i:Int) (j:Int) 1=j -i:=by
 unfold Builtin.Slice.slicePlaces
 have h1:(1:Int)>0:=by lia
 simp only[h1,if_true,Int.ediv_one]
 split<;>lia
theorem z6o{v:Value}{o:Option Int}{Q:Option Int->Shared->Prop}(p:IsPart v o)(h:Q o s):wpAny (model prog w) A (Builtin.Slice.slicePartIndex v) Q E s:=by
 cases p with
 |none=>exact slicePart_none h
 |int i t=>exact slicePart_int h
theorem z3i{sl:Addr}{vl vu:Value}{lo hi:Option Int}{n:Nat}{Q:Int×Int×Nat->Shared->Prop}(hs:s.heap.IsSliceOf sl vl vu .none)(pl:IsPart vl lo)(pu:IsPart vu hi)
 (h:Q (((sIx n 0 lo:Nat):Int),1,sIx n n hi -sIx n 0 lo) s):wpAny (model prog w) A (Builtin.Slice.sliceApplied (.ref sl) (pure (n:Int))) Q E s:=by
 obtain⟨os,hos,hcs,hds⟩:=id hs
 unfold Builtin.Slice.sliceApplied Builtin.Slice.sliceFields
 refine wpAny_bind (wpAny_bind (wpAny_field hos hds (x:=vl) rfl (wpAny_bind (wpAny_field hos hds (x:=vu) rfl (wpAny_bind (wpAny_field hos hds (x:= .none) rfl (wpAny_pure ?_)))))))
 refine wpAny_bind (slicePart_none ?_)
 show wpAny _ _ (if((1:Int)==0)=true then _ else _) _ _ s
 rw[if_neg (by decide)]
 refine wpAny_bind (z6o pl (wpAny_bind (z6o pu (wpAny_bind (wpAny_pure ?_)))))
 show wpAny _ _ (match Builtin.Slice.sliceAdjust lo hi 1 (n:Int) with|(lo,hi)=>pure (lo,(1:Int),Builtin.Slice.slicePlaces lo hi 1)) _ _ s
 rw[z9i lo hi n]
 show wpAny _ _ (pure (((sIx n 0 lo:Nat):Int),(1:Int),Builtin.Slice.slicePlaces ((sIx n 0 lo:Nat):Int) ((sIx n n hi:Nat):Int) 1)) _ _ s
 rw[z9j]
 exact wpAny_pure h
theorem zbx(xs:Array Value)(i k:Nat):((List.range k).filterMap fun(m:Nat)=>xs[((i:Int)+(m:Int)*1).toNat]?).toArray=((xs.toList.drop i).take k).toArray:=by
 have e:(fun(m:Nat)=>xs[((i:Int)+(m:Int)*1).toNat]?)=fun m=>xs[i+m]? :=by
  funext m
  have:((i:Int)+(m:Int)*1).toNat=i+m:=by lia
  rw[this]
 rw[e]
 have:=pick_run xs i k
 rw[List.filterMap_map] at this
 have e2:((fun x=>xs[x]?)∘fun x=>i+x)=fun m=>xs[i+m]? :=rfl
 rw[e2] at this
 rw[this]
theorem getItem_tuple_cut{t sl:Addr}{items:Array Value}{vl vu:Value}{lo hi:Option Int}{Q:Value->Shared->Prop}(ht:IsTup s.heap t items)(hs:s.heap.IsSliceOf sl vl vu .none)(pl:IsPart vl lo)(pu:IsPart vu hi)
 (hw: ¬(sIx items.size 0 lo=0/\sIx items.size items.size hi=items.size))
 (h:Q (.ref s.heap.objs.size) {s with heap:=s.heap.push {cls:= .type "tuple",data:= .seq ((items.toList.drop (sIx items.size 0 lo)).take (sIx items.size items.size hi -sIx items.size 0 lo)).toArray}})
 (hsz:items.size<=sizeLine):wpAny (model prog w) A (getItem (.ref t) (.ref sl)) Q E s:=by
 have htake:sizeOk (.seq ((items.toList.drop (sIx items.size 0 lo)).take (sIx items.size items.size hi -sIx items.size 0 lo)).toArray):=by
  show((items.toList.drop (sIx items.size 0 lo)).take (sIx items.size items.size hi -sIx items.size 0 lo)).toArray.size<=sizeLine
  rw[List.size_toArray,List.length_take,List.length_drop,Array.length_toList]
  lia
 have hj:sIx items.size items.size hi<=items.size:=zf5 _ _ (Nat.le_refl _) hi
 obtain⟨os,hos,hcs,hds⟩:=id hs
 have hTs:s.TypeIs (.ref sl) "slice" :=⟨os,hos,hcs⟩
 unfold getItem
 try with_reducible refine wpAny_holding ?_
 first|refine wpAny_bind (wpAny_pure ?_)|skip
 refine wpAny_bind (wpAny_sequenceKey ht.typeIs (by decide) ?_)
 refine wpAny_bind (wpAny_callSpecial?_slot (name:=Str.ofString "__getitem__") ht.typeIs PyProof.Rows.slot_tuple_getitem
  (wpAny_call_entry PyProof.Rows.slot_tuple_getitem ht.typeIs entry_tuple_getitem ?_ (args_tuple_getitem _ _)))
 show wpAny _ _ (Builtin.Tuple.tupleItemsOf (.ref t)>>=_) _ _ s
 refine wpAny_bind (tupleItemsOf_ ht ?_)
 refine wpAny_bind (wpAny_typeOf hTs ?_)
 rw[if_pos (by decide)]
 refine wpAny_bind (z3i hs pl pu ?_)
 have hno: ¬((((sIx items.size 0 lo:Nat):Int)==0&&(1:Int)==1&&(sIx items.size items.size hi -sIx items.size 0 lo)==items.size)=true):=by
  intro q
  rw[Bool.and_eq_true,Bool.and_eq_true] at q
  have q1:((sIx items.size 0 lo:Nat):Int)=0:=eq_of_beq q.1.1
  have q2:sIx items.size items.size hi -sIx items.size 0 lo=items.size:=eq_of_beq q.2
  exact hw ⟨by lia,by lia⟩
 show wpAny _ _ (if(((sIx items.size 0 lo:Nat):Int)==0&&(1:Int)==1&&(sIx items.size items.size hi -sIx items.size 0 lo)==items.size)=true then _ else _) _ _ s
 rw[if_neg hno,zbx]
 first
  |exact wpAny_bind (m:=Builtin.Tuple.tupleExact _) (wpAny_newObj_type (wpAny_pure ⟨_,rfl,wpAny_pure h⟩) htake)
  |exact wpAny_bind (m:=Builtin.Tuple.tupleExact _) (wpAny_newObj_type (wpAny_bind (wpAny_pure (wpAny_pure ⟨_,rfl,wpAny_pure h⟩))) htake)
  |exact wpAny_bind (wpAny_bind (m:=Builtin.Tuple.tupleExact _) (wpAny_newObj_type (wpAny_pure (wpAny_pure ⟨_,rfl,wpAny_pure h⟩)) htake))
  |exact wpAny_bind (wpAny_bind (m:=Builtin.Tuple.tupleExact _) (wpAny_newObj_type (wpAny_pure ⟨_,rfl,wpAny_pure h⟩) htake))
end
end HT
namespace L2
open PySem PySem.Spec PyProof.Rows
noncomputable abbrev TO:=St->Hp->(Option Int->Hp->Prop)->Prop
noncomputable def PO(X:Cx)(e:Option Expr)(t:TO):Prop:=
 ∀(pins:List (Addr×Obj)) (s:Shared) (σ:St) (H:Hp) (Q:Option Int->Hp->Prop),Inv X pins σ H s->t σ H Q->
  wpAny (model X.prog X.w) X.A (evalPart e X.env) (fun u s'=> ∃o H',Inv X pins σ H' s'/\IsPart u o/\Q o H') X.xe s
noncomputable def zdd:TO:=fun _ H Q=>Q none H
noncomputable def zht(t:TE):TO:=fun σ H Q=>t σ H fun x H1=> ∃i,x= .int i/\Q (some i) H1
section
variable{X:Cx}{e:Expr}{te:TE}{lo hi:Option Expr}{tl th:TO}{pos p2:Pos}
theorem zde:PO X none zdd:=by
 intro pins s σ H Q I h
 rw[evalPart_none]
 exact wpAny_pure ⟨none,H,I, .none,h⟩
theorem zdf(h:PE X e te):PO X (some e) (zht te):=by
 intro pins s σ H Q I hw
 rw[evalPart_some]
 refine thn (h pins s σ H _ I hw) fun u s1 ⟨x,H1,I1,r1,q1⟩=> ?_
 obtain⟨i,rfl,q⟩:=q1
 obtain⟨t,rfl⟩:=r1
 exact⟨some i,H1,I1, .int i t,q⟩
noncomputable def SlR(X:Cx)(r:V->Option Int->Option Int->Hp->VK->Prop):Prop:=
 ∀(pins:List (Addr×Obj)) (s:Shared) (σ:St) (H:Hp) (x:V) (v vl vu:Value) (lo hi:Option Int) (sl:Addr) (Q:VK),Inv X pins σ H s->RelV x v->s.heap.IsSliceOf sl vl vu .none->IsPart vl lo->IsPart vu hi->r x lo hi H Q->
  ∃T id,typeLookup (.type T) "__getitem__" =pure (some (.builtin id))/\s.TypeIs v T/\wpAny (model X.prog X.w) X.A (getItem v (.ref sl)) (EP X pins σ Q) X.xe s
theorem SlR.or{r r':V->Option Int->Option Int->Hp->VK->Prop}(h:SlR X r)(h':SlR X r'):SlR X (fun x lo hi H Q=>r x lo hi H Q\/r' x lo hi H Q):=by
 intro pins s σ H x v vl vu lo hi sl Q I rx hs pl pu q
 rcases q with q|q
 ·exact h pins s σ H x v vl vu lo hi sl Q I rx hs pl pu q
 ·exact h' pins s σ H x v vl vu lo hi sl Q I rx hs pl pu q
noncomputable def tSl(r:V->Option Int->Option Int->Hp->VK->Prop)(te:TE)(tl th:TO):TE:=fun σ H Q=>te σ H fun x H1=>tl σ H1 fun l H2=>th σ H2 fun u H3=>r x l u H3 Q
theorem zby{r:V->Option Int->Option Int->Hp->VK->Prop}(hr:SlR X r)(he:PE X e te)(hl:PO X lo tl)(hu:PO X hi th):PE X (.Subscript e (.Slice lo hi none p2) pos) (tSl r te tl th):=by
 intro pins s σ H Q I h
 refine Subscript_ (thn (he pins s σ H _ I h) fun v s1 ⟨x,H1,I1,r1,q1⟩=> ?_)
 refine wpAny_Slice (thn (hl pins s1 σ H1 _ I1 q1) fun vl s2 ⟨l,H2,I2,pl,q2⟩=>thn (hu pins s2 σ H2 _ I2 q2) fun vu s3 ⟨u,H3,I3,pu,q3⟩=> ?_)
 rw[evalPart_none]
 refine wpAny_pure ?_
 have I4:Inv X pins σ H3 {s3 with heap:=s3.heap.push {cls:= .type "slice",data:= .fields #[vl,vu, .none]}}:=I3.kept (t':=s3.toks) fun b ob q=>Heap.get?_push_of_some _ q
 obtain⟨T,id,hT,ht,hg⟩:=hr pins {s3 with heap:=s3.heap.push {cls:= .type "slice",data:= .fields #[vl,vu, .none]}} σ H3 x v vl vu l u s3.heap.objs.size Q I4 r1 (Heap.IsSliceOf.new ..) pl pu q3
 show wpAny (model X.prog X.w) X.A (subscriptTail e (.Slice lo hi none p2) v (.ref s3.heap.objs.size)) (EP X pins σ Q) X.xe {s3 with heap:=s3.heap.push {cls:= .type "slice",data:= .fields #[vl,vu, .none]}}
 exact tail_any (ops:=[.ref s3.heap.objs.size,v]) ht hT hg (by with_unfolding_all rfl)
noncomputable def cutV(xs:List V)(lo hi:Option Int):List V:=(xs.drop (HT.sIx xs.length 0 lo)).take (HT.sIx xs.length xs.length hi -HT.sIx xs.length 0 lo)
theorem z5m(xs:List V)(lo hi:Option Int):(cutV xs lo hi).length<=xs.length:=by
 unfold cutV
 rw[List.length_take,List.length_drop]
 lia
noncomputable def rSlT(K:W.Frag):V->Option Int->Option Int->Hp->VK->Prop:=fun x lo hi H Q=> ∃a xs,x= .ref a/\SqT K H a xs/\
 ¬(HT.sIx xs.length 0 lo=0/\HT.sIx xs.length xs.length hi=xs.length)/\∀p,H p=none->Q (.ref p) (upd H p (.tup (cutV xs lo hi)))
theorem zf6:SlR X (rSlT X.K):=by
 intro pins s σ H x v vl vu lo hi sl Q I rx hs pl pu h
 obtain⟨a,xs,rfl,hx,hw,q⟩:=h
 cases rx
 obtain⟨its,r,ht,hz⟩:=I.tuple hx
 have hlen:its.toArray.size=xs.length:=by rw[List.size_toArray];exact r.length.symm
 refine⟨"tuple",_,PyProof.Rows.slot_tuple_getitem.lookup,ht.typeIs, ?_⟩
 refine HT.getItem_tuple_cut ht hs pl pu (by rw[hlen];exact hw) ?_ (by rw[hlen];exact hz)
 rw[hlen]
 refine⟨.ref s.heap.objs.size,_,I.laid (t':=s.toks) (o:= .tup (cutV xs lo hi)) (fun b ob q=>Heap.get?_push_of_some _ q) (Nat.le_refl _) ?_,rfl,q _ (I.hok.fresh (Nat.le_refl _))⟩
 exact⟨Nat.le_trans (z5m xs lo hi) hz,_,(r.drop (HT.sIx xs.length 0 lo)).take (HT.sIx xs.length xs.length hi -HT.sIx xs.length 0 lo),IsTup.new _ _⟩
noncomputable def zhu(K:W.Frag):R2:=fun x y H Q=> ∃a b xs ys,x= .ref a/\y= .ref b/\SqT K H a xs/\SqT K H b ys/\xs≠[]/\xs.length+ys.length<=sizeLine/\
 (ys=[]->Q (.ref a) H)/\(ys≠[]->∀p,H p=none->Q (.ref p) (upd H p (.tup (xs++ys))))
theorem Vals.nil_iff{xs:List V}{us:List Value}(r:Vals xs us):us=[]↔xs=[]:=by
 cases r with
 |nil=>simp
 |cons _ _=>simp
theorem zdg:OpR X (binaryOp .Add) (zhu X.K):=by
 intro pins s σ H x y v u Q I rx ry h
 obtain⟨a,b,xs,ys,rfl,rfl,ha,hb,hx,hz,q1,q2⟩:=h
 cases rx
 cases ry
 obtain⟨its,r1,p1,_⟩:=I.tuple ha
 obtain⟨its2,r2,p2,_⟩:=I.tuple hb
 refine HT.cat_tup p1 p2 (fun z=>hx (r1.nil_iff.mp z)) (fun z=>⟨.ref a,H,I,rfl,q1 (r2.nil_iff.mp z)⟩) (fun z=> ?_) (by rw[<-r1.length,<-r2.length];exact hz)
 refine⟨.ref s.heap.objs.size,_,I.laid (t':=s.toks) (o:= .tup (xs++ys)) (fun b ob q=>Heap.get?_push_of_some _ q) (Nat.le_refl _) ?_,rfl,q2 (fun w=>z (r2.nil_iff.mpr w)) _ (I.hok.fresh (Nat.le_refl _))⟩
 exact⟨by rw[List.length_append];exact hz,_,r1.append r2,IsTup.new _ _⟩
end
noncomputable def ixN(n:Nat)(i:Int):Option Nat:=if 0<=i then(if i<n then some i.toNat else none) else if -(n:Int)<=i then some (i+n).toNat else none
noncomputable def atI{α:Type}(xs:List α)(i:Int):Option α:=(ixN xs.length i).bind fun j=>xs[j]?
theorem z9Y{n:Nat}{i:Int}{j:Nat}(h:ixN n i=some j):seqIndex? i n=some j/\j<n/\-(n:Int)<=i/\i<n:=by
 unfold ixN at h
 by_cases h0:0<=i
 ·rw[if_pos h0] at h
  by_cases h1:i<n
  ·rw[if_pos h1] at h
   have e:i.toNat=j:=Option.some.inj h
   exact⟨by rw[seqIndex_of h0 h1,e],by lia,by lia,h1⟩
  ·rw[if_neg h1] at h;cases h
 ·rw[if_neg h0] at h
  by_cases h1: -(n:Int)<=i
  ·rw[if_pos h1] at h
   have e:(i+n).toNat=j:=Option.some.inj h
   exact⟨by rw[seqIndex_neg (by lia) h1,e],by lia,h1,by lia⟩
  ·rw[if_neg h1] at h;cases h
theorem z9Z{α:Type}{xs:List α}{i:Int}{v:α}(h:atI xs i=some v): ∃j,seqIndex? i xs.length=some j/\xs[j]? =some v/\j<xs.length/\-(xs.length:Int)<=i/\i<xs.length:=by
 unfold atI at h
 cases e:ixN xs.length i with
 |none=>rw[e] at h;cases h
 |some j=>
  rw[e] at h
  obtain⟨h1,h2,h3,h4⟩:=z9Y e
  exact⟨j,h1,h,h2,h3,h4⟩
theorem za0{α:Type}{xs:List α}{j:Nat}{v:α}(h:xs[j]? =some v):atI xs (j:Int)=some v:=by
 have hj:j<xs.length:=(List.getElem?_eq_some_iff.mp h).1
 have e:ixN xs.length (j:Int)=some j:=by
  unfold ixN
  rw[if_pos (by lia),if_pos (by lia)];simp
 unfold atI;rw[e];exact h
theorem z3O{α:Type}(xs:List α)(v:α):atI (xs++[v]) (-1)=some v:=by
 have hl:(xs++[v]).length=xs.length+1:=by simp
 have e:ixN (xs++[v]).length (-1)=some xs.length:=by
  unfold ixN
  rw[hl,if_neg (by decide),if_pos (by lia)]
  congr 1
  lia
 unfold atI
 rw[e]
 show(xs++[v])[xs.length]? =some v
 simp
noncomputable def z3q(b:Expr):Prop:= ∀o i,subscripted b false o i=operate [o,i] (getItem o i)
noncomputable def IxR(X:Cx)(r:R2):Prop:=
 ∀(value slice:Expr) (pins:List (Addr×Obj)) (s:Shared) (σ:St) (H:Hp) (x y:V) (v u:Value) (Q:VK),Inv X pins σ H s->RelV x v->RelV y u->r x y H Q->
  subscripted slice false v u=operate [v,u] (getItem v u)->wpAny (model X.prog X.w) X.A (subscriptTail value slice v u) (EP X pins σ Q) X.xe s
noncomputable def MtR(X:Cx)(id:String)(r:V->List V->Hp->VK->Prop):Prop:=
 ∀(pins:List (Addr×Obj)) (s:Shared) (σ:St) (H:Hp) (x:V) (xs:List V) (v:Value) (us:List Value) (Q:VK),Inv X pins σ H s->RelV x v->Vals xs us->r x xs H Q->
  wpAny (model X.prog X.w) X.A (call (.builtin id) (v::us)) (EP X pins σ Q) X.xe s
section
variable{X:Cx}{a b:Expr}{ta tb:TE}{pos:Pos}
theorem IxR.or{r r':R2}(h:IxR X r)(h':IxR X r'):IxR X (fun x y H Q=>r x y H Q\/r' x y H Q):=by
 intro value slice pins s σ H x y v u Q I rx ry q hs
 rcases q with q|q
 ·exact h value slice pins s σ H x y v u Q I rx ry q hs
 ·exact h' value slice pins s σ H x y v u Q I rx ry q hs
theorem zhv{r:R2}(hr:IxR X r)(ha:PE X a ta)(hb:PE X b tb)(hs:z3q b):PE X (.Subscript a b pos) (tOp r ta tb):=by
 intro pins s σ H Q I h
 exact Subscript_ (binT ha hb I h fun v u s2 x y H2 I2 rx ry q=>hr a b pins s2 σ H2 x y v u Q I2 rx ry q (hs _ _))
noncomputable def rIxL(K:W.Frag):R2:=fun x y H Q=> ∃p xs i v,x= .ref p/\y= .int i/\SqL K H p xs/\atI xs i=some v/\Q v H
noncomputable def rIxT(K:W.Frag):R2:=fun x y H Q=> ∃p xs i v,x= .ref p/\y= .int i/\SqT K H p xs/\atI xs i=some v/\Q v H
theorem zdh:IxR X (rIxL X.K):=by
 intro value slice pins s σ H x y v u Q I rx ry h hs
 obtain⟨p,xs,i,z,rfl,rfl,hq,he,q⟩:=h
 cases rx
 obtain⟨t,rfl⟩:=ry
 obtain⟨its,r,pl,hz⟩:=I.list hq
 obtain⟨j,h1,h2,h3,h4,h5⟩:=z9Z he
 obtain⟨w,ew,rw'⟩:=r.get h2
 have hl:=r.length
 have hn:=z6n
 have fin:EP X pins σ Q w s:=⟨z,H,I,rw',q⟩
 by_cases h0:0<=i
 ·have hj:i.toNat=j:=by
   rw[seqIndex_of h0 h5] at h1
   exact Option.some.inj h1
  exact item_listR pl.isList h0 (by lia) (by rw[hj];simpa using ew) fin hs
 ·have hj:(i+(its.toArray.size:Int)).toNat=j:=by
   rw[seqIndex_neg (by lia) h4] at h1
   rw[List.size_toArray,<-hl]
   exact Option.some.inj h1
  exact subscriptTail_builtinR (x:=w) pl.isList.typeIs slot_list_getitem.lookup
   (wpAny_getItem_list_neg (Q:=fun r s'=>r=w/\EP X pins σ Q r s') pl.isList (by lia) (by rw[List.size_toArray]<;>lia) (by lia) (by rw[hj];simpa using ew) ⟨rfl,fin⟩) hs
theorem zf7:IxR X (rIxT X.K):=by
 intro value slice pins s σ H x y v u Q I rx ry h hs
 obtain⟨p,xs,i,z,rfl,rfl,hq,he,q⟩:=h
 cases rx
 obtain⟨t,rfl⟩:=ry
 obtain⟨its,r,pl,hz⟩:=I.tuple hq
 obtain⟨j,h1,h2,h3,h4,h5⟩:=z9Z he
 obtain⟨w,ew,rw'⟩:=r.get h2
 have hl:=r.length
 have hn:=z6n
 have fin:EP X pins σ Q w s:=⟨z,H,I,rw',q⟩
 exact subscriptTail_builtinR (x:=w) pl.typeIs slot_tuple_getitem.lookup
  (getItem_tuple (j:=j) (Q:=fun r s'=>r=w/\EP X pins σ Q r s') pl (by lia) (by lia) (by rw[List.size_toArray,<-hl];exact h1) (by simpa using ew) ⟨rfl,fin⟩) hs
theorem z9k(its:List Value)(n j:Nat)(u:Value):Obj.mapSeq (·.setIfInBounds j u) {cls:= .type "list",data:= .seq its.toArray n}={cls:= .type "list",data:= .seq (its.set j u).toArray n}:=by
 simp[Obj.mapSeq]
theorem Inv.lst{pins:List (Addr×Obj)}{σ:St}{H:Hp}{s:Shared}{p:Addr}{xs:List V}(I:Inv X pins σ H s)(h:H p=some (.lst xs)):
 ∃(its:List Value) (n:Nat),Vals xs its/\s.heap.get? p=some {cls:= .type "list",data:= .seq its.toArray n}/\xs.length<=sizeLine:=by
 obtain⟨z,its,n,r,e⟩:=I.hok p _ h
 exact⟨its,n,r,e,z⟩
theorem Inv.lstUpd{pins:List (Addr×Obj)}{σ:St}{H:Hp}{s:Shared}{p:Addr}{xs ys:List V}{its its':List Value}{n n':Nat}{f:Obj->Obj}(I:Inv X pins σ H s)(h:H p=some (.lst xs))
 (ho:s.heap.get? p=some {cls:= .type "list",data:= .seq its.toArray n}) (hf:f {cls:= .type "list",data:= .seq its.toArray n}={cls:= .type "list",data:= .seq its'.toArray n'}) (r:Vals ys its') (hz:ys.length<=sizeLine) (t:Nat):
 Inv X pins σ (upd H p (.lst ys)) {s with heap:=s.heap.update p f,toks:=t}:=by
 have e:(s.heap.update p f).get? p=some {cls:= .type "list",data:= .seq its'.toArray n'}:=by
  rw[Heap.get?_update_self f ho (by rw[hf]<;>rfl),hf]
 refine I.write (x:=p) (e:=p) (by rw[h];trivial) (.inl rfl) (fun b u hb q=>(Heap.get?_update_other _ _ (Ne.symm hb)).trans q) ⟨_,e⟩ ?_
 exact⟨hz,its',n',r,e⟩
noncomputable def zbz:V->V->V->Hp->(Hp->Prop)->Prop:=fun o i v H Q=> ∃p xs k j,o= .ref p/\i= .int k/\H p=some (.lst xs)/\ixN xs.length k=some j/\Q (upd H p (.lst (xs.set j v)))
theorem z8y:PSet X zbz:=by
 intro pins s σ H o i v ov iv u Q I ro ri rv h
 obtain⟨p,xs,k,j,rfl,rfl,hp,hj,q⟩:=h
 cases ro
 obtain⟨t,rfl⟩:=ri
 obtain⟨its,n,r,ho,hz⟩:=I.lst hp
 obtain⟨h1,h2,h3,h4⟩:=z9Y hj
 have hl:=r.length
 have hn:=z6n
 have I':Inv X pins σ (upd H p (.lst (xs.set j v))) {s with heap:=s.heap.update p (Obj.mapSeq (·.setIfInBounds j u))}:=
  I.lstUpd hp ho (z9k its n j u) (r.set rv j) (by rw[List.length_set];exact hz) s.toks
 by_cases h0:0<=k
 ·have hk:k.toNat=j:=by
   rw[seqIndex_of h0 h4] at h1
   exact Option.some.inj h1
  exact W.ki_setAt ho h0 (by lia) (by rw[List.size_toArray,<-hl];exact h4) (by rw[hk];exact⟨_,I',q⟩)
 ·have hk:(k+(its.toArray.size:Int)).toNat=j:=by
   rw[seqIndex_neg (by lia) h3] at h1
   rw[List.size_toArray,<-hl]
   exact Option.some.inj h1
  exact W.ki_setBack ho (by lia) (by rw[List.size_toArray,<-hl];exact h3) (by lia) (by rw[hk];exact⟨_,I',q⟩)
theorem z7j(lo hi:Option Int)(n:Nat):(sliceBounds lo hi none n).1=((HT.sIx n 0 lo:Nat):Int)/\(sliceBounds lo hi none n).2.1=((HT.sIx n n hi:Nat):Int)/\(sliceBounds lo hi none n).2.2=1:=by
 refine⟨?_, ?_,rfl⟩
 ·cases lo with
  |none=>simp[sliceBounds,HT.sIx]
  |some i=>
   simp only[sliceBounds,HT.sIx,Option.getD_none,show(1:Int)>0 by decide,if_true]
   by_cases h:i<0
   ·simp only[h,if_true]<;>lia
   ·simp only[h,if_false]<;>lia
 ·cases hi with
  |none=>simp[sliceBounds,HT.sIx]
  |some i=>
   simp only[sliceBounds,HT.sIx,Option.getD_none,show(1:Int)>0 by decide,if_true]
   by_cases h:i<0
   ·simp only[h,if_true]<;>lia
   ·simp only[h,if_false]<;>lia
theorem z6C(its:List Value)(lo hi:Option Int):slicePick its.toArray lo hi none=((its.drop (HT.sIx its.length 0 lo)).take (HT.sIx its.length its.length hi -HT.sIx its.length 0 lo)).toArray:=by
 obtain⟨h1,h2,h3⟩:=z7j lo hi its.toArray.size
 unfold slicePick
 rw[h1,h2,h3]
 simp only[sliceRange_one,pick_run,List.size_toArray]<;>rfl
noncomputable def rSlL(K:W.Frag):V->Option Int->Option Int->Hp->VK->Prop:=fun x lo hi H Q=> ∃a xs,x= .ref a/\SqL K H a xs/\∀p,H p=none->Q (.ref p) (upd H p (.lst (cutV xs lo hi)))
theorem zdi:SlR X (rSlL X.K):=by
 intro pins s σ H x v vl vu lo hi sl Q I rx hs pl pu h
 obtain⟨a,xs,rfl,hx,q⟩:=h
 cases rx
 obtain⟨its,r,ht,hz⟩:=I.list hx
 have hlen:=r.length
 refine⟨"list",_,slot_list_getitem.lookup,ht.isList.typeIs, ?_⟩
 refine wpAny_getItem_list_slice ht.isList hs pl pu .none (by simp) ?_ (by rw[List.size_toArray]<;>lia)
 rw[z6C,<-hlen]
 refine⟨.ref s.heap.objs.size,_,I.laid (t':=s.toks) (o:= .lst (cutV xs lo hi)) (fun b ob q=>Heap.get?_push_of_some _ q) (Nat.le_refl _) ?_,rfl,q _ (I.hok.fresh (Nat.le_refl _))⟩
 exact⟨Nat.le_trans (z5m xs lo hi) hz,_,0,(r.drop (HT.sIx xs.length 0 lo)).take (HT.sIx xs.length xs.length hi -HT.sIx xs.length 0 lo),Heap.get?_push_size _ rfl⟩
theorem z7k:CallR X (.builtin "len") (fun xs H Q=> ∃p ys,xs=[.ref p]/\(SqL X.K H p ys\/SqT X.K H p ys)/\Q (.int ys.length) H):=by
 intro pins s σ H xs us Q I r h
 obtain⟨p,ys,rfl,hq,q⟩:=h
 obtain⟨u,rfl,rx⟩:=z7V r
 cases rx
 have hn:=z6n
 rcases hq with hq|hq
 ·obtain⟨its,r',pl,hz⟩:=I.list hq
  have hlen:=r'.length
  exact Calls.call_len_list pl.isList (by simp only[List.size_toArray]<;>lia) ⟨.int ys.length,H,I.tok _,⟨s.toks+1,by rw[List.size_toArray,hlen]⟩,q⟩
 ·obtain⟨its,r',pl,hz⟩:=I.tuple hq
  have hlen:=r'.length
  exact len_tuple pl (by simp only[List.size_toArray]<;>lia) ⟨.int ys.length,H,I.tok _,⟨s.toks+1,by rw[List.size_toArray,hlen]⟩,q⟩
theorem z6D:CallR X (.type "tuple") (fun xs H Q=> ∃p ys,xs=[.ref p]/\((SqL X.K H p ys/\∀l,H l=none->Q (.ref l) (upd H l (.tup ys)))\/(SqT X.K H p ys/\Q (.ref p) H))):=by
 intro pins s σ H xs us Q I r h
 obtain⟨p,ys,rfl,h⟩:=h
 obtain⟨u,rfl,rx⟩:=z7V r
 cases rx
 rcases h with⟨hq,q⟩|⟨hq,q⟩
 ·obtain⟨its,r',pl,hz⟩:=I.list hq
  have hlen:=r'.length
  refine call_tuple_list pl.isList (fun h' kp=> ?_) (by simp only[List.size_toArray]<;>lia)
  have I1:Inv X pins σ H {s with heap:=h'}:=I.kept (t':=s.toks) kp
  have I2:Inv X pins σ (upd H h'.objs.size (.tup ys)) {s with heap:=h'.push {cls:= .type "tuple",data:= .seq its.toArray}}:=
   I1.laid (t':=s.toks) (fun b o e=>Heap.get?_push_of_some _ e) (Nat.le_refl _) (show z2i X.prog X.w _ _ _ (.tup ys) from⟨hz,its,r',IsTup.new _ _⟩)
  exact⟨.ref h'.objs.size,_,I2,rfl,q _ (I1.hok.fresh (Nat.le_refl _))⟩
 ·obtain⟨its,r',pl,hz⟩:=I.tuple hq
  exact call_tuple_same pl ⟨.ref p,H,I,rfl,q⟩
noncomputable def tyV(K:W.Frag)(T:String)(x:V)(H:Hp):Prop:=match x with
 | .str _=>T= "str"
 | .int _=>T= "int"
 | .ref p=>(T= "list" /\∃xs,SqL K H p xs)\/(T= "tuple" /\∃o,K.lookup p=some o/\o.cls= .type "tuple" /\o.dict=none)\/
  (T= "dict" /\((∃kvs,H p=some (.dK kvs))\/∃kvs,H p=some (.dT kvs)))\/(T= "set" /\∃S n,H p=some (.set S n))
 |_=>False
theorem zf8{pins:List (Addr×Obj)}{σ:St}{H:Hp}{s:Shared}{T:String}{x:V}{v:Value}(I:Inv X pins σ H s)(r:RelV x v)(ty:tyV X.K T x H):
 s.TypeIs v T/\∀a,v= .ref a->∃ob,s.heap.get? a=some ob/\ob.dict=none:=by
 cases x with
 |str z=>
  obtain⟨t,rfl⟩:=r
  cases(show T= "str" from ty)
  exact⟨typeIs_str s z t,fun _ e=>nomatch e⟩
 |int i=>
  obtain⟨t,rfl⟩:=r
  cases(show T= "int" from ty)
  exact⟨typeIs_int s i t,fun _ e=>nomatch e⟩
 |ref p=>
  cases r
  rcases ty with⟨rfl,xs,hq⟩|⟨rfl,o,hk,hc,hd⟩|⟨rfl,hk⟩|⟨rfl,S,n,hk⟩
  ·obtain⟨its,_,pl,_⟩:=I.list hq
   refine⟨pl.isList.typeIs,fun a e=> ?_⟩
   cases e
   obtain⟨o,n,e,c,hd,_⟩:=pl
   exact⟨o,e,hd⟩
  ·refine⟨⟨o,I.kIn p o hk,hc⟩,fun a e=> ?_⟩
   cases e
   exact⟨o,I.kIn _ o hk,hd⟩
  ·have z: ∃o,s.heap.get? p=some o/\o.ExactDict:=by
    rcases hk with⟨kvs,hk⟩|⟨kvs,hk⟩
    ·obtain⟨_,_,_,_,o,_,_,e,ex,_⟩:=I.hok p _ hk
     exact⟨o,e,ex⟩
    ·obtain⟨_,_,_,_,o,_,_,e,ex,_⟩:=I.hok p _ hk
     exact⟨o,e,ex⟩
   obtain⟨o,e,ex⟩:=z
   refine⟨⟨o,e,ex.1⟩,fun a e2=> ?_⟩
   cases e2
   exact⟨o,e,ex.2.1⟩
  ·obtain⟨o,_,_,_,e,ex,_⟩:=I.hok p _ hk
   refine⟨⟨o,e,ex.1⟩,fun a e2=> ?_⟩
   cases e2
   exact⟨o,e,ex.2.1⟩
 |_=>exact False.elim ty
noncomputable def tBM(K:W.Frag)(T:String)(r:V->List V->Hp->VK->Prop)(to:TE)(t:TA):TE:=fun σ H Q=>to σ H fun x H1=>tyV K T x H1/\t σ H1 fun xs H2=>r x xs H2 Q
variable{o e:Expr}{es:List Expr}{to:TE}{t:TA}{name:Str}{apos cpos:Pos}{T id:String}{r:V->List V->Hp->VK->Prop}
theorem zhw(pa:PlainAttrs T)(slot:Slot T name id)(hty:typeOf (.builtin id)=pure (.type "method_descriptor"))(hm:MtR X id r)(ho:PE X o to)(ha:PA X (e::es) t)
 (hbase:attributeBase o name X.env (eval o X.env)=eval o X.env:=by rfl)
 (hfew:((backTo cpos (starEach (e::es) X.env)).all (fun x=> !x.1)&&(backToKw cpos (keywordEach [] X.env)).all (fun x=>x.1.isSome)
  &&decide ((e::es).length+([]:List Keyword).length+(if([]:List Keyword).isEmpty then 0 else 1)<30))=true:=by rfl)
 (hline:(apos.endLine==cpos.line)=true:=by rfl) (hs:starEach (e::es) X.env=(false,eval e X.env)::starEach es X.env:=by rfl) (hplain:(backTo cpos (starEach es X.env)).any (·.1)=false:=by rfl):
 PE X (.Call (.Attribute o name apos) (e::es) [] cpos) (tBM X.K T r to t):=by
 intro pins s σ H Q I h
 refine wpAny_Call_method_late hbase hfew hline rfl (thn (ho pins s σ H _ I h) fun v s1 ⟨x,H1,I1,r1,ty,q1⟩=> ?_)
 obtain⟨h1,h2⟩:=zf8 I1 r1 ty
 refine⟨T,id,pa,slot,hty,h1,h2, ?_⟩
 have hA:=ha cpos pins s1 σ H1 _ I1 q1
 rw[hs] at hA⊢
 refine Calls.callWith_builtin (by show(false||(backTo cpos (starEach es X.env)).any (·.1))=false;rw[hplain]<;>rfl) (Calls.evalArgs_plain ?_)
 exact thn hA fun us s2 ⟨vs,H2,I2,r2,q2⟩=>hm pins s2 σ H2 x vs v us Q I2 r1 r2 q2
end
noncomputable def MtM(X:Cx)(id:String)(r:V->List V->Hp->VK->Prop):Prop:=
 ∀(pins:List (Addr×Obj)) (s:Shared) (σ:St) (H:Hp) (x:V) (xs:List V) (v:Value) (us:List Value) (Q:VK),Inv X pins σ H s->RelV x v->Vals xs us->r x xs H Q->
  wpAny (model X.prog X.w) X.A (call (.builtin id) (v::us)) (EP X pins σ Q) X.xe s
theorem Vals.one: ∀{x:V} {us:List Value},Vals [x] us->∃u,us=[u]/\RelV x u
 |_,_, .cons r .nil=>⟨_,rfl,r⟩
theorem Vals.rep{xs:List V}{us:List Value}(h:Vals xs us): ∀k:Nat,Vals (List.replicate k xs).flatten (List.replicate k us).flatten
 |0=> .nil
 |k+1=>by
  rw[List.replicate_succ,List.replicate_succ,List.flatten_cons,List.flatten_cons]
  exact Vals.append h (Vals.rep h k)
theorem z5n(its:List Value): ∀(k:Nat) (acc:List Value),
 List.foldl (fun x1 x2=>x1++x2) acc.toArray (List.replicate k its.toArray)=(acc++(List.replicate k its).flatten).toArray
 |0,acc=>by simp
 |k+1,acc=>by
  have e:acc.toArray++its.toArray=(acc++its).toArray:=by simp
  have e2:(acc++its)++(List.replicate k its).flatten=acc++(List.replicate (k+1) its).flatten:=by
   rw[List.replicate_succ,List.flatten_cons,List.append_assoc]
  rw[<-e2,<-z5n its k (acc++its),<-e,List.replicate_succ,List.foldl_cons]
section
variable{X:Cx}{pins:List (Addr×Obj)}{σ:St}{H:Hp}{s:Shared}{l b:Addr}{xs ys zs:List V}
theorem Inv.lset{its its':List Value}{n:Nat}{f:Array Value->Array Value}{t':Nat}(I:Inv X pins σ H s)(hH:H l=some (.lst xs))
 (e:s.heap.get? l=some {cls:= .type "list",data:= .seq its.toArray n}) (hf:f its.toArray=its'.toArray) (hv:Vals ys its') (hz:ys.length<=sizeLine):
 Inv X pins σ (upd H l (.lst ys)) {s with heap:=s.heap.update l (Obj.mapSeq f),toks:=t'}:=by
 have q:=PySem.IsL.update e f
 rw[hf] at q
 refine I.write (x:=l) (e:=l) (by rw[hH];exact trivial) (.inl rfl) (fun b' u hb hu=>(Heap.get?_update_other s.heap (Obj.mapSeq f) (Ne.symm hb)).trans hu) ⟨_,q⟩ ?_
 exact⟨hz,its',_,hv,q⟩
theorem Inv.lnew{its:List Value}{t':Nat}(I:Inv X pins σ H s)(hv:Vals ys its)(hz:ys.length<=sizeLine):
 Inv X pins σ (upd H s.heap.objs.size (.lst ys)) {s with heap:=s.heap.push {cls:= .type "list",data:= .seq its.toArray},toks:=t'}:=
 I.laid (fun _ _ q=>Heap.get?_push_of_some _ q) (Nat.le_refl _) ⟨hz,its,0,hv,Heap.get?_push_size _ rfl⟩
theorem Inv.fresh(I:Inv X pins σ H s):H s.heap.objs.size=none:=I.hok.fresh (Nat.le_refl _)
theorem Inv.lstM(I:Inv X pins σ H s)(hH:H l=some (.lst xs)):xs.length<=sizeLine/\∃(its:List Value) (n:Nat),Vals xs its/\xs.length=its.length/\s.heap.get? l=some {cls:= .type "list",data:= .seq its.toArray n}:=by
 obtain⟨z,its,n,r,e⟩:=I.hok l _ hH
 exact⟨z,its,n,r,r.length,e⟩
theorem zbA{n:Nat}(h:n<=sizeLine):Builtin.List.listTooLong n=false:=by
 unfold Builtin.List.listTooLong
 exact decide_eq_false (by lia)
end
section
variable{X:Cx}
noncomputable def za1:V->List V->Hp->VK->Prop:=fun x vs H Q=> ∃l xs y,x= .ref l/\vs=[y]/\H l=some (.lst xs)/\xs.length<sizeLine/\Q .non (upd H l (.lst (xs++[y])))
theorem z5o:MtM X "list.append" za1:=by
 intro pins s σ H x vs v us Q I rx rv h
 obtain⟨l,xs,y,rfl,rfl,hH,hz,q⟩:=h
 cases rx
 obtain⟨u,rfl,ru⟩:=rv.one
 obtain⟨z,its,n,r,hl,e⟩:=I.lstM hH
 refine call_meets F.slot_list_append ⟨_,e,rfl⟩ F.entry_list_append (F.args_list_append_2 _ _) (PySem.list_append l its.toArray n u (by rw[List.size_toArray];lia)) ⟨e, ?_⟩
 refine⟨.non,_,I.lset (its':=its++[u]) hH e (by simp) (r.append (.cons ru .nil)) ?_,rfl,q⟩
 rw[List.length_append,List.length_singleton]
 lia
noncomputable def rCat:R2:=fun x y H Q=> ∃l b xs zs,x= .ref l/\y= .ref b/\H l=some (.lst xs)/\H b=some (.lst zs)/\xs.length+zs.length<=sizeLine/\∀p,H p=none->Q (.ref p) (upd H p (.lst (xs++zs)))
theorem zf9:OpR X (binaryOp .Add) rCat:=by
 intro pins s σ H x y v u Q I rx ry h
 obtain⟨l,b,xs,zs,rfl,rfl,hH,hB,hz,q⟩:=h
 cases rx
 cases ry
 obtain⟨z,its,n,r,hl,e⟩:=I.lstM hH
 obtain⟨z2,its2,n2,r2,hl2,e2⟩:=I.lstM hB
 refine PySem.P.add_list e e2 ?_ (by rw[List.size_toArray,List.size_toArray];lia)
 have ea:its.toArray++its2.toArray=(its++its2).toArray:=by simp
 rw[ea]
 exact⟨.ref _,_,I.lnew (t':=s.toks) (r.append r2) (by rw[List.length_append];lia),rfl,q _ I.fresh⟩
noncomputable def rRep:R2:=fun x y H Q=> ∃l k xs,x= .ref l/\y= .int k/\H l=some (.lst xs)/\-(2^63)<=k/\k<2^63/\xs.length*k.toNat<=sizeLine/\
 ∀p,H p=none->Q (.ref p) (upd H p (.lst (List.replicate k.toNat xs).flatten))
theorem len_rep{α:Type}(xs:List α)(k:Nat):(List.replicate k xs).flatten.length=k*xs.length:=by
 induction k with
 |zero=>simp
 |succ k ih=>rw[List.replicate_succ,List.flatten_cons,List.length_append,ih,Nat.succ_mul,Nat.add_comm]
theorem zfa:OpR X (binaryOp .Mult) rRep:=by
 intro pins s σ H x y v u Q I rx ry h
 obtain⟨l,k,xs,rfl,rfl,hH,h1,h2,hz,q⟩:=h
 cases rx
 obtain⟨t,rfl⟩:=ry
 obtain⟨z,its,n,r,hl,e⟩:=I.lstM hH
 have hlen:its.toArray.size*k.toNat<=sizeLine:=by rw[List.size_toArray,<-hl];exact hz
 have hcap: ¬its.toArray.size*k.toNat>(2^63 - 1)/8:=by
  have:(sizeLine:Nat)<=(2^63 - 1)/8:=by decide
  lia
 have hfit: ¬(!Builtin.List.listFitsIndex k)=true:=by
  rw[fitsIndex_both h1 h2]
  exact Bool.false_ne_true
 have hlong: ¬Builtin.List.listTooLong (its.toArray.size*k.toNat)=true:=by
  rw[zbA hlen]
  exact Bool.false_ne_true
 have hnew:List.foldl (fun x1 x2=>x1++x2) #[] (List.replicate (if its.toArray.isEmpty=true then 0 else k.toNat) its.toArray)=(List.replicate k.toNat its).flatten.toArray:=by
  have f0: ∀m:Nat,List.foldl (fun x1 x2=>x1++x2) #[] (List.replicate m its.toArray)=(List.replicate m its).flatten.toArray:=fun m=>by
   have:=z5n its m []
   rw[List.nil_append] at this
   exact this
  rw[f0]
  cases its with
  |nil=>simp
  |cons a r'=>rw[if_neg (by simp)]
 refine wpAny_binaryOp_repeat_ref (T:= "list") (U:= "int") (by decide) ⟨_,e,rfl⟩ (fun s'=>typeIs_int s' k t) noFill_list_mul F.fills_int_mul F.slot_int_rmul repeat_list F.slot_int_index.lookup
  (call_meets F.slot_int_rmul (typeIs_int s k t) F.entry_int_rmul (F.args_int_rmul_2 _ _) (int___rmul___int_list k t l its.toArray n)
   ⟨e,rfl,⟨_,e,rfl⟩,call_meets F.slot_list_mul ⟨_,e,rfl⟩ F.entry_list_mul (F.args_list_mul_2 _ _) (AutoListH.list___mul___list_int_3 l its.toArray n k t hfit hcap hlong) ⟨e, ?_⟩⟩)
 rw[hnew]
 exact⟨.ref _,_,I.lnew (t':=s.toks) (r.rep k.toNat) (by rw[len_rep,Nat.mul_comm];exact hz),rfl,q _ I.fresh⟩
end
section
variable{prog:Program}{w:World}{A:Around}{E:Value->Shared->Prop}{s:Shared}
set_option maxRecDepth 100000 in
end
section
variable{κ:Type}[DecidableEq κ]
noncomputable def valV(kvs:List (κ×V))(k:κ):Option V:=(kvs.find? fun kv=>decide (kv.1=k)).map (·.2)
noncomputable def putK(kvs:List (κ×V))(k:κ)(v:V):List (κ×V):=
 if(kvs.any fun kv=>decide (kv.1=k))=true then kvs.map (fun kv=>if kv.1=k then(kv.1,v) else kv) else kvs++[(k,v)]
theorem z6E{p:κ×V}{r:List (κ×V)}{k:κ}(e:p.1=k):valV (p::r) k=some p.2:=by simp[valV,List.find?_cons,e]
theorem z5e{p:κ×V}{r:List (κ×V)}{k:κ}(e: ¬p.1=k):valV (p::r) k=valV r k:=by simp[valV,List.find?_cons,e]
theorem z7W(kvs:List (κ×V))(k:κ)(v:V):(putK kvs k v).length<=kvs.length+1:=by
 unfold putK
 split
 ·rw[List.length_map];lia
 ·rw[List.length_append,List.length_cons,List.length_nil];lia
theorem RelO.isSome_eq{o:Option V}{u:Option Value}(r:RelO o u):o.isSome=u.isSome:=by
 cases o with
 |none=>cases u with
  |none=>rfl
  |some _=>exact(show False from r).elim
 |some _=>cases u with
  |none=>exact(show False from r).elim
  |some _=>rfl
theorem KV.val{kvs:List (κ×V)}{vs:List (κ×Value)}(r:KV kvs vs)(k:κ):RelO (valV kvs k) (valueAt vs k):=by
 unfold KV at r
 induction r with
 |nil=>exact True.intro
 | @cons p q ps qs h t ih=>
  obtain⟨h1,h2⟩:=h
  by_cases e:p.1=k
  ·have e':q.1=k:=h1.symm.trans e
   have b:valueAt (q::qs) k=some q.2:=by simp[valueAt,List.find?_cons,e']
   rw[z6E e,b];exact h2
  ·have e': ¬q.1=k:=fun z=>e (h1.trans z)
   have b:valueAt (q::qs) k=valueAt qs k:=by simp[valueAt,List.find?_cons,e']
   rw[z5e e,b];exact ih
theorem KV.any{kvs:List (κ×V)}{vs:List (κ×Value)}(r:KV kvs vs)(k:κ):(kvs.any fun kv=>decide (kv.1=k))=vs.any fun kv=>decide (kv.1=k):=by
 unfold KV at r
 induction r with
 |nil=>rfl
 |cons h t ih=>rw[List.any_cons,List.any_cons,ih,h.1]
theorem KV.repl{kvs:List (κ×V)}{vs:List (κ×Value)}(r:KV kvs vs)(k:κ){y:V}{u:Value}(ry:RelV y u):
 KV (kvs.map fun kv=>if kv.1=k then(kv.1,y) else kv) (vs.map fun kv=>if kv.1=k then(kv.1,u) else kv):=by
 unfold KV at r⊢
 induction r with
 |nil=>exact .nil
 | @cons p q ps qs h t ih=>
  rw[List.map_cons,List.map_cons]
  refine .cons ?_ ih
  obtain⟨h1,h2⟩:=h
  by_cases e:p.1=k
  ·rw[if_pos e,if_pos (h1.symm.trans e)];exact⟨h1,ry⟩
  ·rw[if_neg e,if_neg (fun z=>e (h1.trans z))];exact⟨h1,h2⟩
theorem KV.put{kvs:List (κ×V)}{vs:List (κ×Value)}(r:KV kvs vs)(k:κ){y:V}{u:Value}(ry:RelV y u):KV (putK kvs k y) (stored vs k u):=by
 unfold putK stored
 rw[r.any k]
 by_cases e:(vs.any fun kv=>decide (kv.1=k))=true
 ·rw[if_pos e,if_pos e];exact r.repl k ry
 ·rw[if_neg e,if_neg e];exact Paired.snoc r ⟨rfl,ry⟩
end
theorem zbB{P:Program}{w:World}{k:Key}{u:Value}(r:RelV (kV k) u):(z1o P w).is k u=true:=by
 cases k with
 |inl i=>obtain⟨t,e⟩:=(show ∃t,u=Value.int i t from r);subst e;exact z7T P w i t
 |inr x=>obtain⟨t,e⟩:=(show ∃t,u=Value.str x t from r);subst e;exact z7U P w x t
theorem z7l{P:Program}{w:World}: ∀{ks:List Key} {us:List Value},Vals (ks.map kV) us->ItemsAre (z1o P w) ks us
 |[],_,r=>by rw[List.map_nil] at r;cases r;exact .nil
 |k::ks,_,r=>by
  rw[List.map_cons] at r
  cases r with
  |cons h t=>exact .cons (zbB h) (z7l t)
noncomputable abbrev KT(H:Hp):List (List Key×V)->List (List Key×Addr×Value)->Prop:=Paired fun p q=>p.1=q.1/\H q.2.1=some (.tup (p.1.map kV))/\RelV p.2 q.2.2
theorem KT.val{H:Hp}{kvs:List (List Key×V)}{xs:List (List Key×Addr×Value)}(r:KT H kvs xs)(k:List Key):RelO (valV kvs k) ((atKey xs k).map (·.2)):=by
 induction r with
 |nil=>exact True.intro
 | @cons p q ps qs h t ih=>
  obtain⟨h1,_,h2⟩:=h
  by_cases e:p.1=k
  ·have e':q.1=k:=h1.symm.trans e
   have b:atKey (q::qs) k=some q.2:=by simp[atKey,List.find?_cons,e']
   rw[z6E e,b];exact h2
  ·have e': ¬q.1=k:=fun z=>e (h1.trans z)
   have b:atKey (q::qs) k=atKey qs k:=by simp[atKey,List.find?_cons,e']
   rw[z5e e,b];exact ih
section
variable{P:Program}{w:World}{H:Hp}{h:Heap}{a:Addr}
theorem zfb{u:HO}(ok:HOk P w H h)(e:Rd H a u):z2i P w H h a u:=e.ok ok
theorem zbC{kvs:List (Key×V)}(ok:HOk P w H h)(e:Rd H a (.dK kvs)):kvs.length<=sizeLine/\(a==sysModules)=false/\∃vs,KV kvs vs/\h.DictOf (z1o P w) a vs:=
 show z2i P w H h a (.dK kvs) from zfb ok e
theorem zhx{kvs:List (Key×V)}(ok:HOk P w H h)(e:H a=some (.dK kvs)):kvs.length<=sizeLine/\(a==sysModules)=false/\∃vs,KV kvs vs/\h.DictOf (z1o P w) a vs:=zbC ok (.inl e)
theorem za2{ks:List Key}(ok:HOk P w H h)(e:H a=some (.tup (ks.map kV))):(tupleKind (z1o P w)).is h ks a:=by
 obtain⟨_,its,r,o,h1,h2,n,h3⟩:=(show z2i P w H h a (.tup (ks.map kV)) from ok a _ e)
 exact⟨o,its.toArray,n,h1,h2,h3,by simpa using z7l r⟩
theorem zdj{kvs:List (List Key×V)}(ok:HOk P w H h)(e:Rd H a (.dT kvs)):kvs.length<=sizeLine/\(a==sysModules)=false/\
 ∃xs,KT H kvs xs/\h.DictOfH (tupleKind (z1o P w)) a xs:=by
 obtain⟨z,y,xs,r,o,es,ep,h1,h2,h3,h4,h5⟩:=(show z2i P w H h a (.dT kvs) from zfb ok e)
 refine⟨z,y,xs,r,o,es,ep,h1,h2,h3,h4,fun x hx=> ?_,h5⟩
 have all: ∀{l:List (List Key×V)} {m:List (List Key×Addr×Value)},KT H l m->∀x∈m,(tupleKind (z1o P w)).is h x.1 x.2.1:=by
  intro l m q
  induction q with
  |nil=>intro x hx;exact nomatch hx
  | @cons p q ps qs hq t ih=>
   intro x hx
   rcases List.mem_cons.mp hx with e|hx
   ·subst e
    exact za2 ok (by rw[<-hq.1];exact hq.2.1)
   ·exact ih x hx
 exact all r x hx
end
noncomputable def DGet(H:Hp)(a:Addr)(y:V)(r:Option V):Prop:=
 (∃kvs k,Rd H a (.dK kvs)/\y=kV k/\r=valV kvs k)\/∃kvs k b,Rd H a (.dT kvs)/\y= .ref b/\H b=some (.tup (k.map kV))/\r=valV kvs k
section
variable{X:Cx}{pins:List (Addr×Obj)}{σ:St}{H:Hp}{s:Shared}{a:Addr}{y v:V}{u r:Value}{o:Option V}{A:Around}{E:Value->Shared->Prop}
theorem Inv.big(I:Inv X pins σ H s):sysModules<s.heap.objs.size:=by
 have h:mainGlobals<s.heap.objs.size:=(I.mod.glob.keeps I.bk).lt
 exact Nat.lt_trans (by decide) h
theorem za3{Q:Value->Shared->Prop}(hu:A.units+1<cLine)(I:Inv X pins σ H s)(g:DGet H a y (some v))(ry:RelV y u)(h: ∀w' s',Inv X pins σ H s'->RelV v w'->Q w' s'):
 wpAny (model X.prog X.w) A (getItem (.ref a) u) Q E s:=by
 rcases g with⟨kvs,k,e,ey,l⟩|⟨kvs,k,b,e,ey,eb,l⟩
 ·subst ey
  obtain⟨z,hd,vs,rel,dd⟩:=zbC I.hok e
  obtain⟨w',hw,rw'⟩:=RelO.some_of (v:=v) (o:=valueAt vs k) (by rw[l];exact rel.val k)
  exact wpAny_getItem_of (zbB ry) dd.mapOf hw (h w' _ (I.tok _) rw')
 ·subst ey
  cases(show u=Value.ref b from ry)
  obtain⟨z,hd,xs,rel,dd⟩:=zdj I.hok e
  obtain⟨w',hw,rw'⟩:=RelO.some_of (v:=v) (o:=(atKey xs k).map (·.2)) (by rw[l];exact rel.val k)
  obtain⟨p,hp,hp2⟩:=Option.map_eq_some_iff.mp hw
  refine wpAny_getItem_heap (tupleKind_room_in1 hu) (za2 I.hok eb) dd hp ?_
  rw[hp2]
  exact h w' _ (I.tok _) rw'
theorem zdk{Q:Value->Shared->Prop}(hu:A.units+1<cLine)(I:Inv X pins σ H s)(g:DGet H a y o)(ry:RelV y u)(h: ∀s',Inv X pins σ H s'->Q (.bool (!o.isSome)) s'):
 wpAny (model X.prog X.w) A (compareOp .NotIn u (.ref a)) Q E s:=by
 rcases g with⟨kvs,k,e,ey,l⟩|⟨kvs,k,b,e,ey,eb,l⟩
 ·subst ey
  obtain⟨z,hd,vs,rel,dd⟩:=zbC I.hok e
  refine wpAny_notIn_of (zbB ry) hd dd.mapOf ?_
  rw[<-(rel.val k).isSome_eq,<-l]
  exact h _ (I.tok _)
 ·subst ey
  cases(show u=Value.ref b from ry)
  obtain⟨z,hd,xs,rel,dd⟩:=zdj I.hok e
  refine wpAny_notIn_heap (tupleKind_room_in1 hu) (za2 I.hok eb) hd dd ?_
  have q:=(rel.val k).isSome_eq
  rw[Option.isSome_map] at q
  rw[<-q,<-l]
  exact h _ (I.tok _)
theorem zdl{h':Heap}{t':Nat}{ob:HO}(I:Inv X pins σ H s)(mu:Mut (H a))(hs:Heap.SameBut a s.heap h')(he: ∃q,h'.get? a=some q)(new:z2i X.prog X.w (upd H a ob) h' a ob):
 Inv X pins σ (upd H a ob) {s with heap:=h',toks:=t'}:=
 I.write (x:=a) (e:=a) mu (.inl rfl) (fun b q hb z=>(hs.2 b hb).trans z) he new
theorem zfc{P:Program}{w:World}{H':Hp}{h':Heap}{kvs:List (Key×V)}{vs:List (Key×Value)}(z:kvs.length<=sizeLine)(hd:(a==sysModules)=false)(rel:KV kvs vs)(dd:h'.DictOf (z1o P w) a vs):
 z2i P w H' h' a (.dK kvs):=⟨z,hd,vs,rel,dd⟩
end
noncomputable def NoSl(i:Expr):Prop:= ∀ov iv,subscripted i false ov iv=operate [ov,iv] (getItem ov iv)
theorem zdm{prog:Program}{w:World}{A:Around}{E:Value->Shared->Prop}{s:Shared}{env:Env}{value slice:Expr}{pos:Pos}{T id:String}{Q:Value->Shared->Prop}
 (hl:typeLookup (.type T) "__getitem__" =pure (some (.builtin id))) (hs:NoSl slice)
 (h:wpAny (model prog w) A (eval value env) (fun o s₁=>wpAny (model prog w) A (eval slice env) (fun i s₂=>s₂.TypeIs o T/\wpAny (model prog w) A (getItem o i) Q E s₂) E s₁) E s):
 wpAny (model prog w) A (eval (.Subscript value slice pos) env) Q E s:=by
 refine Subscript_ (wpAny_mono h (fun o s₁ h₁=>wpAny_mono h₁ (fun i s₂ h₂=> ?_) fun _ _ x=>x) fun _ _ x=>x)
 obtain⟨hT,h₂⟩:=h₂
 unfold subscriptTail
 refine wpAny_bind ?_
 rw[getitemInPython_of_ne hT.not_modules]
 refine wpAny_bind (wpAny_specialOf hT hl ?_)
 have fin:wpAny (model prog w) A (subscripted slice false o i) (fun r s₃=>wpAny (model prog w) A (letTemporaryGo value o r>>=fun _=>pure r) Q E s₃) E s₂:=by
  rw[hs o i]
  exact wpAny_operating (wpAny_mono h₂ (fun r s₃ h₃=>wpAny_bind (wpAny_letTemporaryGo (wpAny_pure h₃))) fun _ _ x=>x)
 first
  |exact wpAny_pure (wpAny_bind fin)
  |exact wpAny_bind (wpAny_pure (wpAny_bind fin))
  |exact wpAny_bind fin
theorem z7X{X:Cx}{pins:List (Addr×Obj)}{σ:St}{H:Hp}{s:Shared}{a:Addr}{y:V}{o:Option V}(I:Inv X pins σ H s)(g:DGet H a y o):s.TypeIs (.ref a) "dict" :=by
 rcases g with⟨kvs,k,e,_,_⟩|⟨kvs,k,b,e,_,_,_⟩
 ·obtain⟨_,_,vs,_,dd⟩:=zbC I.hok e
  exact dd.typeIs
 ·obtain⟨_,_,xs,_,dd⟩:=zdj I.hok e
  exact dd.typeIs
noncomputable def zhy(td ty:TE):TE:=fun σ H Q=>td σ H fun x H1=>ty σ H1 fun y H2=> ∃a v,x= .ref a/\DGet H2 a y (some v)/\Q v H2
section
variable{X:Cx}{o i e value:Expr}{pos pos' tpos:Pos}{td ty tv:TE}
theorem zdn(hu:X.A.units+1<cLine)(ho:PE X o td)(hi:PE X i ty)(hs:NoSl i):PE X (.Subscript o i pos) (zhy td ty):=by
 intro pins s σ H Q I h
 refine zdm PySem.F.slot_dict_getitem.lookup hs (thn (ho pins s σ H _ I h) fun u s1 ⟨x,H1,I1,rx,q1⟩=>thn (hi pins s1 σ H1 _ I1 q1) fun iv s2 ⟨y,H2,I2,ry,a,v,ex,g,q2⟩=> ?_)
 subst ex
 obtain rfl:u=Value.ref a:=rx
 exact⟨z7X I2 g,za3 hu I2 g ry fun w' s3 I3 rw'=>⟨v,H2,I3,rw',q2⟩⟩
end
theorem zbD{P:Program}{w:World}{H:Hp}(h:Heap)(hb:sysModules<h.objs.size):z2i P w H (h.push {cls:= .type "dict",data:= .dict #[]}) h.objs.size (.dK []):=
 ⟨Nat.zero_le _,beq_eq_false_iff_ne.mpr (Ne.symm (Nat.ne_of_lt hb)),[], .nil,Heap.DictOf.new h⟩
noncomputable def z8z:List (TE×TE)->St->Hp->(List (V×V)->Hp->Prop)->Prop
 |[],_,H,Q=>Q [] H
 |(tk,tv)::r,σ,H,Q=>tk σ H fun x H1=>tv σ H1 fun y H2=>z8z r σ H2 fun ps H3=>Q ((x,y)::ps) H3
noncomputable abbrev VV:List (V×V)->List (Value×Value)->Prop:=Paired fun p q=>RelV p.1 q.1/\RelV p.2 q.2
noncomputable def PPs(X:Cx)(pos:Pos)(keys:List (Option Expr))(values:List Expr)(trs:List (TE×TE)):Prop:=
 ∀(pins:List (Addr×Obj)) (s:Shared) (σ:St) (H:Hp) (Q:List (V×V)->Hp->Prop),Inv X pins σ H s->z8z trs σ H Q->
  wpAny (model X.prog X.w) X.A (evalPairs (pairTrees keys values X.env pos)) (fun vs s'=> ∃ps H',Inv X pins σ H' s'/\VV ps vs/\Q ps H') X.xe s
theorem zdo{X:Cx}{pos:Pos}:PPs X pos [] [] []:=fun pins s σ H Q I h=>pairTrees_nil_walk ⟨[],H,I, .nil,h⟩
theorem z2X{X:Cx}{pos:Pos}{k v:Expr}{ks:List (Option Expr)}{vs:List Expr}{tk tv:TE}{trs:List (TE×TE)}(hk:PE X k tk)(hv:PE X v tv)(hr:PPs X pos ks vs trs):
 PPs X pos (some k::ks) (v::vs) ((tk,tv)::trs):=fun pins s σ H Q I h=>
 pairTrees_cons_walk (thn (hk pins s σ H _ I h) fun u s1 ⟨x,H1,I1,rx,q1⟩=>thn (hv pins s1 σ H1 _ I1 q1) fun w2 s2 ⟨y,H2,I2,ry,q2⟩=>
  thn (hr pins s2 σ H2 _ I2 q2) fun ws s3 ⟨ps,H3,I3,rel,q3⟩=>⟨(x,y)::ps,H3,I3, .cons ⟨rx,ry⟩ rel,q3⟩)
noncomputable def z4Y(kvs more:List (Key×V)):List (Key×V):=more.foldl (fun acc kv=>putK acc kv.1 kv.2) kvs
theorem KV.merge: ∀{more:List (Key×V)} {rs:List (Key×Value)} {kvs:List (Key×V)} {vs:List (Key×Value)},KV more rs->KV kvs vs->KV (z4Y kvs more) (merged vs rs):=by
 intro more rs kvs vs r
 unfold KV at r
 induction r generalizing kvs vs with
 |nil=>intro q;exact q
 | @cons p q ps qs h t ih=>
  intro r0
  have e:KV (putK kvs p.1 p.2) (stored vs q.1 q.2):=by
   have:=r0.put p.1 h.2
   rw[<-h.1];exact this
  exact ih e
theorem z4k: ∀(more kvs:List (Key×V)),(z4Y kvs more).length<=kvs.length+more.length
 |[],kvs=>by show kvs.length<=kvs.length+0;lia
 |p::r,kvs=>by
  have h1:=z4k r (putK kvs p.1 p.2)
  have h2:=z7W kvs p.1 p.2
  show(z4Y (putK kvs p.1 p.2) r).length<=_
  rw[List.length_cons];lia
theorem z6p{P:Program}{w:World}: ∀{kvs:List (Key×V)} {ws:List (Value×Value)},VV (kvs.map fun kv=>(kV kv.1,kv.2)) ws->∃rs,Carries (z1o P w) ws rs/\KV kvs rs
 |[],_,r=>by rw[List.map_nil] at r;cases r;exact⟨[],True.intro, .nil⟩
 |p::kvs,_,r=>by
  rw[List.map_cons] at r
  cases r with
  | @cons a b as bs h t=>
   obtain⟨rs,c,q⟩:=z6p (P:=P) (w:=w) t
   obtain⟨b1,b2⟩:=b
   exact⟨(p.1,b2)::rs,⟨zbB h.1,rfl,c⟩, .cons ⟨rfl,h.2⟩ q⟩
noncomputable def zhz(trs:List (TE×TE)):TE:=fun σ H Q=> ∀p,H p=none->z8z trs σ (upd H p (.dK [])) fun ps H2=>H2 p=some (.dK [])/\∃kvs:List (Key×V),ps=kvs.map (fun kv=>(kV kv.1,kv.2))/\kvs.length<=15/\Q (.ref p) (upd H2 p (.dK (z4Y [] kvs)))
theorem zdp{X:Cx}{pos:Pos}{keys:List (Option Expr)}{values:List Expr}{trs:List (TE×TE)}(h:PPs X pos keys values trs)(hall:keys.all (·.isSome)=true)(hl:keys.length=values.length)(h0:keys≠[])
 (h15:keys.length<=15):PE X (.Dict keys values pos) (zhz trs):=by
 intro pins s σ H Q I q
 have hn:=I.hok.fresh (Nat.le_refl s.heap.objs.size)
 have I1:=I.laid (a:=s.heap.objs.size) (o:= .dK []) (h':=s.heap.push {cls:= .type "dict",data:= .dict #[]}) (t':=s.toks) (fun _ _ q=>Heap.get?_push_of_some _ q) (Nat.le_refl _) (zbD s.heap I.big)
 refine wpAny_Dict_walk (knd:=z1o X.prog X.w) hall hl h0 h15 (thn (h pins _ σ _ _ I1 (q _ hn)) fun ws s2 ⟨ps,H2,I2,rel,e,kvs,ep,lk,q2⟩=> ?_)
 subst ep
 obtain⟨rs,c,rk⟩:=z6p (P:=X.prog) (w:=X.w) rel
 obtain⟨z,hd,vs0,r0,dd⟩:=zhx I2.hok e
 cases r0
 refine⟨rs,c,dd,fun h' dd' hs=>⟨.ref s.heap.objs.size,_, ?_,rfl,q2⟩⟩
 have hz:(z4Y [] kvs).length<=sizeLine:=by
  have h1:=z4k kvs []
  rw[List.length_nil] at h1
  rw[sizeLine_eq];lia
 have he: ∃q,h'.get? s.heap.objs.size=some q:=let⟨q,_,_,hq,_⟩:=dd';⟨q,hq⟩
 exact zdl I2 (by rw[e];exact True.intro) hs he (zfc hz hd (rk.merge .nil) dd')
structure M1(X:Cx)(o:Expr)(m:Str)(apos:Pos)(e:Expr)(cpos:Pos):Prop where
 base:attributeBase o m X.env (eval o X.env)=eval o X.env
 few:((backTo cpos (starEach [e] X.env)).all (fun x=> !x.1)&&(backToKw cpos (keywordEach [] X.env)).all (fun x=>x.1.isSome)
  &&decide (([e]:List Expr).length+([]:List Keyword).length+(if([]:List Keyword).isEmpty then 0 else 1)<30))=true
 line:(apos.endLine==cpos.line)=true
 trees:backTo cpos (starEach [e] X.env)=[(false,eval e X.env)]
structure M2(X:Cx)(o:Expr)(m:Str)(apos:Pos)(e f:Expr)(cpos:Pos):Prop where
 base:attributeBase o m X.env (eval o X.env)=eval o X.env
 few:((backTo cpos (starEach [e,f] X.env)).all (fun x=> !x.1)&&(backToKw cpos (keywordEach [] X.env)).all (fun x=>x.1.isSome)
  &&decide (([e,f]:List Expr).length+([]:List Keyword).length+(if([]:List Keyword).isEmpty then 0 else 1)<30))=true
 line:(apos.endLine==cpos.line)=true
 trees:backTo cpos (starEach [e,f] X.env)=[(false,eval e X.env),(false,eval f X.env)]
end L2
namespace Att
open PySem PySem.W PySem.Calls PyProof.Rows
theorem z5p{P:Params}{h:Heap}: ∀(ns:List Int) (vs:List Value),WellAll P h vs (ns.map WData.int)->IntsAre vs ns:=by
 intro ns
 induction ns with
 |nil=>
  intro vs w
  rw[List.map_nil] at w
  cases w
  exact .nil
 |cons n ns ih=>
  intro vs w
  rw[List.map_cons] at w
  cases w with
  |cons a b=>
   cases a
   exact .cons _ _ (ih _ b)
theorem za4{l:OpenLaw}{n:Nat}(hn:l.most=some n){P:Params}{h:Heap}{args:List WData}{vals:List Value}
 (hpre:l.row.toRowW.claim.pre args=true) (hwl:WellAll P h vals args):
 ∃a vs ns,vals=[Value.ref a]/\args=[WData.list (ns.map WData.int)]/\h.get? a=some {cls:= .type "list",data:= .seq vs.toArray}/\IntsAre vs ns/\ns.length<=n:=by
 have hsh:WShape.hasAll [] args [.list .int]=true:=(pre_splitW hpre).1
 have hc:l.pre.holds [] {args:=args}=true:=(pre_splitW hpre).2
 obtain⟨d,r,rfl,h1,h2⟩:=hasAllW_cons hsh
 obtain rfl:=hasAllW_nil h2
 obtain⟨xs,rfl,h3⟩:=hasW_list h1
 obtain⟨ns,rfl⟩:=items_int h3
 have hlen:ns.length<=n:=by
  unfold OpenLaw.pre at hc
  have h4:(WTm.not (.lt (.lit (.int (n:Int))) (.len (.arg 0)))).holds [] {args:=[.list (ns.map .int)]}=true:=by
   have h4:=(holds_andW hc).1
   rw[hn] at h4
   exact h4
  have h5:=condW_of h4 (w_not (w_lt w_lit (w_len_list (w_arg rfl))))
  rw[List.length_map] at h5
  refine Nat.le_of_not_lt fun q=> ?_
  have q':(n:Int)<((ns.length:Nat):Int):=by lia
  first
   |(rw[decide_eq_true q'] at h5;exact absurd h5 (by decide))
   |(simp at h5;lia)
 cases hwl with
 |cons w1 w2=>
  cases w2
  cases w1 with
  |list ho hall=>exact⟨_,_,ns,rfl,rfl,ho,z5p ns _ hall,hlen⟩
theorem za5(l:OpenLaw)(args:List WData):l.row.toRowW.claim.post args (.bool true) args=true:=
 postW_of (r:=l.row.toRowW) (X:=(true==true))
  (show WShape.has [] (.bool true) .bool=true by first|rfl|decide|simp[WShape.has,WShape.arms,WShape.armsAll])
  (show(WTm.eq .res (.lit (.bool true))).value [] {args:=args,res:=some (.bool true),after:=args}=some (.bool (true==true)) from w_eq_bool (w_res rfl) w_lit) rfl
theorem attach_call{l:OpenLaw}{n:Nat}{q:Program}{loose:List Str}{XP:(Str->Option Value)->Heap->Prop}{YP:World->Heap->Prop}{d:DefRec}
 (hn:l.most=some n) (hdf:d.params.defaults=[])
 (call: ∀(w:World) (s₀ s₁:Shared) (mg mb:Str->Option Value) (fa:Addr) (o:Obj) (pm cd doc:Value) (a:Addr) (vs:List Value) (ns:List Int),
  Ground q loose [] XP w s₀ mg mb s₁.heap->YP w s₁.heap->
  s₁.heap.get? fa=some o->o.data= .func (docDef d.name d.params d.body d.scope pm cd doc)->s₁.heap.CodeRec cd d.name->mg d.name=some (.ref fa)->
  s₁.heap.get? a=some {cls:= .type "list",data:= .seq vs.toArray}->IntsAre vs ns->ns.length<=n->s₁.gens= #[]->
  codeAny (model l.prog w) callerA (.call (.ref fa) ⟨[.ref a],[]⟩) (fun r s'=>r= .ok (.ret (.bool true))/\OldK s₁.heap s'.heap/\s'.os=s₁.os/\AllBare s'.gens) s₁):
 WalkO q loose XP YP l.row.toRowW d [] (fun f vs=>PySem.call f vs):=by
 intro w s₀ s₁ mg mb G Y fa o pm cd doc dV kV ho hd hcd hD hmg hg args vals as hpre hlay hrd hwl hlo
 obtain rfl:dV= .none:=Dflts.none hD hdf
 obtain rfl:kV= .none:=Dflts.noKw hD
 obtain⟨a,vs,ns,rfl,rfl,hobj,hints,hlen⟩:=za4 hn hpre hwl
 refine enter_call (codeAny_mono (call w s₀ s₁ mg mb fa o pm cd doc a vs ns G Y ho (fd_plain hd) hcd hmg hobj hints hlen hg) fun r s' hq=> ?_)
 obtain⟨rfl,h2,h3,h4⟩:=hq
 exact⟨.inl ⟨.bool true, .bool true,[],rfl,fun _=>rfl, .bool true,za5 l _,fun _=>⟨List.Pairwise.nil,fun _ hm=>(nomatch hm)⟩⟩,h2,h3,h4⟩
end Att
namespace L2
open PySem PySem.Spec PyProof.Rows
theorem z7m: ∀{vs:List Value} {ns:List Int},IntsAre vs ns->Vals (ns.map V.int) vs
 |_,_, .nil=> .nil
 |_,_, .cons n t h=> .cons ⟨t,rfl⟩ (z7m h)
noncomputable def Only(H:Hp):Prop:= ∀b,H b=none\/∃o xs,H b=some (.frz o (.lst xs))
theorem zbE{P:Program}{w:World}{K:W.Frag}{mg mb:Str->Option Value}{CX:CXT}{k:Nat}{fa a:Addr}{fd:FuncData}{x:Str}{sp:Sp}{s₁:Shared}{vs:List Value}{ns:List Int}
 (KX:K.In s₁.heap) (hns:s₁.heap.Ns mainGlobals mg) (hb:s₁.heap.Ns builtinsNs mb) (hbb: ∀x:Str,x≠ "__name__" ->mb x=bootBuiltins x) (hlim:s₁.heap.NoLimit) (hg:s₁.gens= #[])
 (ha:s₁.heap.get? a=some {cls:= .type "list",data:= .seq vs.toArray}) (hi:IntsAre vs ns) (hl:ns.length<=sizeLine) (hr:Room k callerA)
 (F: ∀base:Heap,K.In base->base.Ns mainGlobals mg->FnOk P w K mg base CX k fa fd [x] sp) (hbind: ∀(s:Shared) (u:Value),BindsTo s fd ⟨[u],[]⟩ [(x,u)])
 (hsp: ∀H:Hp,Only H->SqL K H a (ns.map V.int)->sp [.ref a] H (fun v _=>v= .bl true) fun _ _ _=>False)
 (hCX: ∀H e s',CX [] H s₁ (fun _ _ _=>False) e s'->False):
 codeAny (model P w) callerA (.call (.ref fa) ⟨[.ref a],[]⟩) (fun r s'=>r= .ok (.ret (.bool true))/\OldK s₁.heap s'.heap/\s'.os=s₁.os/\AllBare s'.gens) s₁:=by
 have rv:=z7m hi
 have lenV:=hi.length
 have core: ∀H:Hp,Only H->SqL K H a (ns.map V.int)->HOk P w H s₁.heap->(∀b,H b≠none->b=a)->(H a≠none->K.lookup a=none)->
  codeAny (model P w) callerA (.call (.ref fa) ⟨[.ref a],[]⟩) (fun r s'=>r= .ok (.ret (.bool true))/\OldK s₁.heap s'.heap/\s'.os=s₁.os/\AllBare s'.gens) s₁:=by
  intro H hO hS hok hA hK
  have base_of: ∀{b:Addr} {o:Obj},s₁.heap.get? b=some o->H b=none->(hidT s₁.heap H).get? b=some o:=fun e n=>zbp e n
  have noA: ∀{b:Addr} {o:Obj} {es:Array DictEntry} {ep:Nat},s₁.heap.get? b=some o->o.data= .dict es ep->H b=none:=fun{b o es ep} e d=>by
   cases q:H b with
   |none=>rfl
   |some u=>
    have e':b=a:=hA b (by rw[q];simp)
    subst e'
    rw[ha] at e;cases e
    have d':Data.seq vs.toArray _=Data.dict es ep:=d
    cases d'
  have nsK: ∀{b:Addr} {m:Str->Option Value},s₁.heap.Ns b m->(hidT s₁.heap H).Ns b m:=fun{b m} ⟨o,es,ep,e,d,r⟩=>⟨o,es,ep,base_of e (noA e d),d,r⟩
  have hKb:K.In (hidT s₁.heap H):=fun b o e=>base_of (KX b o e) (by
   cases q:H b with
   |none=>rfl
   |some u=>
    have e':b=a:=hA b (by rw[q];simp)
    subst e'
    rw[hK (by rw[q];simp)] at e;cases e)
  have hM:Mod K mg (hidT s₁.heap H):=⟨hKb,nsK hns,⟨mb,nsK hb,hbb⟩,let⟨mc,h1,h2⟩:=hlim;⟨mc,nsK h1,h2⟩⟩
  have e0:Env0 P w K mg (hidT s₁.heap H) callerA [] s₁ H:=⟨rfl,hM,fun b o e=>zd0 e,Nat.le_of_eq (z9N _ _),trivial,fun b hb=>absurd (show b∈([]:List Addr) from hb) (by simp),hok, .of_eq hg⟩
  refine codeAny_mono ((F _ hKb (nsK hns)).run callerA [] s₁ H ⟨[.ref a],[]⟩ [.ref a] [.ref a] _ _ hr e0 (hbind s₁ (.ref a)) (.cons rfl .nil) (hsp H hO hS)) fun r s' h=> ?_
  cases r with
  |error e=>exact(hCX H e s' h).elim
  |ok fl=>
   cases fl with
   |next=>exact False.elim h
   |brk=>exact False.elim h
   |cont=>exact False.elim h
   |ret u=>
    obtain⟨v,H',os,bare,un,hok',r',q⟩:=h
    have q':v= .bl true:=q
    subst q'
    obtain rfl:u=Value.bool true:=r'
    refine⟨rfl,OldK.of_keep fun b o e=> ?_,os,bare⟩
    cases q:H b with
    |none=>exact un.keep b o e q (by intro z;exact absurd (show b∈([]:List Addr) from z) (by simp)) (by simp)
    |some u=>
     rcases hO b with z|⟨ob,xs,z⟩
     ·rw[q] at z;cases z
     ·have z2:=un.frzs b ob _ z
      obtain⟨e1,_⟩:=hok b _ z
      obtain⟨e2,_⟩:=hok' b _ z2
      rw[e] at e1;cases e1
      exact e2
 cases hk:K.lookup a with
 |some o=>
  have e:=KX a o hk
  rw[ha] at e
  cases e
  refine core (fun _=>none) (fun _=> .inl rfl) (.inr ⟨_,vs.toArray,_,hk,rfl,rfl,rfl,by rw[List.size_toArray,lenV];exact hl,by simpa using rv⟩) (fun b u z=>by have z':(none:Option HO)=some u:=z;cases z') (fun b z=>absurd rfl z) fun z=>absurd rfl z
 |none=>
  refine core (fun b=>if b=a then some (.frz {cls:= .type "list",data:= .seq vs.toArray} (.lst (ns.map V.int))) else none) (fun b=> ?_) (.inl (.inr ⟨{cls:= .type "list",data:= .seq vs.toArray},if_pos rfl⟩)) (fun b u z=> ?_) (fun b z=> ?_) fun _=>hk
  ·by_cases hb:b=a
   ·exact .inr ⟨_,_,if_pos hb⟩
   ·exact .inl (if_neg hb)
  ·by_cases hb:b=a
   ·have z':=(if_pos hb).symm.trans z
    cases z'
    subst hb
    exact⟨ha,by rw[List.length_map];exact hl,vs,_,rv,ha⟩
   ·have z':=(if_neg hb).symm.trans z
    cases z'
  ·by_cases hb:b=a
   ·exact hb
   ·exact absurd (if_neg hb) z
theorem zdq{l:W.OpenLaw}{n k:Nat}{q:Program}{loose:List Str}{XP:(Str->Option Value)->Heap->Prop}{YP:World->Heap->Prop}{d:DefRec}{K:Params->W.Frag}{CX:World->CXT}{sp:World->Sp}{x:Str}
 (hn:l.most=some n) (hn2:n<=sizeLine) (hdf:d.params.defaults=[]) (hr:Room k callerA)
 (hY: ∀(w:World) (h:Heap),YP w h->(K w.params).In h)
 (F: ∀(w:World) (mg:Str->Option Value) (fa:Addr) (h:Heap),(K w.params).In h->h.Ns mainGlobals mg->mg d.name=some (.ref fa)->
  ∃fd:FuncData,(∀(s:Shared) (u:Value),BindsTo s fd ⟨[u],[]⟩ [(x,u)])/\
   ∀base:Heap,(K w.params).In base->base.Ns mainGlobals mg->FnOk l.prog w (K w.params) mg base (CX w) k fa fd [x] (sp w))
 (hsp: ∀(w:World) (H:Hp) (a:Addr) (ns:List Int),ns.length<=n->Only H->SqL (K w.params) H a (ns.map V.int)->sp w [.ref a] H (fun v _=>v= .bl true) fun _ _ _=>False)
 (hCX: ∀(w:World) (H:Hp) (s:Shared) (e:Value) (s':Shared),CX w [] H s (fun _ _ _=>False) e s'->False):
 W.WalkO q loose XP YP l.row.toRowW d [] (fun f vs=>PySem.call f vs):=by
 refine Att.attach_call hn hdf fun w s₀ s₁ mg mb fa o pm cd doc a vs ns G Y ho hd hcd hmg hobj hints hlen hg=> ?_
 have KX:=hY w _ Y
 obtain⟨fd,hb,hF⟩:=F w mg fa _ KX G.T.g hmg
 exact zbE KX G.T.g G.T.b G.T.builtins G.T.nolimit hg hobj hints (Nat.le_trans hlen hn2) hr hF hb (fun H hO hS=>hsp w H a ns hlen hO hS) fun H e s'=>hCX w H s₁ e s'
noncomputable def z44(s:Stmt):Arguments:=match s with
 | .FunctionDef _ a _ _ _ _ _ _ _ _=>a
 |_=>{posonlyargs:=[],args:=[],vararg:=none,kwonlyargs:=[],kw_defaults:=[],kwarg:=none,defaults:=[]}
noncomputable def z0Q(s:Stmt):List Stmt:=match s with
 | .FunctionDef _ _ b _ _ _ _ _ _ _=>b
 |_=>[]
noncomputable def z01(s:Stmt):Scope:=match s with
 | .FunctionDef _ _ _ _ _ _ sc _ _ _=>sc
 |_=>{kind:= .function,names:=[],isGenerator:=false,isCoroutine:=false}
noncomputable abbrev CX0:CXT:=fun _ _ _ _ _ _=>False
noncomputable abbrev E0:XK:=fun _ _ _=>False
theorem zfd{X:Cx}:z3p CX0 X E0:=fun _ _ _ _ _ _ _ h=>h.elim
structure Fun(K:W.Frag)(x qual:Str)(st:Stmt)(f:Addr)(fd:FuncData):Prop where
 ex: ∃(oc:Value) (od:Option Addr) (kV doc pm:Value) (an:Option Addr) (cdv ct:Value) (osl:Array (Option Value)),
  fd=W.fnOf x qual (z44 st) (z0Q st) (z01 st) .none kV doc pm an cdv ct/\K.lookup f=some ⟨oc,od, .func fd,osl⟩/\W.codeIn K cdv qual=true
 kp:W.keepIn K (.ref f)=true
section
variable{P:Program}{w:World}{K:W.Frag}{mg:Str->Option Value}{base:Heap}
theorem Fun.ok{x qual:Str}{st:Stmt}{f:Addr}{fd:FuncData}{N ps:List Str}{k:Nat}{sp:Sp}(F:Fun K x qual st f fd)(S:z05 N ps (z01 st))(len: ∀vs H Q E,sp vs H Q E->vs.length=ps.length)
 (hbody: ∀(cdv:Value) (A:Around) (outer:List Env) (s:Shared) (H:Hp) (vs:List V) (Q:VK) (E:XK),Room k (A.deeper (envOfC qual (z01 st) s.heap.objs.size f cdv))->sp vs H Q E->
  ∃t,PSs (cxOf CX0 P w K mg base N qual (z01 st) f cdv A outer s H E).nox (z0Q st) t/\t {nx:=fun _ H'=>Q .non H',rt:=Q} (z4C N vs) H):FnOk P w K mg base CX0 (k+1) f fd ps sp:=by
 obtain⟨oc,od,kV,doc,pm,an,cdv,ct,osl,rfl,lk,hcd⟩:=F.ex
 refine zf4 lk hcd S len fun A outer s H vs Q E hr hsp=> ?_
 obtain⟨t,h,q⟩:=hbody cdv A outer s H vs Q E hr hsp
 exact⟨t,h.nox,q⟩
theorem Fun.binds{x qual:Str}{st:Stmt}{f:Addr}{fd:FuncData}{ps:List Str}(F:Fun K x qual st f fd)
 (h: ∀(kV doc pm:Value) (an:Option Addr) (cdv ct:Value) (us:List Value),us.length=ps.length->bindArgs (W.fnOf x qual (z44 st) (z0Q st) (z01 st) .none kV doc pm an cdv ct) ⟨us,[]⟩=pure (ps.zip us)):z3R K fd ps []:=by
 obtain⟨oc,od,kV,doc,pm,an,cdv,ct,osl,rfl,lk,hcd⟩:=F.ex
 exact .all (h kV doc pm an cdv ct)
theorem zfe{x qual:Str}{st:Stmt}{f:Addr}{oc:Value}{od an:Option Addr}{osl:Array (Option Value)}{kV doc pm cdv ct:Value}(l:K.lookup f=some ⟨oc,od, .func (W.fnOf x qual (z44 st) (z0Q st) (z01 st) .none kV doc pm an cdv ct),osl⟩)
 (c:W.codeIn K cdv qual=true) (k:W.keepIn K (.ref f)=true):Fun K x qual st f (W.fnOf x qual (z44 st) (z0Q st) (z01 st) .none kV doc pm an cdv ct):=⟨⟨oc,od,kV,doc,pm,an,cdv,ct,osl,rfl,l,c⟩,k⟩
end
section
variable{X:Cx}
theorem pv(i:Nat){x:Str}{pos:Pos}(hN:X.N[i]? =some x:=by rfl)(hv:Vis X.env.scope x:=by first|exact Or.inl rfl|exact Or.inr (Or.inl rfl)|exact Or.inr (Or.inr rfl))(hd:(x==("__debug__" :Str))=false:=by decide)
 (hcd:(x==("__classdict__" :Str))=false:=by decide):PE X (.Name x pos) (tVar i):=zeG hN hv hd hcd
end
noncomputable def Same(H H':Hp):Prop:= ∀b o,H b=some o->H' b=some o
theorem Same.refl(H:Hp):Same H H:=fun _ _ h=>h
end L2
set_option maxHeartbeats 4000000
namespace L2
open PySem PySem.Spec PyProof.Rows
mutual
noncomputable def Dp(K:W.Frag)(H:Hp):PyData->V->Prop
 | .none,v=>v= .non
 | .bool b,v=>v= .bl b
 | .int i,v=>v= .int i
 | .str x,v=>v= .str x
 | .list ds,v=> ∃a xs,v= .ref a/\SqL K H a xs/\z4D K H ds xs
 | .tuple ds,v=> ∃a xs,v= .ref a/\SqT K H a xs/\z4D K H ds xs
 | .dict _,_=>False
noncomputable def z4D(K:W.Frag)(H:Hp):List PyData->List V->Prop
 |[],xs=>xs=[]
 |d::ds,xs=> ∃x r,xs=x::r/\Dp K H d x/\z4D K H ds r
end
section
variable{X:Cx}{pins:List (Addr×Obj)}{σ:St}{H:Hp}{s:Shared}
mutual
theorem Dp.reads(I:Inv X pins σ H s): ∀(d:PyData) (v:V) (u:Value),Dp X.K H d v->RelV v u->∃as,Reads s.heap u d as
 | .none,v,u,h,r=>by
  simp only[Dp] at h;subst h;cases r;exact⟨_, .none⟩
 | .bool b,v,u,h,r=>by
  simp only[Dp] at h;subst h;cases r;exact⟨_, .bool b⟩
 | .int i,v,u,h,r=>by
  simp only[Dp] at h;subst h;obtain⟨t,rfl⟩:=r;exact⟨_, .int i t⟩
 | .str x,v,u,h,r=>by
  simp only[Dp] at h;subst h;obtain⟨t,rfl⟩:=r;exact⟨_, .str x t⟩
 | .list ds,v,u,h,r=>by
  simp only[Dp] at h
  obtain⟨a,xs,rfl,hs,hd⟩:=h
  cases r
  obtain⟨its,rv,⟨o,n,e,c,_,dd⟩,_⟩:=I.list hs
  obtain⟨as,ra⟩:=z4D.reads I ds xs its hd rv
  exact⟨_, .list e c dd (by simpa using ra)⟩
 | .tuple ds,v,u,h,r=>by
  simp only[Dp] at h
  obtain⟨a,xs,rfl,hs,hd⟩:=h
  cases r
  obtain⟨its,rv,⟨o,e,c,n,dd⟩,_⟩:=I.tuple hs
  obtain⟨as,ra⟩:=z4D.reads I ds xs its hd rv
  exact⟨_, .tuple e c dd (by simpa using ra)⟩
 | .dict _,v,u,h,r=>by
  simp only[Dp] at h
theorem z4D.reads(I:Inv X pins σ H s): ∀(ds:List PyData) (vs:List V) (us:List Value),z4D X.K H ds vs->Vals vs us->∃as,ReadsAll s.heap us ds as
 |[],vs,us,h,r=>by
  simp only[z4D] at h;subst h
  cases r
  exact⟨_, .nil⟩
 |d::ds,vs,us,h,r=>by
  simp only[z4D] at h
  obtain⟨x,q,rfl,h1,h2⟩:=h
  cases r with
  |cons r1 r2=>
   obtain⟨as,ra⟩:=Dp.reads I d _ _ h1 r1
   obtain⟨bs,rb⟩:=z4D.reads I ds _ _ h2 r2
   exact⟨_, .cons ra rb⟩
end
noncomputable def rEqD(K:W.Frag)(neg:Bool):R2:=fun x y H Q=> ∃d e,Dp K H d x/\Dp K H e y/\d.canLay0=true/\e.canLay0=true/\min d.depth e.depth<=60/\
 Q (.bl (if neg then !PyData.eqv d e else PyData.eqv d e)) H
theorem zff(hu:X.A.units+64<cLine):OpR X (compareOp .Eq) (rEqD X.K false):=by
 intro pins s σ H x y v u Q I rx ry h
 obtain⟨d,e,hx,hy,c1,c2,hd,q⟩:=h
 obtain⟨as,ra⟩:=hx.reads I _ _ _ rx
 obtain⟨bs,rb⟩:=hy.reads I _ _ _ ry
 exact SeqAt.compareEq_reads ra rb c1 c2 (by lia) ⟨.bl _,H,I,rfl,q⟩
theorem zfg(hu:X.A.units+64<cLine):OpR X (compareOp .NotEq) (rEqD X.K true):=by
 intro pins s σ H x y v u Q I rx ry h
 obtain⟨d,e,hx,hy,c1,c2,hd,q⟩:=h
 obtain⟨as,ra⟩:=hx.reads I _ _ _ rx
 obtain⟨bs,rb⟩:=hy.reads I _ _ _ ry
 exact SeqAt.compareNe_reads ra rb c1 c2 (by lia) ⟨.bl _,H,I,rfl,q⟩
noncomputable def rInD(K:W.Frag)(neg:Bool):R2:=fun x y H Q=> ∃d ds,Dp K H d x/\(Dp K H (.list ds) y\/Dp K H (.tuple ds) y)/\d.canLay0=true/\PyData.canLayAll0 ds=true/\min (PyData.depthAll ds) d.depth<=60/\
 Q (.bl (if neg then !(ds.any fun y=>PyData.eqv y d) else ds.any fun y=>PyData.eqv y d)) H
theorem zfh(hu:X.A.units+64<cLine):OpR X (compareOp .In) (rInD X.K false):=by
 intro pins s σ H x y v u Q I rx ry h
 obtain⟨d,ds,hx,hy,c1,c2,hd,q⟩:=h
 obtain⟨as,ra⟩:=hx.reads I _ _ _ rx
 rcases hy with hy|hy
 ·obtain⟨bs,rb⟩:=hy.reads I _ _ _ ry
  exact SeqAt.in_list_reads rb ra c2 c1 (by lia) ⟨.bl _,H,I,rfl,q⟩
 ·obtain⟨bs,rb⟩:=hy.reads I _ _ _ ry
  exact SeqAt.in_tuple_reads rb ra c2 c1 (by lia) ⟨.bl _,H,I,rfl,q⟩
theorem za6(hu:X.A.units+64<cLine):OpR X (compareOp .NotIn) (rInD X.K true):=by
 intro pins s σ H x y v u Q I rx ry h
 obtain⟨d,ds,hx,hy,c1,c2,hd,q⟩:=h
 obtain⟨as,ra⟩:=hx.reads I _ _ _ rx
 rcases hy with hy|hy
 ·obtain⟨bs,rb⟩:=hy.reads I _ _ _ ry
  exact SeqAt.notIn_list_reads rb ra c2 c1 (by lia) ⟨.bl _,H,I,rfl,q⟩
 ·obtain⟨bs,rb⟩:=hy.reads I _ _ _ ry
  exact SeqAt.notIn_tuple_reads rb ra c2 c1 (by lia) ⟨.bl _,H,I,rfl,q⟩
noncomputable def isiV(K:W.Frag)(H:Hp)(T:String)(r:Bool):V->Prop
 | .non=>r=false
 | .bl _=>r=(T== "int" ||T== "bool")
 | .int _=>r=(T== "int")
 | .str _=>r=(T== "str")
 | .ref a=>(∃xs,SqT K H a xs/\r=(T== "tuple"))\/(∃xs,SqL K H a xs/\r=(T== "list"))
 |_=>False
noncomputable def rIsi(K:W.Frag):List V->Hp->VK->Prop:=fun xs H Q=> ∃x T r,xs=[x, .ty T]/\(T= "int" \/T= "bool" \/T= "tuple" \/T= "list" \/T= "str")/\isiV K H T r x/\Q (.bl r) H
theorem zbF:CallR X (.builtin "isinstance") (rIsi X.K):=by
 intro pins s σ H xs us Q I r h
 obtain⟨x,T,b,rfl,hT,hx,q⟩:=h
 obtain⟨u,u',rfl,ru,ru'⟩:=zeZ r
 cases ru'
 have fin: ∀t,EP X pins σ Q (.bool b) {s with toks:=t}:=fun t=>⟨.bl b,H,I.tok t,rfl,q⟩
 have fin0:EP X pins σ Q (.bool b) s:=⟨.bl b,H,I,rfl,q⟩
 cases x with
 |non=>
  cases ru
  have hx:b=false:=hx
  subst hx
  rcases hT with rfl|rfl|rfl|rfl|rfl
  ·exact IsiPair.NoneType_int (fin _)
  ·exact IsiPair.NoneType_bool (fin _)
  ·exact IsiPair.NoneType_tuple (fin _)
  ·exact IsiPair.NoneType_list (fin _)
  ·exact IsiPair.NoneType_str (fin _)
 |bl k=>
  cases ru
  rcases hT with rfl|rfl|rfl|rfl|rfl
  ·have hx:b=true:=hx
   subst hx;exact IsiPair.bool_int fin0
  ·have hx:b=true:=hx
   subst hx;exact IsiPair.bool_bool fin0
  ·have hx:b=false:=hx
   subst hx;exact IsiPair.bool_tuple (fin _)
  ·have hx:b=false:=hx
   subst hx;exact IsiPair.bool_list (fin _)
  ·have hx:b=false:=hx
   subst hx;exact IsiPair.bool_str (fin _)
 |int k=>
  obtain⟨t,rfl⟩:=ru
  rcases hT with rfl|rfl|rfl|rfl|rfl
  ·have hx:b=true:=hx
   subst hx;exact IsiPair.int_int fin0
  ·have hx:b=false:=hx
   subst hx;exact IsiPair.int_bool (fin _)
  ·have hx:b=false:=hx
   subst hx;exact IsiPair.int_tuple (fin _)
  ·have hx:b=false:=hx
   subst hx;exact IsiPair.int_list (fin _)
  ·have hx:b=false:=hx
   subst hx;exact IsiPair.int_str (fin _)
 |str k=>
  obtain⟨t,rfl⟩:=ru
  rcases hT with rfl|rfl|rfl|rfl|rfl
  ·have hx:b=false:=hx
   subst hx;exact IsiPair.str_int (fin _)
  ·have hx:b=false:=hx
   subst hx;exact IsiPair.str_bool (fin _)
  ·have hx:b=false:=hx
   subst hx;exact IsiPair.str_tuple (fin _)
  ·have hx:b=false:=hx
   subst hx;exact IsiPair.str_list (fin _)
  ·have hx:b=true:=hx
   subst hx;exact IsiPair.str_str fin0
 |ref a=>
  cases ru
  rcases hx with⟨ys,hs,hb⟩|⟨ys,hs,hb⟩
  ·obtain⟨its,rv,⟨o,e,c,n,dd⟩,_⟩:=I.tuple hs
   rcases hT with rfl|rfl|rfl|rfl|rfl
   ·have hx:b=false:=hb
    subst hx;exact IsiPair.tuple_int e c (fin _)
   ·have hx:b=false:=hb
    subst hx;exact IsiPair.tuple_bool e c (fin _)
   ·have hx:b=true:=hb
    subst hx;exact IsiPair.tuple_tuple e c fin0
   ·have hx:b=false:=hb
    subst hx;exact IsiPair.tuple_list e c (fin _)
   ·have hx:b=false:=hb
    subst hx;exact IsiPair.tuple_str e c (fin _)
  ·obtain⟨its,rv,⟨o,n,e,c,_,dd⟩,_⟩:=I.list hs
   rcases hT with rfl|rfl|rfl|rfl|rfl
   ·have hx:b=false:=hb
    subst hx;exact IsiPair.list_int e c (fin _)
   ·have hx:b=false:=hb
    subst hx;exact IsiPair.list_bool e c (fin _)
   ·have hx:b=false:=hb
    subst hx;exact IsiPair.list_tuple e c (fin _)
   ·have hx:b=true:=hb
    subst hx;exact IsiPair.list_list e c fin0
   ·have hx:b=false:=hb
    subst hx;exact IsiPair.list_str e c (fin _)
 |byt _=>exact hx.elim
 |flt _=>exact hx.elim
 |ty _=>exact hx.elim
theorem z45: ∀{bs:List Bool} {us:List Value},Vals (bs.map V.bl) us->LSm.BoolsAre us bs
 |[],_, .nil=> .nil
 |b::bs,_, .cons r t=>by
  cases r
  exact .cons b (z45 t)
theorem za7(hc:X.A.handled=none):CallR X (.builtin "all") (fun xs H Q=> ∃(p:Addr) (bs:List Bool),xs=[.ref p]/\SqL X.K H p (bs.map V.bl)/\Q (.bl (bs.all id)) H):=by
 intro pins s σ H xs us Q I r h
 obtain⟨p,bs,rfl,hs,q⟩:=h
 obtain⟨u,rfl,ru⟩:=z7V r
 cases ru
 obtain⟨its,rv,pl,_⟩:=I.list hs
 have hb:=z45 rv
 have hl:=pl.isList
 have hlt:p<s.heap.objs.size:=by obtain⟨_,e,_⟩:=hl;exact Heap.lt_size e
 refine call_all_walk (wpAny_pyIter_list hl ?_)
 refine⟨s.heap.objs.size,[s.heap.objs.size,p],[s.heap.objs.size],its.toArray.size,_,_,fun i=>(bs[i]?).getD true,rfl,Walks.list (A:=X.A.in1) hc _ p (Nat.ne_of_lt hlt) its.toArray,
  ⟨⟨_,Heap.get?_push_size _ rfl,rfl,rfl⟩,hl.push _⟩,fun i v s' Q' E' hP hQ=> ?_,fun h' tk hk=> ?_⟩
 ·obtain⟨b,e,rfl⟩:=hb.get i v (by simpa using hP)
  simp only[e,Option.getD_some] at hQ
  exact wpAny_truthy_bool hQ
 ·have e:((List.range its.toArray.size).all fun i=>(bs[i]?).getD true)=bs.all id:=by
   rw[List.size_toArray,hb.length];exact LSm.range_all bs
  rw[e]
  exact⟨.bl _,H,I.kept (LSm.kept_iter hk),rfl,q⟩
theorem za8(hc:X.A.handled=none):CallR X (.builtin "any") (fun xs H Q=> ∃(p:Addr) (bs:List Bool),xs=[.ref p]/\SqL X.K H p (bs.map V.bl)/\Q (.bl (bs.any id)) H):=by
 intro pins s σ H xs us Q I r h
 obtain⟨p,bs,rfl,hs,q⟩:=h
 obtain⟨u,rfl,ru⟩:=z7V r
 cases ru
 obtain⟨its,rv,pl,_⟩:=I.list hs
 have hb:=z45 rv
 have hl:=pl.isList
 have hlt:p<s.heap.objs.size:=by obtain⟨_,e,_⟩:=hl;exact Heap.lt_size e
 refine call_any_walk (wpAny_pyIter_list hl ?_)
 refine⟨s.heap.objs.size,[s.heap.objs.size,p],[s.heap.objs.size],its.toArray.size,_,_,fun i=>(bs[i]?).getD false,rfl,Walks.list (A:=X.A.in1) hc _ p (Nat.ne_of_lt hlt) its.toArray,
  ⟨⟨_,Heap.get?_push_size _ rfl,rfl,rfl⟩,hl.push _⟩,fun i v s' Q' E' hP hQ=> ?_,fun h' tk hk=> ?_⟩
 ·obtain⟨b,e,rfl⟩:=hb.get i v (by simpa using hP)
  simp only[e,Option.getD_some] at hQ
  exact wpAny_truthy_bool hQ
 ·have e:((List.range its.toArray.size).any fun i=>(bs[i]?).getD false)=bs.any id:=by
   rw[List.size_toArray,hb.length];exact LSm.range_any bs
  rw[e]
  exact⟨.bl _,H,I.kept (LSm.kept_iter hk),rfl,q⟩
end
end L2
namespace HT
open PySem PyProof.Rows
section
variable{prog:Program}{w:World}{A:Around}{E:Value->Shared->Prop}{s:Shared}
theorem getItem_tuple_whole{t sl:Addr}{items:Array Value}{vl vu:Value}{lo hi:Option Int}{Q:Value->Shared->Prop}(ht:IsTup s.heap t items)(hs:s.heap.IsSliceOf sl vl vu .none)(pl:IsPart vl lo)(pu:IsPart vu hi)
 (hw:sIx items.size 0 lo=0/\sIx items.size items.size hi=items.size) (h:Q (.ref t) s):wpAny (model prog w) A (getItem (.ref t) (.ref sl)) Q E s:=by
 obtain⟨os,hos,hcs,hds⟩:=id hs
 have hTs:s.TypeIs (.ref sl) "slice" :=⟨os,hos,hcs⟩
 unfold getItem
 try with_reducible refine wpAny_holding ?_
 first|refine wpAny_bind (wpAny_pure ?_)|skip
 refine wpAny_bind (wpAny_sequenceKey ht.typeIs (by decide) ?_)
 refine wpAny_bind (wpAny_callSpecial?_slot (name:=Str.ofString "__getitem__") ht.typeIs PyProof.Rows.slot_tuple_getitem
  (wpAny_call_entry PyProof.Rows.slot_tuple_getitem ht.typeIs entry_tuple_getitem ?_ (args_tuple_getitem _ _)))
 show wpAny _ _ (Builtin.Tuple.tupleItemsOf (.ref t)>>=_) _ _ s
 refine wpAny_bind (tupleItemsOf_ ht ?_)
 refine wpAny_bind (wpAny_typeOf hTs ?_)
 rw[if_pos (by decide)]
 refine wpAny_bind (z3i hs pl pu ?_)
 have hyes:((((sIx items.size 0 lo:Nat):Int)==0&&(1:Int)==1&&(sIx items.size items.size hi -sIx items.size 0 lo)==items.size)=true):=by
  rw[hw.1,hw.2]
  simp
 show wpAny _ _ (if(((sIx items.size 0 lo:Nat):Int)==0&&(1:Int)==1&&(sIx items.size items.size hi -sIx items.size 0 lo)==items.size)=true then _ else _) _ _ s
 rw[if_pos hyes]
 obtain⟨o,ho,hc,n,hd⟩:=id ht
 have ex:Builtin.Tuple.tupleIsExact (.ref t)=(typeOf (.ref t)>>=fun T=>pure (T== .type "tuple")):=rfl
 refine wpAny_bind (m:=Builtin.Tuple.tupleIsExact (.ref t)) ?_
 rw[ex]
 refine wpAny_bind (wpAny_typeOf ht.typeIs (wpAny_pure ?_))
 rw[if_pos (by decide)]
 exact wpAny_bind (wpAny_rule (wpAny_pure ⟨_,rfl,wpAny_pure h⟩))
end
end HT
namespace L2
open PySem PySem.Spec PyProof.Rows
section
variable{X:Cx}
theorem z9l{xs:List V}{lo hi:Option Int}(h:HT.sIx xs.length 0 lo=0/\HT.sIx xs.length xs.length hi=xs.length):cutV xs lo hi=xs:=by
 unfold cutV
 rw[h.1,h.2]
 simp
end
noncomputable def z2P(env:Env):List (Str×NameKind)->List (Str×Addr)->List (Str×Addr)
 |[],cs=>cs
 |(n,k)::r,cs=>z2P env r (if k== .free then(match env.cells.lookup n with|some a=>(n,a)::cs|none=>cs) else cs)
theorem z8A{env:Env}: ∀(names:List (Str×NameKind)) (cs:List (Str×Addr)),(∀y∈names,y.2= .free->∃a,env.cells.lookup y.1=some a)->
 (forIn names cs fun(x:Str×NameKind) (r:List (Str×Addr))=>if(x.2==NameKind.free)=true then cellOf env x.1>>=fun a=>pure (ForInStep.yield ((x.1,a)::r)) else pure (ForInStep.yield r))=(pure (z2P env names cs):Sem _)
 |[],cs,_=>rfl
 |(n,k)::r,cs,h=>by
  have ih:=fun cs=>z8A (env:=env) r cs fun y hy=>h y (List.mem_cons_of_mem _ hy)
  rw[List.forIn_cons]
  show((if(k==NameKind.free)=true then cellOf env n>>=fun a=>pure (ForInStep.yield ((n,a)::cs)) else pure (ForInStep.yield cs))>>=_)=pure (z2P env r (if k== .free then(match env.cells.lookup n with|some a=>(n,a)::cs|none=>cs) else cs))
  by_cases hk:(k==NameKind.free)=true
  ·obtain⟨a,e⟩:=h (n,k) List.mem_cons_self (by simpa using hk)
   have e:env.cells.lookup n=some a:=e
   rw[if_pos hk,if_pos hk,e]
   have e2:cellOf env n=pure a:=by unfold cellOf;rw[e]
   rw[e2]
   exact ih _
  ·rw[if_neg hk,if_neg hk]
   exact ih _
theorem z4l{env:Env}{scope:Scope}(h: ∀y∈scope.names,y.2= .free->∃a,env.cells.lookup y.1=some a):closureFor scope env=pure (z2P env scope.names []):=by
 have e:=z8A (env:=env) scope.names [] h
 exact congrArg (fun(m:Sem (List (Str×Addr)))=>m>>=fun cs=>pure cs) e
theorem z5f{env:Env}{x:Str}{c:Addr}: ∀(names:List (Str×NameKind)) (cs:List (Str×Addr)),(z2P env names cs).lookup x=some c->
 cs.lookup x=some c\/(env.cells.lookup x=some c/\(x,NameKind.free)∈names)
 |[],cs,h=> .inl h
 |(n,k)::r,cs,h=>by
  rcases z5f r _ h with q|⟨q,m⟩
  ·by_cases hk:(k==NameKind.free)=true
   ·rw[if_pos hk] at q
    cases e:env.cells.lookup n with
    |none=>rw[e] at q;exact .inl q
    |some a=>
     rw[e] at q
     have q:((n,a)::cs).lookup x=some c:=q
     rw[List.lookup_cons] at q
     by_cases hx:(x==n)=true
     ·rw[hx] at q
      have q:some a=some c:=q
      cases q
      have hx:x=n:=eq_of_beq hx
      subst hx
      have hk:k= .free:=eq_of_beq hk
      subst hk
      exact .inr ⟨e,List.mem_cons_self⟩
     ·have hx:(x==n)=false:=by simpa using hx
      rw[hx] at q
      exact .inl q
   ·rw[if_neg hk] at q
    exact .inl q
  ·exact .inr ⟨q,List.mem_cons_of_mem _ m⟩
theorem z5q{env:Env}{x:Str}: ∀(names:List (Str×NameKind)) (cs:List (Str×Addr)),(((∃c,cs.lookup x=some c))\/((x,NameKind.free)∈names/\∃c,env.cells.lookup x=some c))->
 ∃c,(z2P env names cs).lookup x=some c
 |[],cs,h=>by
  rcases h with h|⟨m,_⟩
  ·exact h
  ·cases m
 |(n,k)::r,cs,h=>by
  refine z5q r _ ?_
  rcases h with⟨c,hc⟩|⟨m,c,hc⟩
  ·left
   by_cases hk:(k==NameKind.free)=true
   ·rw[if_pos hk]
    cases e:env.cells.lookup n with
    |none=>exact⟨c,hc⟩
    |some a=>
     by_cases hx:(x==n)=true
     ·exact⟨a,by show((n,a)::cs).lookup x=some a;rw[List.lookup_cons,hx]⟩
     ·have hx:(x==n)=false:=by simpa using hx
      exact⟨c,by show((n,a)::cs).lookup x=some c;rw[List.lookup_cons,hx];exact hc⟩
   ·rw[if_neg hk]
    exact⟨c,hc⟩
  ·rcases List.mem_cons.mp m with e|m
   ·left
    cases e
    rw[if_pos (by decide),hc]
    exact⟨c,by show((x,c)::cs).lookup x=some c;rw[List.lookup_cons,beq_self_eq_true]⟩
   ·exact .inr ⟨m,c,hc⟩
theorem z2j{env:Env}: ∀{names:List (Str×NameKind)} {x:Str},names.lookup x=some .free->
 (names.map fun(n,k)=>if(k==NameKind.free&&env.scope.kind== .function&&env.kindOf n==some .cell) then(n,NameKind.cell) else(n,k)).lookup x=some .cell\/
 (names.map fun(n,k)=>if(k==NameKind.free&&env.scope.kind== .function&&env.kindOf n==some .cell) then(n,NameKind.cell) else(n,k)).lookup x=some .free
 |[],_,h=>by simp at h
 |(n,k)::r,x,h=>by
  have ih:= @z2j env r x
  rw[List.map_cons]
  show List.lookup x ((if(k==NameKind.free&&env.scope.kind== .function&&env.kindOf n==some .cell)=true then(n,NameKind.cell) else(n,k))::_)=_\/List.lookup x ((if(k==NameKind.free&&env.scope.kind== .function&&env.kindOf n==some .cell)=true then(n,NameKind.cell) else(n,k))::_)=_
  cases hx:x==n with
  |true=>
   simp only[List.lookup_cons,hx] at h
   cases h
   by_cases hc:(NameKind.free==NameKind.free&&env.scope.kind== .function&&env.kindOf n==some .cell)=true
   ·rw[if_pos hc];left;simp only[List.lookup_cons,hx]
   ·rw[if_neg hc];right;simp only[List.lookup_cons,hx]
  |false=>
   simp only[List.lookup_cons,hx] at h
   by_cases hc:(k==NameKind.free&&env.scope.kind== .function&&env.kindOf n==some .cell)=true
   ·rw[if_pos hc];simp only[List.lookup_cons,hx];exact ih h
   ·rw[if_neg hc];simp only[List.lookup_cons,hx];exact ih h
theorem z2Q{env:Env}: ∀{names:List (Str×NameKind)} {x:Str},((names.map fun(n,k)=>if(k==NameKind.free&&env.scope.kind== .function&&env.kindOf n==some .cell) then(n,NameKind.cell) else(n,k)).lookup x=some .cell\/
 (names.map fun(n,k)=>if(k==NameKind.free&&env.scope.kind== .function&&env.kindOf n==some .cell) then(n,NameKind.cell) else(n,k)).lookup x=some .free)->names.lookup x=some .free\/names.lookup x=some .cell
 |[],_,h=>by simp at h
 |(n,k)::r,x,h=>by
  have ih:= @z2Q env r x
  rw[List.map_cons] at h
  have h:List.lookup x ((if(k==NameKind.free&&env.scope.kind== .function&&env.kindOf n==some .cell)=true then(n,NameKind.cell) else(n,k))::_)=_\/List.lookup x ((if(k==NameKind.free&&env.scope.kind== .function&&env.kindOf n==some .cell)=true then(n,NameKind.cell) else(n,k))::_)=_:=h
  cases hx:x==n with
  |true=>
   simp only[List.lookup_cons,hx]
   by_cases hc:(k==NameKind.free&&env.scope.kind== .function&&env.kindOf n==some .cell)=true
   ·have:k= .free:=by
     simp only[Bool.and_eq_true,beq_iff_eq] at hc
     exact hc.1.1
    subst this
    exact .inl rfl
   ·rw[if_neg hc] at h
    simp only[List.lookup_cons,hx] at h
    exact h.symm
  |false=>
   simp only[List.lookup_cons,hx]
   refine ih ?_
   by_cases hc:(k==NameKind.free&&env.scope.kind== .function&&env.kindOf n==some .cell)=true
   ·rw[if_pos hc] at h;simp only[List.lookup_cons,hx] at h;exact h
   ·rw[if_neg hc] at h;simp only[List.lookup_cons,hx] at h;exact h
structure z1P(osc sc:Scope)(own frees N:List Str)(ix:List Nat):Prop where
 kind:sc.kind= .function
 nocell: ∀y∈sc.names,y.2≠ .cell
 names: ∀y∈sc.names,y.2= .local->sc.names.lookup y.1=some .local
 fr: ∀y∈sc.names,y.2= .free->osc.names.lookup y.1=some .cell\/osc.names.lookup y.1=some .free
 nd:(own++frees).Nodup
 frl: ∀x∈frees,sc.names.lookup x=some .free
 ixs:ix.map (fun i=>N[i]?)=frees.map some
noncomputable def z0T(X:Cx)(scope:Scope)(own frees:List Str)(cl:List (Str×Addr))(C:Addr)(s₀:Shared)(H₀:Hp)(fp:List Addr)(pn:List (Addr×Obj)):Cx:=
 {X with N:=own++frees,s₀:=s₀,H₀:=H₀,env:=compEnvC scope cl C X.env,outer:=X.stack,stack:=X.stack,ex:=fp,fn:=fun _=>false,pn:=pn,xe:=fun _ _=>False}
noncomputable def z3V(k:Nat)(ix:List Nat)(σ:St):St:=List.replicate k none++ix.map fun i=>(σ[i]?).getD none
section
variable{X:Cx}{tg iter elt:Expr}{pos:Pos}{scope:Scope}{own frees:List Str}{ix:List Nat}{wi:TI}{g:TG}{te:TE}
theorem z9m(k:Nat)(ix:List Nat)(σ:St):(z3V k ix σ).length=k+ix.length:=by
 unfold z3V
 simp
theorem z6q{pins:List (Addr×Obj)}{σ:St}{H:Hp}{s s1:Shared}{fp:List Addr}(S:z1P X.env.scope scope own frees X.N ix)(I:Inv X pins σ H s)(hf: ∀b∈fp,FpOk X pins H b)(hb: ∀b∈fp,b<s.heap.objs.size)
 (ho:s1.os=s.os) (hg:s1.gens=s.gens) (hk: ∀b o,s.heap.get? b=some o->s1.heap.get? b=some o) (hn:s1.heap.Ns s.heap.objs.size (fun _=>none)):
 Inv (z0T X scope own frees (z2P X.env scope.names []) s.heap.objs.size s H fp (X.pn++pins)) [] (z3V own.length ix σ) H s1:=by
 have clos: ∀x c,(z2P X.env scope.names []).lookup x=some c->X.env.cells.lookup x=some c/\(x,NameKind.free)∈scope.names:=fun x c h=>by
  rcases z5f _ _ h with q|q
  ·exact nomatch q
  ·exact q
 have hlen:ix.length=frees.length:=by
  have:=congrArg List.length S.ixs
  simpa using this
 have cne: ∀x c,X.env.cells.lookup x=some c->c<s.heap.objs.size:=fun x c e=>by
  obtain⟨v,o,q,_⟩:=I.cell x c e
  exact Heap.lt_size q
 refine⟨⟨I.ok.mod,S.kind,I.ok.glob,I.ok.blt,Nat.le_refl _,fun x y c h1 h2=>I.ok.inj x y c (clos x c h1).1 (clos y c h2).1,fun x hx=> ?_,fun x c z=>Bool.noConfusion z,I.ok.hd,I.ok.frames, .inl rfl,fun b z=>⟨Nat.ne_of_lt (hb b z),fun x c e=>(hf b z).2.2.2.2.1 x c (clos x c e).1⟩,I.bs,
  Nat.le_trans I.ok.bsz I.sz,fun b o e z=> ?_,fun b z=> ?_,I.stack,I.stkFree⟩,ho, ?_,Un.kept hk,⟨_,hn,fun i x v h1 h2 h3=> ?_⟩,fun x c e=> ?_,I.fresh,fun x c e=>I.freeC x c (clos x c e).1,fun p hp=> ?_,I.hok.kept hk, ?_⟩
 ·have hx:(relabel scope X.env).names.lookup x=some .cell\/(relabel scope X.env).names.lookup x=some .free:=hx
  rcases z2Q hx with q|q
  ·have m:(x,NameKind.free)∈scope.names:=PySem.mem_of_lookup q
   obtain⟨c,hc⟩:=I.ok.has x (S.fr _ m rfl)
   exact z5q _ _ (.inr ⟨m,c,hc⟩)
  ·exact absurd rfl (S.nocell _ (PySem.mem_of_lookup q))
 ·rcases(hf b z).2.2.2.1 with q|q
  ·exact I.ok.noex b o e q
  ·exact absurd (Heap.lt_size (I.ok.bs b o e).1) (Nat.not_lt.mpr q)
 ·intro q
  rcases List.mem_cons.mp (I.stkSub b q) with r|r
  ·exact(hf b z).2.1 r
  ·exact(hf b z).2.2.1 r
 ·rw[hg];exact I.bare
 ·have h2:(z3V own.length ix σ)[i]? =some (some v):=h2
  have h1:(own++frees)[i]? =some x:=h1
  unfold z3V at h2
  by_cases hi:i<own.length
  ·rw[List.getElem?_append_left (by simpa using hi),List.getElem?_replicate] at h2
   rw[if_pos hi] at h2
   cases h2
  ·have hi:own.length<=i:=Nat.not_lt.mp hi
   rw[List.getElem?_append_right (by simpa using hi),List.length_replicate,List.getElem?_map] at h2
   rw[List.getElem?_append_right hi] at h1
   cases e:ix[i -own.length]? with
   |none=>rw[e] at h2;cases h2
   |some j=>
    rw[e] at h2
    have h2:some ((σ[j]?).getD none)=some (some v):=h2
    have hσ:σ[j]? =some (some v):=by
     cases q:σ[j]? with
     |none=>rw[q] at h2;cases h2
     |some z=>rw[q] at h2;exact h2
    have hN:X.N[j]? =some x:=by
     have:=congrArg (fun l:List (Option Str)=>l[i -own.length]?) S.ixs
     simp only[List.getElem?_map,e,h1,Option.map_some] at this
     exact Option.some.inj this
    have mf:x∈frees:=List.mem_of_getElem? h1
    have lf:=S.frl x mf
    have m:(x,NameKind.free)∈scope.names:=PySem.mem_of_lookup lf
    have hos:=S.fr _ m rfl
    obtain⟨mm,hns,hl⟩:=I.loc
    obtain⟨u,ru,look⟩:=hl j x v hN hσ (hos.elim (fun q=> .inr (.inl q)) fun q=> .inr (.inr q))
    refine⟨u,ru, ?_⟩
    rcases look with⟨kk,_⟩|⟨kk,c,hc,ic⟩
    ·have kk:X.env.scope.names.lookup x=some .local:=kk
     have hos:X.env.scope.names.lookup x=some .cell\/X.env.scope.names.lookup x=some .free:=hos
     rw[kk] at hos
     rcases hos with q|q<;>cases q
    ·obtain⟨c',hc'⟩:=z5q (env:=X.env) scope.names [] (.inr ⟨m,c,hc⟩)
     have e2:=(clos x c' hc').1
     rw[hc] at e2
     cases e2
     refine .inr ⟨z2j lf,c,hc', ?_⟩
     obtain⟨o,q1,q2⟩:=ic
     exact⟨o,hk _ _ q1,q2⟩
 ·obtain⟨v,o,q1,q2⟩:=I.cell x c (clos x c e).1
  exact⟨v,o,hk _ _ q1,q2⟩
 ·have hp:p∈(X.pn++pins)++[]:=hp
  rw[List.append_nil] at hp
  obtain⟨e,n,ne,nf,d⟩:=I.pin p hp
  refine⟨hk _ _ e,n,Nat.ne_of_lt (Heap.lt_size e),fun q=> ?_,d⟩
  rcases List.mem_cons.mp (I.stkSub p.1 q) with r|r
  ·exact ne r
  ·exact nf r
 ·show(z3V own.length ix σ).length=(own++frees).length
  rw[z9m,hlen,List.length_append]
theorem z8B{pins pins':List (Addr×Obj)}{σ σ':St}{H H':Hp}{s s':Shared}{h':Heap}{fp:List Addr}{cl:List (Str×Addr)}{C:Addr}(I:Inv X pins σ H s)(hf: ∀b∈fp,FpOk X pins H b)(hC:s.heap.objs.size<=C)
 (J:Inv (z0T X scope own frees cl C s H fp (X.pn++pins)) pins' σ' H' s') (hs:Heap.SameBut C s'.heap h'):Inv X pins σ H' {s' with heap:=h'}:=by
 have nC: ∀b,b<s.heap.objs.size->b≠C:=fun b q e=>by subst e;exact absurd q (Nat.not_lt.mpr hC)
 refine I.call' (ch:=fp) J.os ⟨fun b o e n hb hx=> ?_,fun b o e n hb hx=> ?_,J.base.free,fun b o e hx=> ?_,J.base.tups,J.base.frzs,J.base.tbls⟩ ?_ J.bare fun b z=>⟨(hf b z).2.2.2.1,(hf b z).2.1,(hf b z).2.2.2.2.1,(hf b z).2.2.2.2.2⟩
 ·exact(hs.2 b (nC b (Heap.lt_size e))).trans (J.base.keep b o e n hb hx)
 ·obtain⟨sl,q⟩:=J.base.slot b o e n hb hx
  exact⟨sl,(hs.2 b (nC b (Heap.lt_size e))).trans q⟩
 ·obtain⟨o',q⟩:=J.base.there b o e hx
  exact⟨o',(hs.2 b (nC b (Heap.lt_size e))).trans q⟩
 ·intro a o e
  refine(J.hok a o e).stay (fun b u hbu q=> ?_) (fun _ q=>q) fun _ _ q=>q
  refine(hs.2 b ?_).trans q
  intro eb
  subst eb
  have hfree:H' b=none:=J.free
  rcases hbu with rfl|z
  ·rw[e] at hfree;cases hfree
  ·rw[z] at hfree;cases hfree
end
end L2
namespace PySem
end PySem
namespace L2
open PySem PySem.Spec PyProof.Rows
noncomputable def z1y(osc sc:Scope)(own frees N:List Str)(ix:List Nat):Bool:=
 decide (sc.kind= .function)&&sc.names.all (fun y=>decide (y.2≠ .cell))&&sc.names.all (fun y=>decide (y.2= .local->sc.names.lookup y.1=some .local))&&
  sc.names.all (fun y=>decide (y.2= .free->osc.names.lookup y.1=some .cell\/osc.names.lookup y.1=some .free))&&decide (own++frees).Nodup&&frees.all (fun x=>decide (sc.names.lookup x=some .free))&&
  decide (ix.map (fun i=>N[i]?)=frees.map some)
theorem z1y.sc{osc sc:Scope}{own frees N:List Str}{ix:List Nat}(h:z1y osc sc own frees N ix=true):z1P osc sc own frees N ix:=by
 unfold z1y at h
 simp only[Bool.and_eq_true,List.all_eq_true,decide_eq_true_eq] at h
 obtain⟨⟨⟨⟨⟨⟨h1,h2⟩,h3⟩,h4⟩,h5⟩,h6⟩,h7⟩:=h
 exact⟨h1,h2,h3,h4,h5,h6,h7⟩
theorem Same.new{H:Hp}{p:Addr}(o:HO)(h:H p=none):Same H (upd H p o):=fun x u e=>by rw[z0c (z1a e h)];exact e
noncomputable def dT(ns:List Int):PyData:= .tuple (ns.map PyData.int)
theorem Paired.snoc{α β:Type}{F:α->β->Prop}: ∀{l₁:List α} {l₂:List β} {a:α} {b:β},Paired F l₁ l₂->F a b->Paired F (l₁++[a]) (l₂++[b])
 |_,_,_,_, .nil,h=> .cons h .nil
 |_,_,_,_, .cons r t,h=> .cons r (Paired.snoc t h)
noncomputable def NewX(K:W.Frag)(H:Hp)(xs:List V)(Q:VK):Prop:= ∀p H',(H'=H/\H p=some (.tup xs))\/(H p=none/\H'=upd H p (.tup xs))->Q (.ref p) H'
theorem NewX.intro{K:W.Frag}{H:Hp}{xs:List V}{Q:VK}(h: ∀p H',H' p=some (.tup xs)->Same H H'->Q (.ref p) H'):NewX K H xs Q:=by
 intro p H' e
 rcases e with⟨rfl,s⟩|⟨n,rfl⟩
 ·exact h p H' s (Same.refl _)
 ·exact h p _ z0h (Same.new _ n)
section
variable{X:Cx}
noncomputable def rSlX(K:W.Frag):V->Option Int->Option Int->Hp->VK->Prop:=fun x lo hi H Q=> ∃a xs,x= .ref a/\H a=some (.tup xs)/\NewX K H (cutV xs lo hi) Q
theorem zdr:SlR X (rSlX X.K):=by
 intro pins s σ H x v vl vu lo hi sl Q I rx hs pl pu h
 obtain⟨a,xs,rfl,hx0,q⟩:=h
 have hx:SqT X.K H a xs:=SqT.of hx0
 by_cases hw:HT.sIx xs.length 0 lo=0/\HT.sIx xs.length xs.length hi=xs.length
 ·cases rx
  obtain⟨its,r,ht,hz⟩:=I.tuple hx
  have hlen:its.toArray.size=xs.length:=by rw[List.size_toArray];exact r.length.symm
  refine⟨"tuple",_,PyProof.Rows.slot_tuple_getitem.lookup,ht.typeIs, ?_⟩
  refine HT.getItem_tuple_whole ht hs pl pu (by rw[hlen];exact hw) ⟨.ref a,H,I,rfl,q a H (.inl ⟨rfl, ?_⟩)⟩
  rw[z9l hw]
  exact hx0
 ·exact zf6 pins s σ H _ v vl vu lo hi sl Q I rx hs pl pu ⟨a,xs,rfl,hx,hw,fun p hp=>q p _ (.inr ⟨hp,rfl⟩)⟩
noncomputable def zds(K:W.Frag):R2:=fun x y H Q=> ∃a b xs ys,x= .ref a/\y= .ref b/\H a=some (.tup xs)/\H b=some (.tup ys)/\xs.length+ys.length<=sizeLine/\NewX K H (xs++ys) Q
theorem zdt:OpR X (binaryOp .Add) (zds X.K):=by
 intro pins s σ H x y v u Q I rx ry h
 obtain⟨a,b,xs,ys,rfl,rfl,ha0,hb0,hz,q⟩:=h
 have ha:SqT X.K H a xs:=SqT.of ha0
 have hb:SqT X.K H b ys:=SqT.of hb0
 by_cases hx:xs=[]
 ·subst hx
  cases rx
  cases ry
  obtain⟨its,r1,p1,_⟩:=I.tuple ha
  obtain⟨its2,r2,p2,_⟩:=I.tuple hb
  have e0:its=[]:=(Vals.nil_iff r1).mpr rfl
  subst e0
  obtain⟨⟨cls,dd,data,sl⟩,ho,hc,n,hd⟩:=id p1
  obtain⟨⟨cls2,dd2,data2,sl2⟩,ho2,hc2,n2,hd2⟩:=id p2
  simp only at hc hd hc2 hd2
  subst hc hd hc2 hd2
  exact concat_meets ⟨_,ho,rfl⟩ ⟨_,ho2,rfl⟩ noFill_tuple_add seq_tuple_add PySem.F.slot_tuple_add PySem.F.entry_tuple_add (PySem.F.args_tuple_add_2 _ _)
   (tuple_addW0 a b _ _ n n2 dd dd2 sl sl2 (by simp)) ⟨ho,ho2, .ref b,H,I,rfl,q b H (.inl ⟨rfl,hb0⟩)⟩
 ·refine zdg pins s σ H _ _ v u Q I rx ry ⟨a,b,xs,ys,rfl,rfl,ha,hb,hx,hz,fun e=> ?_,fun _ p hp=>q p _ (.inr ⟨hp,rfl⟩)⟩
  refine q a H (.inl ⟨rfl, ?_⟩)
  rw[e,List.append_nil]
  exact ha0
theorem za9:CallR X (.type "tuple") (fun xs H Q=> ∃(p:Addr) (ys:List V),xs=[.ref p]/\(SqL X.K H p ys\/H p=some (.tup ys))/\NewX X.K H ys Q):=by
 intro pins s σ H xs us Q I r h
 obtain⟨p,ys,rfl,hs,q⟩:=h
 refine z6D pins s σ H _ us Q I r ⟨p,ys,rfl, ?_⟩
 rcases hs with hs|hs
 ·exact .inl ⟨hs,fun l hl=>q l _ (.inr ⟨hl,rfl⟩)⟩
 ·exact .inr ⟨SqT.of hs,q p H (.inl ⟨rfl,hs⟩)⟩
end
end L2
namespace PyProof.Rows
open PySem
section
variable{prog:Program}{w:World}{A:Around}{E:Value->Shared->Prop}{s:Shared}
theorem z5r{h h':Heap}{t:Addr}{items:Array Value}(hl:h.IsList t items)(k: ∀o,h.get? t=some o->h'.get? t=some o):h'.IsList t items:=by
 obtain⟨o,ho,hc,n,hd⟩:=hl
 exact⟨o,k o ho,hc,n,hd⟩
theorem z7n{it t:Addr}{items:Array Value}(hne:t≠it): ∀(n i:Nat) (s:Shared) (Q:List Value->Shared->Prop),s.heap.IsListIter it t i->s.heap.IsList t items->i+n<=items.size->
 (∀h',h'.IsListIter it t (i+n)->Heap.SameBut it s.heap h'->Q ((items.toList.drop i).take n) {s with heap:=h'})->wpAny (model prog w) A (draw (.ref it) n) Q E s
 |0,i,s,Q,hit,_,_,hQ=>by
  show wpAny _ _ (pure []) Q E s
  exact wpAny_pure (by simpa using hQ s.heap hit (Heap.SameBut.refl ..))
 |n+1,i,s,Q,hit,ht,hle,hQ=>by
  have hlt:i<items.size:=by lia
  show wpAny _ _ (pyNext (.ref it)>>=_) Q E s
  refine wpAny_bind (wpAny_pyNext_list_item hit ht (x:=items[i]) (by simp[hlt]) fun h₁ hit₁ hs₁=> ?_)
  refine wpAny_bind (wpAny_holding (z7n hne n (i+1) _ _ hit₁ (z5r ht fun o e=>(hs₁.2 t hne).trans e) (by lia) fun h₂ hit₂ hs₂=>wpAny_pure ?_))
  have hd:items.toList.drop i=items[i]::items.toList.drop (i+1):=by simp[List.drop_eq_getElem_cons,hlt]
  have:=hQ h₂ (by rw[show i+(n+1)=i+1+n by lia];exact hit₂) (hs₁.trans hs₂)
  rw[hd,List.take_succ_cons] at this
  exact this
theorem z55{t:Addr}{items:Array Value}{Q:List Value->Shared->Prop}(hh:A.handled=none)(ht:s.heap.IsList t items)
 (hQ: ∀h',Heap.ExtBut s.heap.objs.size s.heap h'->Q items.toList {s with heap:=h'}):wpAny (model prog w) A (unpackItems (.ref t) items.size none) Q E s:=by
 have hlt:t≠s.heap.objs.size:=by obtain⟨o,ho,_⟩:=ht;exact Nat.ne_of_lt (Heap.lt_size ho)
 have hT:s.TypeIs (.ref t) "list" :=by obtain⟨o,ho,hc,_⟩:=ht;exact⟨o,ho,hc⟩
 unfold unpackItems
 refine wpAny_bind ?_
 ·unfold notIterableAtAll
  refine wpAny_bind (wpAny_specialOf hT PySem.F.slot_list_iter.lookup ?_)
  refine wpAny_pure ?_
  simp only[Bool.false_eq_true,if_false]
  refine wpAny_bind (wpAny_holding (wpAny_pyIter_list ht ?_))
  refine wpAny_bind (wpAny_holding (z7n hlt items.size 0 _ _ ⟨_,Heap.get?_push_size _ rfl,rfl,rfl⟩ (z5r ht fun o e=>Heap.get?_push_of_some _ e) (by lia) fun h₁ hit₁ hs₁=> ?_))
  have hall:List.take items.size (List.drop 0 items.toList)=items.toList:=by
   rw[List.drop_zero];exact List.take_of_length_le (by simp)
  rw[hall]
  rw[if_neg (by simp)]
  have ht₁:h₁.IsList t items:=z5r ht fun o e=>(hs₁.2 t hlt).trans (Heap.get?_push_of_some _ e)
  refine wpAny_bind (wpAny_holding (wpAny_pyNext_list_end hh hit₁ ht₁ (by simp) fun h₂ he₂=> ?_))
  simp only[Option.isSome_none,Bool.false_eq_true,if_false]
  refine wpAny_pure (hQ h₂ fun b o hb e=>he₂ b o hb (hs₁.extBut b o hb (Heap.get?_push_of_some _ e)))
theorem z4E{env:Env}{elts:List Expr}{x1}{pos:Pos}{t:Addr}{items:Array Value}{Q:Unit->Shared->Prop}(hh:A.handled=none)(ht:s.heap.IsList t items)
 (hn:(assignEach elts env).length=items.size) (hstar:(assignEach elts env).findIdx? (·.1)=none)
 (h: ∀h',Heap.ExtBut s.heap.objs.size s.heap h'->wpAny (model prog w) A (assignInOrder ((assignEach elts env).map (·.2)) items.toList) Q E {s with heap:=h'}):
 wpAny (model prog w) A (assign (.Tuple elts x1 pos) env (.ref t)) Q E s:=by
 rw[assign_Tuple]
 refine wpAny_bind (wpAny_standAt ?_)
 unfold unpack
 rw[hn,hstar]
 exact wpAny_bind (wpAny_holding (z55 hh ht h))
end
end PyProof.Rows
namespace L2
open PySem PySem.Spec PyProof.Rows
section
variable{X:Cx}{pos:Pos}
noncomputable def gSeq(K:W.Frag)(n:Nat)(t:TGs):TG:=fun v σ H Q=> ∃a xs,v= .ref a/\(SqT K H a xs\/SqL K H a xs)/\xs.length=n/\t xs σ H Q
theorem zfi{es:List Expr}{k:Nat}{t:TGs}{n:Nat}(hc:X.calm=true)(h:PGs X es t)
 (hn:(assignEach es X.env).length=n:=by rfl) (hst:(assignEach es X.env).findIdx? (·.1)=none:=by rfl):PG X (.Tuple es k pos) (gSeq X.K n t):=by
 intro pins s σ H v u Q I r hw
 obtain⟨a,xs,e1,hq|hq,hl,hw⟩:=hw
 ·exact zeO hc h hn hst pins s σ H v u Q I r ⟨a,xs,e1,hq,hl,hw⟩
 ·subst e1
  cases r
  obtain⟨its,rv,ht,hz⟩:=I.list hq
  refine z4E (I.ok.hd hc) ht.isList (by simp[hn,<-hl,rv.length]) hst fun h' hx=> ?_
  have I1:Inv X pins σ H {s with heap:=h'}:=I.kept (t':=s.toks) fun b o e=>hx b o (Nat.ne_of_lt (Heap.lt_size e)) e
  exact h pins _ σ H xs _ Q I1 (by simpa using rv) hw
end
theorem z56:fillsNumberSlot (.type "tuple") "mul" =pure false:=
 PySem.fillsNumberSlot_seq (id:= "tuple.__mul__") (r:=some (.builtin "tuple.__rmul__")) F.slot_tuple_mul.lookup (by decide+kernel) F.slot_tuple_rmul.lookup (by decide+kernel)
theorem z7o:seqRepeat? (.type "tuple")=pure (some (.builtin "tuple.__mul__")):=by
 unfold seqRepeat?
 rw[PySem.seqSlot_of (T:= "tuple") (name:= "__mul__") (id:= "tuple.__mul__") F.slot_tuple_mul.lookup (by decide+kernel),PySem.seqSlot_of (T:= "tuple") (name:= "__rmul__") (id:= "tuple.__rmul__") F.slot_tuple_rmul.lookup (by decide+kernel)]
 rfl
theorem z69(a:Int)(t:Tok)(l:Addr)(items:Array Value)(n:Nat)(dd:Option Addr)(sl:Array (Option Value)):
 Meets (Builtin.«int.__rmul__» ⟨[.int a t, .ref l],[]⟩) (fun _ R s=>s.heap.get? l=some {cls:= .type "tuple",dict:=dd,data:= .seq items n,slots:=sl}/\R (.ok (.ret Value.notImplemented)) s):=
 .of_wp fun prog w A R s h=>by obtain⟨hp,g,d,tk,os⟩:=s;obtain⟨hl,h⟩:=h;wp_walk;exact⟨_,rfl,h⟩
theorem z9n(l:Addr)(items:Array Value)(n:Nat)(dd:Option Addr)(sl:Array (Option Value))(x:Int)(u:Tok)(hc0: ¬(decide (x< -(2^63))||decide (x≥2^63))=true)(hc1: ¬(items.isEmpty||x==1)=true)(hc2: ¬(decide (x<=0)||items.isEmpty)=true)(hc3: ¬((items.size:Int)*x>(2^63 - 1)/8))(hc4: ¬Builtin.Tuple.tupleTooMany ((items.size:Int)*x)=true)(hsz:(List.foldl (fun x1 x2=>x1++x2) #[] (List.replicate x.toNat items)).size<=sizeLine):
 Meets (Builtin.«tuple.__mul__» ⟨[.ref l, .int x u],[]⟩) (fun _ R s=>s.heap.get? l=some {cls:= .type "tuple",dict:=dd,data:= .seq items n,slots:=sl}/\R (.ok (.ret (Value.ref s.heap.objs.size))) {s with heap:=s.heap.push {cls:=Value.type "tuple",data:=Data.seq (List.foldl (fun x1 x2=>x1++x2) #[] (List.replicate x.toNat items))},toks:=s.toks}):=
 .of_wp fun prog w A R s h=>by
  obtain⟨hp,g,d,tk,os⟩:=s;obtain⟨hl,h⟩:=h
  have f1:=AutoSeq1.idx_int;have f2:=AutoSeq1.sub_tuple_tuple
  wp_walk using AutoSeq1.wpAny_loadPart' hl
  rw[if_neg hc0]
  wp_walk using AutoSeq1.wpAny_loadPart' hl
  rw[if_neg hc3]
  wp_walk using AutoSeq1.wpAny_loadPart' hl
  exact⟨_,rfl,h⟩
section
variable{X:Cx}
noncomputable def zdu(K:W.Frag):R2:=fun x y H Q=> ∃a k xs,x= .ref a/\y= .int k/\SqT K H a xs/\0<xs.length/\2<=k/\k<2^63/\xs.length*k.toNat<=sizeLine/\
 ∀p,H p=none->Q (.ref p) (upd H p (.tup (List.replicate k.toNat xs).flatten))
theorem zdv:OpR X (binaryOp .Mult) (zdu X.K):=by
 intro pins s σ H x y v u Q I rx ry h
 obtain⟨a,k,xs,rfl,rfl,ha,h0,h1,h2,hz,q⟩:=h
 cases rx
 obtain⟨t,rfl⟩:=ry
 obtain⟨its,r,p1,_⟩:=I.tuple ha
 obtain⟨⟨cls,dd,data,sl⟩,e,hc,n,hd⟩:=id p1
 simp only at hc hd
 subst hc hd
 have hlen:its.length=xs.length:=r.length.symm
 have hne:its.toArray.isEmpty=false:=by
  cases its with
  |nil=>simp at hlen;lia
  |cons a r=>simp
 have hnew:List.foldl (fun x1 x2=>x1++x2) #[] (List.replicate k.toNat its.toArray)=(List.replicate k.toNat its).flatten.toArray:=by
  have:=z5n its k.toNat []
  rw[List.nil_append] at this
  exact this
 have hl2:((its.toArray.size:Nat):Int)*k=((xs.length*k.toNat:Nat):Int):=by
  rw[List.size_toArray,hlen,Int.natCast_mul,Int.toNat_of_nonneg (by lia)]
 have hs:(sizeLine:Nat)=16777216:=rfl
 refine wpAny_binaryOp_repeat_ref (T:= "tuple") (U:= "int") (by decide) ⟨_,e,rfl⟩ (fun s'=>typeIs_int s' k t) z56 F.fills_int_mul F.slot_int_rmul z7o F.slot_int_index.lookup
  (call_meets F.slot_int_rmul (typeIs_int s k t) F.entry_int_rmul (F.args_int_rmul_2 _ _) (z69 k t a its.toArray n dd sl)
   ⟨e,rfl,⟨_,e,rfl⟩,call_meets F.slot_tuple_mul ⟨_,e,rfl⟩ F.entry_tuple_mul (F.args_tuple_mul_2 _ _) (z9n a its.toArray n dd sl k t (by simp;lia) (by rw[hne];simp;lia) (by rw[hne];simp;lia) (by rw[hl2];clear hl2;generalize xs.length*k.toNat=m at hz⊢;lia) (by rw[hl2];clear hl2;generalize xs.length*k.toNat=m at hz⊢;unfold Builtin.Tuple.tupleTooMany;rw[decide_eq_true_eq];lia) (by rw[hnew,List.size_toArray,len_rep,hlen,Nat.mul_comm];exact hz)) ⟨e, ?_⟩⟩)
 rw[hnew]
 refine⟨.ref s.heap.objs.size,_,I.laid (t':=s.toks) (o:= .tup (List.replicate k.toNat xs).flatten) (fun b ob q=>Heap.get?_push_of_some _ q) (Nat.le_refl _) ?_,rfl,q _ (I.hok.fresh (Nat.le_refl _))⟩
 exact⟨by rw[len_rep,Nat.mul_comm];exact hz,_,r.rep k.toNat,IsTup.new _ _⟩
end
end L2
namespace Mi
open PySem L2
inductive D where
 |non|bool (b:Bool)|int (i:Int)|str (x:Str)
 |tup (ds:List D)|ro (ds:List D)|lst (l:Nat) (ds:List D)
 |dct (l:Nat) (ks vs:List D)|obj (l:Nat) (c:Str) (ns:List Str) (vs:List D)
 |exc (c:Str)|fn (c:Str)|fdc (ks vs:List D)
deriving Inhabited
mutual
noncomputable def labs:D->List Nat
 | .tup ds=>z02 ds
 | .ro ds=>z02 ds
 | .fdc _ vs=>z02 vs
 | .lst l ds=>l::z02 ds
 | .dct l ks vs=>l::(z02 ks++z02 vs)
 | .obj l _ _ vs=>l::z02 vs
 | .non=>[]| .bool _=>[]| .int _=>[]| .str _=>[]| .exc _=>[]| .fn _=>[]
noncomputable def z02:List D->List Nat
 |[]=>[]
 |d::ds=>labs d++z02 ds
end
noncomputable def z0b:List (Option D)->List Nat
 |[]=>[]
 |none::r=>z0b r
 |some d::r=>labs d++z0b r
structure Gx where
 K:W.Frag
 cl:Str->Option Addr
 ci: ∀c c' a,cl c=some a->cl c'=some a->c=c'
 ck: ∀c a,cl c=some a->∃o,K.lookup a=some o/\∀its n,o.data≠ .seq its n
noncomputable def keyD:Key->D
 | .inl i=> .int i
 | .inr x=> .str x
noncomputable def dkD(ks:List Key):D:= .tup (ks.map keyD)
noncomputable def RoL(K:W.Frag)(H:Hp)(a:Addr)(xs:List V):Prop:=
 (∃o,H a=some (.frz o (.lst xs)))\/∃(o:Obj) (its:Array Value) (n:Nat),K.lookup a=some o/\o.cls= .type "list" /\o.dict=none/\o.data= .seq its n/\its.size<=sizeLine/\Vals xs its.toList
theorem RoL.sq{K:W.Frag}{H:Hp}{a:Addr}{xs:List V}(h:RoL K H a xs):SqL K H a xs:=by
 rcases h with⟨o,h⟩|h
 ·exact .inl (.inr ⟨o,h⟩)
 ·exact .inr h
mutual
noncomputable def RD(G:Gx)(ρ:Nat->Addr)(H:Hp):D->V->Prop
 | .non,v=>v= .non
 | .bool b,v=>v= .bl b
 | .int i,v=>v= .int i
 | .str x,v=>v= .str x
 | .exc c,v=> ∃a o C,v= .ref a/\G.cl c=some C/\o.cls= .ref C/\(∃vs,o.data= .fields vs)/\H a=some (.frz o (.ext fun _=>True))
 | .fn c,v=> ∃a,v= .ref a/\G.cl c=some a
 | .tup ds,v=> ∃a xs,v= .ref a/\H a=some (.tup xs)/\RDs G ρ H ds xs
 | .ro ds,v=> ∃a xs,v= .ref a/\RoL G.K H a xs/\RDs G ρ H ds xs
 | .fdc ks vs,v=> ∃(a:Addr) (o:Obj) (kvs:List (List Key×V)),v= .ref a/\H a=some (.frz o (.dT kvs))/\ks=kvs.map (fun p=>dkD p.1)/\RDs G ρ H vs (kvs.map (·.2))
 | .lst l ds,v=>v= .ref (ρ l)/\∃xs,H (ρ l)=some (.lst xs)/\RDs G ρ H ds xs
 | .dct l ks vs,v=>v= .ref (ρ l)/\((∃kvs:List (Key×V),H (ρ l)=some (.dK kvs)/\ks=D.non::kvs.map (fun p=>keyD p.1)/\RDs G ρ H vs (kvs.map (·.2)))\/
  (∃kvs:List (List Key×V),H (ρ l)=some (.dT kvs)/\ks=kvs.map (fun p=>dkD p.1)/\RDs G ρ H vs (kvs.map (·.2))))
 | .obj l c ns vs,v=>v= .ref (ρ l)/\∃C dx fs,G.cl c=some C/\H (ρ l)=some (.ins C dx fs)/\ns=fs.map (·.1)/\RDs G ρ H vs (fs.map (·.2))
noncomputable def RDs(G:Gx)(ρ:Nat->Addr)(H:Hp):List D->List V->Prop
 |[],xs=>xs=[]
 |d::ds,xs=> ∃x r,xs=x::r/\RD G ρ H d x/\RDs G ρ H ds r
end
structure z2a(H H':Hp):Prop where
 t: ∀b xs,H b=some (.tup xs)->H' b=some (.tup xs)
 f: ∀b o u,H b=some (.frz o u)->H' b=some (.frz o u)
theorem z2a.refl(H:Hp):z2a H H:=⟨fun _ _ h=>h,fun _ _ _ h=>h⟩
theorem z2a.of{H H':Hp}(h:Same H H'):z2a H H':=⟨fun _ _ e=>h _ _ e,fun _ _ _ e=>h _ _ e⟩
theorem z2a.ro{K:W.Frag}{H H':Hp}(t:z2a H H'){a:Addr}{xs:List V}(h:RoL K H a xs):RoL K H' a xs:=by
 rcases h with⟨o,h⟩|h
 ·exact .inl ⟨o,t.f _ _ _ h⟩
 ·exact .inr h
section
variable{G:Gx}{ρ ρ':Nat->Addr}{H H':Hp}
mutual
theorem RD.stay(ts:z2a H H'): ∀(t:D) (v:V),RD G ρ H t v->(∀l∈labs t,ρ' l=ρ l/\∀o,H (ρ l)=some o->H' (ρ l)=some o)->RD G ρ' H' t v
 | .non,v,h,_=>by simp only[RD] at h⊢;exact h
 | .bool b,v,h,_=>by simp only[RD] at h⊢;exact h
 | .int b,v,h,_=>by simp only[RD] at h⊢;exact h
 | .str b,v,h,_=>by simp only[RD] at h⊢;exact h
 | .exc b,v,h,_=>by
  simp only[RD] at h⊢
  obtain⟨a,o,C,e,h1,h2,h3,h5⟩:=h
  exact⟨a,o,C,e,h1,h2,h3,ts.f _ _ _ h5⟩
 | .fn b,v,h,_=>by simp only[RD] at h⊢;exact h
 | .tup ds,v,h,hl=>by
  simp only[RD,labs] at h hl⊢
  obtain⟨a,xs,e,s,r⟩:=h
  exact⟨a,xs,e,ts.t _ _ s,RDs.stay ts ds xs r hl⟩
 | .ro ds,v,h,hl=>by
  simp only[RD,labs] at h hl⊢
  obtain⟨a,xs,e,s,r⟩:=h
  exact⟨a,xs,e,ts.ro s,RDs.stay ts ds xs r hl⟩
 | .fdc ks vs,v,h,hl=>by
  simp only[RD,labs] at h hl⊢
  obtain⟨a,o,kvs,e,s,s2,r⟩:=h
  exact⟨a,o,kvs,e,ts.f _ _ _ s,s2,RDs.stay ts vs _ r hl⟩
 | .lst l ds,v,h,hl=>by
  simp only[RD,labs] at h hl⊢
  obtain⟨e,xs,s,r⟩:=h
  obtain⟨e1,e2⟩:=hl l (List.mem_cons_self ..)
  rw[e1]
  exact⟨e,xs,e2 _ s,RDs.stay ts ds xs r fun k hk=>hl k (List.mem_cons_of_mem _ hk)⟩
 | .dct l ks vs,v,h,hl=>by
  simp only[RD,labs] at h hl⊢
  obtain⟨e,s⟩:=h
  obtain⟨e1,e2⟩:=hl l (List.mem_cons_self ..)
  rw[e1]
  refine⟨e, ?_⟩
  rcases s with⟨kvs,s,s2,r⟩|⟨kvs,s,s2,r⟩
  ·exact .inl ⟨kvs,e2 _ s,s2,RDs.stay ts vs _ r fun k hk=>hl k (List.mem_cons_of_mem _ (List.mem_append_right _ hk))⟩
  ·exact .inr ⟨kvs,e2 _ s,s2,RDs.stay ts vs _ r fun k hk=>hl k (List.mem_cons_of_mem _ (List.mem_append_right _ hk))⟩
 | .obj l c ns vs,v,h,hl=>by
  simp only[RD,labs] at h hl⊢
  obtain⟨e,C,dx,fs,hC,s,s2,r⟩:=h
  obtain⟨e1,e2⟩:=hl l (List.mem_cons_self ..)
  rw[e1]
  exact⟨e,C,dx,fs,hC,e2 _ s,s2,RDs.stay ts vs _ r fun k hk=>hl k (List.mem_cons_of_mem _ hk)⟩
theorem RDs.stay(ts:z2a H H'): ∀(t:List D) (v:List V),RDs G ρ H t v->(∀l∈z02 t,ρ' l=ρ l/\∀o,H (ρ l)=some o->H' (ρ l)=some o)->RDs G ρ' H' t v
 |[],v,h,_=>by simp only[RDs] at h⊢;exact h
 |d::ds,v,h,hl=>by
  simp only[RDs,z02] at h hl⊢
  obtain⟨x,r,e,h1,h2⟩:=h
  exact⟨x,r,e,RD.stay ts d x h1 fun l hk=>hl l (List.mem_append_left _ hk),RDs.stay ts ds r h2 fun l hk=>hl l (List.mem_append_right _ hk)⟩
end
end
mutual
noncomputable def rp(f:Nat->Option D):D->D
 | .tup ds=> .tup (rpL f ds)
 | .ro ds=> .ro (rpL f ds)
 | .fdc ks vs=> .fdc ks (rpL f vs)
 | .lst l ds=>match f l with|some d=>d|none=> .lst l (rpL f ds)
 | .dct l ks vs=>match f l with|some d=>d|none=> .dct l ks (rpL f vs)
 | .obj l c ns vs=>match f l with|some d=>d|none=> .obj l c ns (rpL f vs)
 | .non=> .non| .bool b=> .bool b| .int i=> .int i| .str x=> .str x| .exc x=> .exc x| .fn x=> .fn x
noncomputable def rpL(f:Nat->Option D):List D->List D
 |[]=>[]
 |d::ds=>rp f d::rpL f ds
end
noncomputable def rpO(f:Nat->Option D):List (Option D)->List (Option D)
 |[]=>[]
 |none::r=>none::rpO f r
 |some d::r=>some (rp f d)::rpO f r
section
variable{f:Nat->Option D}
mutual
theorem zdw: ∀t:D,(∀l∈labs t,f l=none)->rp f t=t
 | .non,_=>rfl
 | .bool b,_=>rfl
 | .int b,_=>rfl
 | .str b,_=>rfl
 | .exc b,_=>rfl
 | .fn b,_=>rfl
 | .tup ds,h=>by simp only[rp,labs] at h⊢;rw[z4Z ds h]
 | .ro ds,h=>by simp only[rp,labs] at h⊢;rw[z4Z ds h]
 | .fdc ks vs,h=>by simp only[rp,labs] at h⊢;rw[z4Z vs h]
 | .lst l ds,h=>by
  simp only[rp,labs] at h⊢
  rw[h l (List.mem_cons_self ..),z4Z ds fun k hk=>h k (List.mem_cons_of_mem _ hk)]
 | .dct l ks vs,h=>by
  simp only[rp,labs] at h⊢
  rw[h l (List.mem_cons_self ..),z4Z vs fun k hk=>h k (List.mem_cons_of_mem _ (List.mem_append_right _ hk))]
 | .obj l c ns vs,h=>by
  simp only[rp,labs] at h⊢
  rw[h l (List.mem_cons_self ..),z4Z vs fun k hk=>h k (List.mem_cons_of_mem _ hk)]
theorem z4Z: ∀t:List D,(∀l∈z02 t,f l=none)->rpL f t=t
 |[],_=>rfl
 |d::ds,h=>by
  simp only[rpL,z02] at h⊢
  rw[zdw d fun l hk=>h l (List.mem_append_left _ hk),z4Z ds fun l hk=>h l (List.mem_append_right _ hk)]
end
theorem zaa: ∀t:List (Option D),(∀l∈z0b t,f l=none)->rpO f t=t
 |[],_=>rfl
 |none::r,h=>by simp only[rpO,z0b] at h⊢;rw[zaa r h]
 |some d::r,h=>by
  simp only[rpO,z0b] at h⊢
  rw[zdw d fun l hk=>h l (List.mem_append_left _ hk),zaa r fun l hk=>h l (List.mem_append_right _ hk)]
end
section
variable{G:Gx}{ρ ρ':Nat->Addr}{H H':Hp}{f:Nat->Option D}
mutual
theorem RD.rp(ts:z2a H H'): ∀(t:D) (v:V),RD G ρ H t v->(∀l∈labs t,ρ' l=ρ l/\(match f l with|some d=>RD G ρ' H' d (.ref (ρ l))|none=> ∀o,H (ρ l)=some o->H' (ρ l)=some o))->RD G ρ' H' (rp f t) v
 | .non,v,h,_=>by simp only[Mi.rp,RD] at h⊢;exact h
 | .bool b,v,h,_=>by simp only[Mi.rp,RD] at h⊢;exact h
 | .int b,v,h,_=>by simp only[Mi.rp,RD] at h⊢;exact h
 | .str b,v,h,_=>by simp only[Mi.rp,RD] at h⊢;exact h
 | .exc b,v,h,_=>by
  simp only[Mi.rp,RD] at h⊢
  obtain⟨a,o,C,e,h1,h2,h3,h5⟩:=h
  exact⟨a,o,C,e,h1,h2,h3,ts.f _ _ _ h5⟩
 | .fn b,v,h,_=>by simp only[Mi.rp,RD] at h⊢;exact h
 | .tup ds,v,h,hl=>by
  simp only[Mi.rp,RD,labs] at h hl⊢
  obtain⟨a,xs,e,s,r⟩:=h
  exact⟨a,xs,e,ts.t _ _ s,RDs.rp ts ds xs r hl⟩
 | .ro ds,v,h,hl=>by
  simp only[Mi.rp,RD,labs] at h hl⊢
  obtain⟨a,xs,e,s,r⟩:=h
  exact⟨a,xs,e,ts.ro s,RDs.rp ts ds xs r hl⟩
 | .fdc ks vs,v,h,hl=>by
  simp only[Mi.rp,RD,labs] at h hl⊢
  obtain⟨a,o,kvs,e,s,s2,r⟩:=h
  exact⟨a,o,kvs,e,ts.f _ _ _ s,s2,RDs.rp ts vs _ r hl⟩
 | .lst l ds,v,h,hl=>by
  simp only[Mi.rp,RD,labs] at h hl⊢
  obtain⟨e,xs,s,r⟩:=h
  obtain⟨e1,e2⟩:=hl l (List.mem_cons_self ..)
  cases ef:f l with
  |some d=>rw[ef] at e2;subst e;exact e2
  |none=>
   rw[ef] at e2
   simp only[RD]
   rw[e1]
   exact⟨e,xs,e2 _ s,RDs.rp ts ds xs r fun k hk=>hl k (List.mem_cons_of_mem _ hk)⟩
 | .dct l ks vs,v,h,hl=>by
  simp only[Mi.rp,RD,labs] at h hl⊢
  obtain⟨e,s⟩:=h
  obtain⟨e1,e2⟩:=hl l (List.mem_cons_self ..)
  cases ef:f l with
  |some d=>rw[ef] at e2;subst e;exact e2
  |none=>
   rw[ef] at e2
   simp only[RD]
   rw[e1]
   refine⟨e, ?_⟩
   rcases s with⟨kvs,s,s2,r⟩|⟨kvs,s,s2,r⟩
   ·exact .inl ⟨kvs,e2 _ s,s2,RDs.rp ts vs _ r fun k hk=>hl k (List.mem_cons_of_mem _ (List.mem_append_right _ hk))⟩
   ·exact .inr ⟨kvs,e2 _ s,s2,RDs.rp ts vs _ r fun k hk=>hl k (List.mem_cons_of_mem _ (List.mem_append_right _ hk))⟩
 | .obj l c ns vs,v,h,hl=>by
  simp only[Mi.rp,RD,labs] at h hl⊢
  obtain⟨e,C,dx,fs,hC,s,s2,r⟩:=h
  obtain⟨e1,e2⟩:=hl l (List.mem_cons_self ..)
  cases ef:f l with
  |some d=>rw[ef] at e2;subst e;exact e2
  |none=>
   rw[ef] at e2
   simp only[RD]
   rw[e1]
   exact⟨e,C,dx,fs,hC,e2 _ s,s2,RDs.rp ts vs _ r fun k hk=>hl k (List.mem_cons_of_mem _ hk)⟩
theorem RDs.rp(ts:z2a H H'): ∀(t:List D) (v:List V),RDs G ρ H t v->(∀l∈z02 t,ρ' l=ρ l/\(match f l with|some d=>RD G ρ' H' d (.ref (ρ l))|none=> ∀o,H (ρ l)=some o->H' (ρ l)=some o))->RDs G ρ' H' (rpL f t) v
 |[],v,h,_=>by simp only[rpL,RDs] at h⊢;exact h
 |d::ds,v,h,hl=>by
  simp only[rpL,RDs,z02] at h hl⊢
  obtain⟨x,r,e,h1,h2⟩:=h
  exact⟨x,r,e,RD.rp ts d x h1 fun l hk=>hl l (List.mem_append_left _ hk),RDs.rp ts ds r h2 fun l hk=>hl l (List.mem_append_right _ hk)⟩
end
end
section
variable{f:Nat->Option D}
mutual
theorem zab(l:Nat): ∀t:D,l∈labs (rp f t)->l∈labs t\/∃k d,k∈labs t/\f k=some d/\l∈labs d
 | .non,h=>by simp only[rp,labs] at h;cases h
 | .bool b,h=>by simp only[rp,labs] at h;cases h
 | .int b,h=>by simp only[rp,labs] at h;cases h
 | .str b,h=>by simp only[rp,labs] at h;cases h
 | .exc b,h=>by simp only[rp,labs] at h;cases h
 | .fn b,h=>by simp only[rp,labs] at h;cases h
 | .tup ds,h=>by
  simp only[rp,labs] at h⊢
  exact z2Y l ds h
 | .ro ds,h=>by
  simp only[rp,labs] at h⊢
  exact z2Y l ds h
 | .fdc ks vs,h=>by
  simp only[rp,labs] at h⊢
  exact z2Y l vs h
 | .lst k ds,h=>by
  simp only[rp] at h
  cases e:f k with
  |some d=>rw[e] at h;exact .inr ⟨k,d,by simp only[labs];exact List.mem_cons_self ..,e,h⟩
  |none=>
   rw[e] at h
   simp only[labs] at h⊢
   rcases List.mem_cons.mp h with h|h
   ·exact .inl (List.mem_cons.mpr (.inl h))
   ·rcases z2Y l ds h with q|⟨k',d,q1,q2,q3⟩
    ·exact .inl (List.mem_cons_of_mem _ q)
    ·exact .inr ⟨k',d,List.mem_cons_of_mem _ q1,q2,q3⟩
 | .dct k ks vs,h=>by
  simp only[rp] at h
  cases e:f k with
  |some d=>rw[e] at h;exact .inr ⟨k,d,by simp only[labs];exact List.mem_cons_self ..,e,h⟩
  |none=>
   rw[e] at h
   simp only[labs] at h⊢
   rcases List.mem_cons.mp h with h|h
   ·exact .inl (List.mem_cons.mpr (.inl h))
   ·rcases List.mem_append.mp h with h|h
    ·exact .inl (List.mem_cons_of_mem _ (List.mem_append_left _ h))
    ·rcases z2Y l vs h with q|⟨k',d,q1,q2,q3⟩
     ·exact .inl (List.mem_cons_of_mem _ (List.mem_append_right _ q))
     ·exact .inr ⟨k',d,List.mem_cons_of_mem _ (List.mem_append_right _ q1),q2,q3⟩
 | .obj k c ns vs,h=>by
  simp only[rp] at h
  cases e:f k with
  |some d=>rw[e] at h;exact .inr ⟨k,d,by simp only[labs];exact List.mem_cons_self ..,e,h⟩
  |none=>
   rw[e] at h
   simp only[labs] at h⊢
   rcases List.mem_cons.mp h with h|h
   ·exact .inl (List.mem_cons.mpr (.inl h))
   ·rcases z2Y l vs h with q|⟨k',d,q1,q2,q3⟩
    ·exact .inl (List.mem_cons_of_mem _ q)
    ·exact .inr ⟨k',d,List.mem_cons_of_mem _ q1,q2,q3⟩
theorem z2Y(l:Nat): ∀t:List D,l∈z02 (rpL f t)->l∈z02 t\/∃k d,k∈z02 t/\f k=some d/\l∈labs d
 |[],h=>by simp only[rpL,z02] at h;cases h
 |d::ds,h=>by
  simp only[rpL,z02] at h⊢
  rcases List.mem_append.mp h with h|h
  ·rcases zab l d h with q|⟨k',d,q1,q2,q3⟩
   ·exact .inl (List.mem_append_left _ q)
   ·exact .inr ⟨k',d,List.mem_append_left _ q1,q2,q3⟩
  ·rcases z2Y l ds h with q|⟨k',d,q1,q2,q3⟩
   ·exact .inl (List.mem_append_right _ q)
   ·exact .inr ⟨k',d,List.mem_append_right _ q1,q2,q3⟩
end
theorem z5g(l:Nat): ∀t:List (Option D),l∈z0b (rpO f t)->l∈z0b t\/∃k d,k∈z0b t/\f k=some d/\l∈labs d
 |[],h=>by simp only[rpO,z0b] at h;cases h
 |none::r,h=>by simp only[rpO,z0b] at h⊢;exact z5g l r h
 |some d::ds,h=>by
  simp only[rpO,z0b] at h⊢
  rcases List.mem_append.mp h with h|h
  ·rcases zab l d h with q|⟨k',d,q1,q2,q3⟩
   ·exact .inl (List.mem_append_left _ q)
   ·exact .inr ⟨k',d,List.mem_append_left _ q1,q2,q3⟩
  ·rcases z5g l ds h with q|⟨k',d,q1,q2,q3⟩
   ·exact .inl (List.mem_append_right _ q)
   ·exact .inr ⟨k',d,List.mem_append_right _ q1,q2,q3⟩
end
structure Stt where
 σ:List (Option D)
 tm:List (Option D)
 n:Nat
structure Fx where
 A0:Addr->Prop
 H0:Hp
 Z:Addr->Prop
 zA: ∀a,Z a->(∃o,H0 a=some o)/\¬A0 a
 aH: ∀a,A0 a->∃o,H0 a=some o
 n0:Nat
 ρ0:Nat->Addr
noncomputable def KD(K:W.Frag)(H:Hp):Prop:= ∀a o,K.lookup a=some o->H a=none
section
variable(G:Gx)(ρ:Nat->Addr)(H:Hp)
noncomputable def Sl:List (Option D)->List (Option V)->Prop
 |[],vs=>vs=[]
 |none::r,vs=> ∃o q,vs=o::q/\Sl r q
 |some d::r,vs=> ∃v q,vs=some v::q/\RD G ρ H d v/\Sl r q
end
noncomputable def z1p(s:Stt):List Nat:=z0b s.σ++z0b s.tm
structure MR(G:Gx)(F:Fx)(ρ:Nat->Addr)(H:Hp)(σv tv:List (Option V))(s:Stt):Prop where
 sl:Sl G ρ H s.σ σv
 tm:Sl G ρ H s.tm tv
 inj: ∀i j,i<s.n->j<s.n->ρ i=ρ j->i=j
 dom: ∀l,l<s.n->∃o,H (ρ l)=some o
 lab: ∀l∈z1p s,l<s.n
 own: ∀l∈z1p s,F.A0 (ρ l)\/F.H0 (ρ l)=none
 frm: ∀a o,F.H0 a=some o->(∃o',H a=some o')/\(¬F.A0 a->H a=some o)
 kd:KD G.K H
 frb: ∀l,l<s.n->¬F.Z (ρ l)
 bas:F.n0<=s.n/\∀l,l<F.n0->ρ l=F.ρ0 l
noncomputable def Stt.psh(s:Stt)(t:D):Stt:={s with tm:=some t::s.tm}
noncomputable def Stt.nxt(s:Stt):Stt:={s with n:=s.n+1}
section
variable{G:Gx}{F:Fx}{ρ ρ':Nat->Addr}{H H':Hp}{σv tv:List (Option V)}{s:Stt}{t:D}{v:V}
theorem Sl.stay(ts:z2a H H'): ∀{σ:List (Option D)} {σv:List (Option V)},Sl G ρ H σ σv->(∀l∈z0b σ,ρ' l=ρ l/\∀o,H (ρ l)=some o->H' (ρ l)=some o)->Sl G ρ' H' σ σv
 |[],_,h,_=>h
 |none::r,_,h,hl=>by
  simp only[Sl,z0b] at h hl⊢
  obtain⟨o,q,e,h⟩:=h
  exact⟨o,q,e,Sl.stay ts h hl⟩
 |some d::r,_,h,hl=>by
  simp only[Sl,z0b] at h hl⊢
  obtain⟨o,q,e,h1,h⟩:=h
  exact⟨o,q,e,RD.stay ts d o h1 fun l hk=>hl l (List.mem_append_left _ hk),Sl.stay ts h fun l hk=>hl l (List.mem_append_right _ hk)⟩
theorem Sl.rp{f:Nat->Option D}(ts:z2a H H'): ∀{σ:List (Option D)} {σv:List (Option V)},Sl G ρ H σ σv->
 (∀l∈z0b σ,ρ' l=ρ l/\(match f l with|some d=>RD G ρ' H' d (.ref (ρ l))|none=> ∀o,H (ρ l)=some o->H' (ρ l)=some o))->Sl G ρ' H' (rpO f σ) σv
 |[],_,h,_=>h
 |none::r,_,h,hl=>by
  simp only[Sl,z0b,rpO] at h hl⊢
  obtain⟨o,q,e,h⟩:=h
  exact⟨o,q,e,Sl.rp ts h hl⟩
 |some d::r,_,h,hl=>by
  simp only[Sl,z0b,rpO] at h hl⊢
  obtain⟨o,q,e,h1,h⟩:=h
  exact⟨o,q,e,RD.rp ts d o h1 fun l hk=>hl l (List.mem_append_left _ hk),Sl.rp ts h fun l hk=>hl l (List.mem_append_right _ hk)⟩
theorem Sl.get: ∀{σ:List (Option D)} {σv:List (Option V)},Sl G ρ H σ σv->∀(i:Nat) (d:D),σ[i]? =some (some d)->∃v,σv[i]? =some (some v)/\RD G ρ H d v
 |[],_,_,i,d,e=>by simp at e
 |none::r,_,h,i,d,e=>by
  simp only[Sl] at h
  obtain⟨o,q,rfl,h⟩:=h
  cases i with
  |zero=>simp at e
  |succ i=>simpa using Sl.get h i d (by simpa using e)
 |some d'::r,_,h,i,d,e=>by
  simp only[Sl] at h
  obtain⟨v,q,rfl,h1,h⟩:=h
  cases i with
  |zero=>simp at e;subst e;exact⟨v,rfl,h1⟩
  |succ i=>simpa using Sl.get h i d (by simpa using e)
theorem Sl.length: ∀{σ:List (Option D)} {σv:List (Option V)},Sl G ρ H σ σv->σ.length=σv.length
 |[],_,h=>by simp only[Sl] at h;subst h;rfl
 |none::r,_,h=>by
  simp only[Sl] at h
  obtain⟨o,q,rfl,h⟩:=h
  simp[Sl.length h]
 |some d'::r,_,h=>by
  simp only[Sl] at h
  obtain⟨v,q,rfl,h1,h⟩:=h
  simp[Sl.length h]
theorem Sl.set: ∀{σ:List (Option D)} {σv:List (Option V)} (i:Nat),Sl G ρ H σ σv->RD G ρ H t v->Sl G ρ H (σ.set i (some t)) (σv.set i (some v))
 |[],_,i,h,_=>by simp only[Sl] at h;subst h;simp[Sl]
 |none::r,_,i,h,ht=>by
  simp only[Sl] at h
  obtain⟨o,q,rfl,h⟩:=h
  cases i with
  |zero=>simp only[List.set_cons_zero,Sl];exact⟨_,_,rfl,ht,h⟩
  |succ i=>simp only[List.set_cons_succ,Sl];exact⟨_,_,rfl,Sl.set i h ht⟩
 |some d'::r,_,i,h,ht=>by
  simp only[Sl] at h
  obtain⟨v',q,rfl,h1,h⟩:=h
  cases i with
  |zero=>simp only[List.set_cons_zero,Sl];exact⟨_,_,rfl,ht,h⟩
  |succ i=>simp only[List.set_cons_succ,Sl];exact⟨_,_,rfl,h1,Sl.set i h ht⟩
theorem Sl.append: ∀{σ σ':List (Option D)} {σv σv':List (Option V)},Sl G ρ H σ σv->Sl G ρ H σ' σv'->Sl G ρ H (σ++σ') (σv++σv')
 |[],_,_,_,h,h'=>by simp only[Sl] at h;subst h;exact h'
 |none::r,_,_,_,h,h'=>by
  simp only[Sl] at h
  obtain⟨o,q,rfl,h⟩:=h
  simp only[List.cons_append,Sl];exact⟨_,_,rfl,Sl.append h h'⟩
 |some d'::r,_,_,_,h,h'=>by
  simp only[Sl] at h
  obtain⟨v,q,rfl,h1,h⟩:=h
  simp only[List.cons_append,Sl];exact⟨_,_,rfl,h1,Sl.append h h'⟩
theorem Sl.split: ∀(σv:List (Option V)) {σ:List (Option D)} {tv:List (Option V)},Sl G ρ H σ (σv++tv)->Sl G ρ H (σ.take σv.length) σv/\Sl G ρ H (σ.drop σv.length) tv
 |[],σ,tv,h=>⟨by simp[Sl],by simpa using h⟩
 |o::σv,[],tv,h=>by simp[Sl] at h
 |o::σv,none::r,tv,h=>by
  simp only[List.cons_append,Sl] at h
  obtain⟨o',q,e,h⟩:=h
  cases e
  obtain⟨h1,h2⟩:=Sl.split σv h
  simp only[List.length_cons,List.take_succ_cons,List.drop_succ_cons,Sl]
  exact⟨⟨_,_,rfl,h1⟩,h2⟩
 |o::σv,some d::r,tv,h=>by
  simp only[List.cons_append,Sl] at h
  obtain⟨o',q,e,h0,h⟩:=h
  cases e
  obtain⟨h1,h2⟩:=Sl.split σv h
  simp only[List.length_cons,List.take_succ_cons,List.drop_succ_cons,Sl]
  exact⟨⟨_,_,rfl,h0,h1⟩,h2⟩
theorem z4m: ∀{σ:List (Option D)} {i:Nat} {d:D},σ[i]? =some (some d)->∀l∈labs d,l∈z0b σ
 |[],i,d,e,l,h=>by simp at e
 |none::r,i,d,e,l,h=>by
  simp only[z0b]
  cases i with
  |zero=>simp at e
  |succ i=>exact z4m (i:=i) (by simpa using e) l h
 |some d'::r,i,d,e,l,h=>by
  simp only[z0b]
  cases i with
  |zero=>simp at e;subst e;exact List.mem_append_left _ h
  |succ i=>exact List.mem_append_right _ (z4m (i:=i) (by simpa using e) l h)
theorem z5s: ∀{σ:List (Option D)} {i:Nat} {d:D} (l:Nat),l∈z0b (σ.set i (some d))->l∈z0b σ\/l∈labs d
 |[],i,d,l,h=>by simp[z0b] at h
 |none::r,i,d,l,h=>by
  cases i with
  |zero=>
   simp only[List.set_cons_zero,z0b] at h⊢
   rcases List.mem_append.mp h with h|h
   ·exact .inr h
   ·exact .inl h
  |succ i=>
   simp only[List.set_cons_succ,z0b] at h⊢
   exact z5s l h
 |some d'::r,i,d,l,h=>by
  cases i with
  |zero=>
   simp only[List.set_cons_zero,z0b] at h⊢
   rcases List.mem_append.mp h with h|h
   ·exact .inr h
   ·exact .inl (List.mem_append_right _ h)
  |succ i=>
   simp only[List.set_cons_succ,z0b] at h⊢
   rcases List.mem_append.mp h with h|h
   ·exact .inl (List.mem_append_left _ h)
   ·rcases z5s l h with q|q
    ·exact .inl (List.mem_append_right _ q)
    ·exact .inr q
theorem z0f: ∀(σ σ':List (Option D)),z0b (σ++σ')=z0b σ++z0b σ'
 |[],_=>rfl
 |none::r,σ'=>by simp only[List.cons_append,z0b,z0f r σ']
 |some d::r,σ'=>by simp only[List.cons_append,z0b,z0f r σ',List.append_assoc]
theorem z1r: ∀(σ σ':List D),z02 (σ++σ')=z02 σ++z02 σ'
 |[],_=>rfl
 |d::r,σ'=>by simp only[List.cons_append,z02,z1r r σ',List.append_assoc]
theorem labsL_mem: ∀{ds:List D} {d:D},d∈ds->∀l∈labs d,l∈z02 ds
 |_::ds,d,h,l,hl=>by
  simp only[z02]
  rcases List.mem_cons.mp h with rfl|h
  ·exact List.mem_append_left _ hl
  ·exact List.mem_append_right _ (labsL_mem h l hl)
theorem z2b: ∀{ds:List D} {l:Nat},l∈z02 ds->∃d∈ds,l∈labs d
 |d::ds,l,h=>by
  simp only[z02] at h
  rcases List.mem_append.mp h with h|h
  ·exact⟨d,List.mem_cons_self ..,h⟩
  ·obtain⟨x,h1,h2⟩:=z2b h
   exact⟨x,List.mem_cons_of_mem _ h1,h2⟩
theorem RDs.get: ∀{ds:List D} {xs:List V},RDs G ρ H ds xs->∀(i:Nat) (d:D),ds[i]? =some d->∃x,xs[i]? =some x/\RD G ρ H d x
 |[],_,_,i,d,e=>by simp at e
 |d'::r,_,h,i,d,e=>by
  simp only[RDs] at h
  obtain⟨x,q,rfl,h1,h2⟩:=h
  cases i with
  |zero=>simp at e;subst e;exact⟨x,rfl,h1⟩
  |succ i=>simpa using RDs.get h2 i d (by simpa using e)
theorem RDs.length: ∀{ds:List D} {xs:List V},RDs G ρ H ds xs->ds.length=xs.length
 |[],_,h=>by simp only[RDs] at h;subst h;rfl
 |d'::r,_,h=>by
  simp only[RDs] at h
  obtain⟨x,q,rfl,h1,h2⟩:=h
  simp[RDs.length h2]
theorem RDs.append: ∀{ds es:List D} {xs ys:List V},RDs G ρ H ds xs->RDs G ρ H es ys->RDs G ρ H (ds++es) (xs++ys)
 |[],_,_,_,h,h'=>by simp only[RDs] at h;subst h;exact h'
 |d'::r,_,_,_,h,h'=>by
  simp only[RDs] at h
  obtain⟨x,q,rfl,h1,h2⟩:=h
  simp only[List.cons_append,RDs]
  exact⟨_,_,rfl,h1,RDs.append h2 h'⟩
theorem RDs.one{d:D}{x:V}(h:RD G ρ H d x):RDs G ρ H [d] [x]:=by simp only[RDs];exact⟨_,_,rfl,h,rfl⟩
theorem RDs.take: ∀{ds:List D} {xs:List V} (k:Nat),RDs G ρ H ds xs->RDs G ρ H (ds.take k) (xs.take k)
 |_,_,0,_=>by simp[RDs]
 |[],_,k+1,h=>by simp only[RDs] at h;subst h;simp[RDs]
 |d'::r,_,k+1,h=>by
  simp only[RDs] at h
  obtain⟨x,q,rfl,h1,h2⟩:=h
  simp only[List.take_succ_cons,RDs]
  exact⟨_,_,rfl,h1,RDs.take k h2⟩
theorem RDs.drop: ∀{ds:List D} {xs:List V} (k:Nat),RDs G ρ H ds xs->RDs G ρ H (ds.drop k) (xs.drop k)
 |_,_,0,h=>h
 |[],_,k+1,h=>by simp only[RDs] at h;subst h;simp[RDs]
 |d'::r,_,k+1,h=>by
  simp only[RDs] at h
  obtain⟨x,q,rfl,h1,h2⟩:=h
  simp only[List.drop_succ_cons]
  exact RDs.drop k h2
theorem RDs.set: ∀{ds:List D} {xs:List V} (k:Nat),RDs G ρ H ds xs->RD G ρ H t v->RDs G ρ H (ds.set k t) (xs.set k v)
 |[],_,k,h,_=>by simp only[RDs] at h;subst h;simp[RDs]
 |d'::r,_,0,h,ht=>by
  simp only[RDs] at h
  obtain⟨x,q,rfl,h1,h2⟩:=h
  simp only[List.set_cons_zero,RDs];exact⟨_,_,rfl,ht,h2⟩
 |d'::r,_,k+1,h,ht=>by
  simp only[RDs] at h
  obtain⟨x,q,rfl,h1,h2⟩:=h
  simp only[List.set_cons_succ,RDs];exact⟨_,_,rfl,h1,RDs.set k h2 ht⟩
theorem MR.pop{o:Option V}{r:Option D}(M:MR G F ρ H σv (o::tv) {s with tm:=r::s.tm}):MR G F ρ H σv tv s where
 sl:=M.sl
 tm:=by
  have h:=M.tm
  cases r with
  |none=>simp only[Sl] at h;obtain⟨_,_,e,h⟩:=h;cases e;exact h
  |some t=>simp only[Sl] at h;obtain⟨_,_,e,_,h⟩:=h;cases e;exact h
 inj:=M.inj
 dom:=M.dom
 lab:=fun l h=>M.lab l (by
  rcases List.mem_append.mp h with h|h
  ·exact List.mem_append_left _ h
  ·refine List.mem_append_right _ ?_
   cases r with
   |none=>exact h
   |some t=>exact List.mem_append_right _ h)
 own:=fun l h=>M.own l (by
  rcases List.mem_append.mp h with h|h
  ·exact List.mem_append_left _ h
  ·refine List.mem_append_right _ ?_
   cases r with
   |none=>exact h
   |some t=>exact List.mem_append_right _ h)
 frm:=M.frm
 kd:=M.kd
 frb:=M.frb
 bas:=M.bas
theorem MR.top(M:MR G F ρ H σv (some v::tv) (s.psh t)):RD G ρ H t v:=by
 have h:=M.tm
 have h:Sl G ρ H (some t::s.tm) (some v::tv):=h
 simp only[Sl] at h
 obtain⟨_,_,e,h,_⟩:=h
 cases e
 exact h
theorem MR.topl(M:MR G F ρ H σv tv (s.psh t)): ∀l∈labs t,l<s.n/\(F.A0 (ρ l)\/F.H0 (ρ l)=none):=fun l h=>
 have m:l∈z1p (s.psh t):=List.mem_append_right _ (List.mem_append_left _ h)
 ⟨M.lab l m,M.own l m⟩
theorem MR.same(M:MR G F ρ H σv tv s)(h:Same H H')(k:KD G.K H'):MR G F ρ H' σv tv s where
 sl:=Sl.stay (z2a.of h) M.sl fun l _=>⟨rfl,fun o e=>h _ _ e⟩
 tm:=Sl.stay (z2a.of h) M.tm fun l _=>⟨rfl,fun o e=>h _ _ e⟩
 inj:=M.inj
 dom:=fun l hl=>let⟨o,e⟩:=M.dom l hl;⟨o,h _ _ e⟩
 lab:=M.lab
 own:=M.own
 frm:=fun a o e=>let⟨⟨o',e1⟩,e2⟩:=M.frm a o e;⟨⟨o',h _ _ e1⟩,fun n=>h _ _ (e2 n)⟩
 kd:=k
 frb:=M.frb
 bas:=M.bas
theorem RDs.same{ts:List D}{vs:List V}(h:Same H H')(r:RDs G ρ H ts vs):RDs G ρ H' ts vs:=RDs.stay (z2a.of h) ts vs r fun l _=>⟨rfl,fun o e=>h _ _ e⟩
noncomputable def ext(ρ:Nat->Addr)(n:Nat)(p:Addr):Nat->Addr:=fun l=>if l=n then p else ρ l
theorem z0v{n l:Nat}{p:Addr}(h:l<n):ext ρ n p l=ρ l:=by unfold ext;rw[if_neg (by lia)]
theorem z1z{n:Nat}{p:Addr}:ext ρ n p n=p:=by unfold ext;rw[if_pos rfl]
theorem MR.new{p:Addr}{o:HO}(M:MR G F ρ H σv tv s)(hp:H p=none)(k:KD G.K (upd H p o)):MR G F (ext ρ s.n p) (upd H p o) σv tv s.nxt where
 sl:=Sl.stay (z2a.of (Same.new o hp)) M.sl fun l hl=>⟨z0v (M.lab l (List.mem_append_left _ hl)),fun o e=>Same.new _ hp _ _ e⟩
 tm:=Sl.stay (z2a.of (Same.new o hp)) M.tm fun l hl=>⟨z0v (M.lab l (List.mem_append_right _ hl)),fun o e=>Same.new _ hp _ _ e⟩
 inj:=fun i j hi hj e=>by
  have hi:i<s.n+1:=hi
  have hj:j<s.n+1:=hj
  have nn: ∀i,i<s.n->ρ i≠p:=fun i h e=>by
   obtain⟨o,q⟩:=M.dom i h
   rw[e,hp] at q;cases q
  by_cases h1:i=s.n
  ·by_cases h2:j=s.n
   ·lia
   ·rw[h1,z1z,z0v (by lia)] at e
    exact absurd e.symm (nn j (by lia))
  ·by_cases h2:j=s.n
   ·rw[h2,z1z,z0v (by lia)] at e
    exact absurd e (nn i (by lia))
   ·rw[z0v (by lia),z0v (by lia)] at e
    exact M.inj i j (by lia) (by lia) e
 dom:=fun l hl=>by
  have hl:l<s.n+1:=hl
  by_cases h1:l=s.n
  ·subst h1;rw[z1z];exact⟨o,z0h⟩
  ·rw[z0v (by lia)]
   obtain⟨o',e⟩:=M.dom l (by lia)
   exact⟨o',Same.new _ hp _ _ e⟩
 lab:=fun l h=>Nat.lt_succ_of_lt (M.lab l h)
 own:=fun l h=>by rw[z0v (M.lab l h)];exact M.own l h
 frm:=fun a o e=>let⟨⟨o',e1⟩,e2⟩:=M.frm a o e;⟨⟨o',Same.new _ hp _ _ e1⟩,fun n=>Same.new _ hp _ _ (e2 n)⟩
 kd:=k
 frb:=fun l hl=>by
  have hl:l<s.n+1:=hl
  by_cases h1:l=s.n
  ·subst h1;rw[z1z]
   intro z
   obtain⟨⟨o,e⟩,_⟩:=F.zA p z
   obtain⟨⟨o',e'⟩,_⟩:=M.frm p o e
   rw[hp] at e';cases e'
  ·rw[z0v (by lia)]
   exact M.frb l (by lia)
 bas:=⟨Nat.le_succ_of_le M.bas.1,fun l hl=>by rw[z0v (Nat.lt_of_lt_of_le hl M.bas.1)];exact M.bas.2 l hl⟩
theorem MR.fresh0{p:Addr}(M:MR G F ρ H σv tv s)(hp:H p=none):F.H0 p=none:=by
 cases q:F.H0 p with
 |none=>rfl
 |some o=>
  obtain⟨⟨o',e⟩,_⟩:=M.frm p o q
  rw[hp] at e;cases e
noncomputable def Stt.put(s:Stt)(l:Nat)(d:D):Stt:={s with σ:=rpO (fun k=>if k=l then some d else none) s.σ,tm:=rpO (fun k=>if k=l then some d else none) s.tm}
end
inductive Res(α:Type) where
 |ok (a:α) (s:Stt)|ex (d:D) (s:Stt)|no
noncomputable abbrev M(α:Type):=Stt->Res α
noncomputable def bd{α β:Type}(m:M α)(f:α->M β):M β:=fun s=>match m s with
 | .ok a s'=>f a s'
 | .ex d s'=> .ex d s'
 | .no=> .no
noncomputable def rt{α:Type}(a:α):M α:=fun s=> .ok a s
noncomputable def fl{α:Type}:M α:=fun _=> .no
noncomputable def psh(t:D):M Unit:=fun s=> .ok () (s.psh t)
noncomputable def pop:M D:=fun s=>match s.tm with
 |some t::r=> .ok t {s with tm:=r}
 |_=> .no
structure Fy extends Fx where
 tv0:List (Option V)
 xw:D->Stt->Prop
structure MRL(G:Gx)(F:Fx)(ρ:Nat->Addr)(H:Hp)(σv tv:List (Option V))(s:Stt)(ts:List D)(vs:List V):Prop where
 m:MR G F ρ H σv tv s
 rd:RDs G ρ H ts vs
 lb: ∀l∈z02 ts,l<s.n/\(F.A0 (ρ l)\/F.H0 (ρ l)=none)
section
variable{G:Gx}{F:Fy}{ρ ρ':Nat->Addr}{H H':Hp}{σv tv:List (Option V)}{s:Stt}{t t':D}{v u:V}{ts:List D}{vs:List V}{Q:VK}
theorem MRL.rd1(M:MRL G F.toFx ρ H σv tv s [t] [v]):RD G ρ H t v:=by
 have h:=M.rd
 simp only[RDs] at h
 obtain⟨_,_,e,h,_⟩:=h
 cases e;exact h
theorem MRL.rd2(M:MRL G F.toFx ρ H σv tv s [t,t'] [v,u]):RD G ρ H t v/\RD G ρ H t' u:=by
 have h:=M.rd
 simp only[RDs] at h
 obtain⟨_,_,e,h,_,_,e',h',_⟩:=h
 cases e;cases e';exact⟨h,h'⟩
theorem MRL.push(M:MRL G F.toFx ρ H σv tv s [t] [v]):MR G F.toFx ρ H σv (some v::tv) (s.psh t):=by
 have hl: ∀l∈labs t,l<s.n/\(F.A0 (ρ l)\/F.H0 (ρ l)=none):=fun l h=>M.lb l (by simp only[z02,List.append_nil];exact h)
 refine⟨M.m.sl, ?_,M.m.inj,M.m.dom,fun l h=> ?_,fun l h=> ?_,M.m.frm,M.m.kd,M.m.frb,M.m.bas⟩
 ·show Sl G ρ H (some t::s.tm) _
  simp only[Sl]
  exact⟨v,tv,rfl,M.rd1,M.m.tm⟩
 ·have h:l∈z0b s.σ++(labs t++z0b s.tm):=h
  rcases List.mem_append.mp h with h|h
  ·exact M.m.lab l (List.mem_append_left _ h)
  ·rcases List.mem_append.mp h with h|h
   ·exact(hl l h).1
   ·exact M.m.lab l (List.mem_append_right _ h)
 ·have h:l∈z0b s.σ++(labs t++z0b s.tm):=h
  rcases List.mem_append.mp h with h|h
  ·exact M.m.own l (List.mem_append_left _ h)
  ·rcases List.mem_append.mp h with h|h
   ·exact(hl l h).2
   ·exact M.m.own l (List.mem_append_right _ h)
theorem MRL.down{s':Stt}{r:List (Option D)}(M:MRL G F.toFx ρ H σv (some v::tv) s' ts vs)(e:s'.tm=some t::r):MRL G F.toFx ρ H σv tv {s' with tm:=r} (t::ts) (v::vs):=by
 obtain⟨σ,tm,n⟩:=s'
 have e:tm=some t::r:=e
 subst e
 refine⟨MR.pop (s:=⟨σ,r,n⟩) M.m, ?_,fun l h=> ?_⟩
 ·simp only[RDs]
  exact⟨v,vs,rfl,MR.top (s:=⟨σ,r,n⟩) M.m,M.rd⟩
 ·simp only[z02] at h
  rcases List.mem_append.mp h with h|h
  ·exact MR.topl (s:=⟨σ,r,n⟩) M.m l h
  ·exact M.lb l h
noncomputable def wM(G:Gx)(F:Fy)(σv tv:List (Option V))(r:Res D)(Q:VK):Prop:=match r with
 | .ok t s'=> ∀ρ' v H',MRL G F.toFx ρ' H' σv tv s' [t] [v]->Q v H'
 | .ex d s'=>F.xw d s'
 | .no=>False
noncomputable def wL(G:Gx)(F:Fy)(σv tv:List (Option V))(r:Res (List D))(Q:List V->Hp->Prop):Prop:=match r with
 | .ok ts s'=> ∀ρ' vs H',MRL G F.toFx ρ' H' σv tv s' ts vs->Q vs H'
 | .ex d s'=>F.xw d s'
 | .no=>False
noncomputable def wB(G:Gx)(F:Fy)(σv tv:List (Option V))(r:Res Bool)(Q:Bool->Hp->Prop):Prop:=match r with
 | .ok b s'=> ∀ρ' H',MR G F.toFx ρ' H' σv tv s'->Q b H'
 | .ex d s'=>F.xw d s'
 | .no=>False
noncomputable def tMv(G:Gx)(F:Fy)(m:M D)(σv tv:List (Option V))(H:Hp)(Q:VK):Prop:=F.tv0<:+tv/\∃ρ s,MR G F.toFx ρ H σv tv s/\wM G F σv tv (m s) Q
noncomputable def tLv(G:Gx)(F:Fy)(m:M (List D))(σv tv:List (Option V))(H:Hp)(Q:List V->Hp->Prop):Prop:=F.tv0<:+tv/\∃ρ s,MR G F.toFx ρ H σv tv s/\wL G F σv tv (m s) Q
noncomputable def tBv(G:Gx)(F:Fy)(m:M Bool)(σv tv:List (Option V))(H:Hp)(Q:Bool->Hp->Prop):Prop:=F.tv0<:+tv/\∃ρ s,MR G F.toFx ρ H σv tv s/\wB G F σv tv (m s) Q
noncomputable def tM(G:Gx)(F:Fy)(m:M D):TE:=fun σv H Q=> ∃tv,tMv G F m σv tv H Q
noncomputable def tML(G:Gx)(F:Fy)(m:M (List D)):TA:=fun σv H Q=> ∃tv,tLv G F m σv tv H Q
noncomputable def tMB(G:Gx)(F:Fy)(m:M Bool):TT:=fun σv H Q=> ∃tv,tBv G F m σv tv H Q
noncomputable def SE(X:Cx)(G:Gx)(F:Fy)(e:Expr)(m:M D):Prop:=PE X e (tM G F m)
noncomputable def SA(X:Cx)(G:Gx)(F:Fy)(es:List Expr)(m:M (List D)):Prop:=PA X es (tML G F m)
noncomputable def SB(X:Cx)(G:Gx)(F:Fy)(e:Expr)(m:M Bool):Prop:=PT X e (tMB G F m)
theorem suf1{o:Option V}(h:F.tv0<:+tv):F.tv0<:+o::tv:=h.trans (List.suffix_cons _ _)
theorem z6F{m:M D}{f:D->M D}(h:tMv G F (bd m f) σv tv H Q):tMv G F m σv tv H (fun v H1=> ∃ρ1 s1 t,MRL G F.toFx ρ1 H1 σv tv s1 [t] [v]/\wM G F σv tv (f t s1) Q):=by
 obtain⟨hs,ρ,s,M,W⟩:=h
 refine⟨hs,ρ,s,M, ?_⟩
 unfold bd at W
 cases e:m s with
 |ok t s1=>rw[e] at W;exact fun ρ1 v H1 M1=>⟨ρ1,s1,t,M1,W⟩
 |ex d s1=>rw[e] at W;exact W
 |no=>rw[e] at W;exact W
noncomputable def mBin(ma mb:M D)(g:D->D->M D):M D:=bd ma fun x=>bd (psh x) fun _=>bd mb fun y=>bd pop fun x'=>g x' y
theorem z8C{ma mb:M D}{g:D->D->M D}(h:tMv G F (mBin ma mb g) σv tv H Q):
 tMv G F ma σv tv H (fun v H1=>tMv G F mb σv (some v::tv) H1 (fun u H2=> ∃ρ2 s2 t t',MRL G F.toFx ρ2 H2 σv tv s2 [t,t'] [v,u]/\wM G F σv tv (g t t' s2) Q)):=by
 have h':=z6F h
 obtain⟨hs,ρ,s,M,W⟩:=h'
 refine⟨hs,ρ,s,M, ?_⟩
 cases e:ma s with
 |ok t s1=>
  rw[e] at W
  intro ρ1 v H1 M1
  obtain⟨ρ1,s1,t,M1,W⟩:=W ρ1 v H1 M1
  refine⟨suf1 hs,ρ1,s1.psh t,M1.push, ?_⟩
  simp only[bd,psh] at W
  cases e2:mb (s1.psh t) with
  |ok y s2=>
   rw[e2] at W
   intro ρ2 u H2 M2
   simp only[pop] at W
   cases e3:s2.tm with
   |nil=>rw[e3] at W;exact W.elim
   |cons o r=>
    cases o with
    |none=>rw[e3] at W;exact W.elim
    |some t'=>
     rw[e3] at W
     exact⟨ρ2,{s2 with tm:=r},t',y,M2.down e3,W⟩
  |ex d s2=>rw[e2] at W;exact W
  |no=>rw[e2] at W;exact W
 |ex d s1=>rw[e] at W;exact W
 |no=>rw[e] at W;exact W
noncomputable def mArgs:List (M D)->M (List D)
 |[]=>rt []
 |m::ms=>bd m fun x=>bd (psh x) fun _=>bd (mArgs ms) fun ys=>bd pop fun x'=>rt (x'::ys)
end
section
variable{X:Cx}{G:Gx}{F:Fy}{e a b c:Expr}{pos:Pos}
theorem Inv.kd{pins:List (Addr×Obj)}{σ:St}{H:Hp}{s:Shared}(I:Inv X pins σ H s):KD X.K H:=fun a o e=>(I.bs a o (I.ok.mod.kin a o e)).2
theorem PE.imp{t t':TE}(hk:X.K=G.K)(h:PE X e t)(hi: ∀σ H Q,t' σ H Q->t σ H (fun v H'=>KD G.K H'->Q v H')):PE X e t':=fun pins s σ H Q I q=>
 thn (h pins s σ H _ I (hi σ H Q q)) fun u s' ⟨v,H',I',r,k⟩=>⟨v,H',I',r,k (hk▸Inv.kd I')⟩
theorem PT.imp{t t':TT}(hk:X.K=G.K)(h:PT X e t)(hi: ∀σ H Q,t' σ H Q->t σ H (fun v H'=>KD G.K H'->Q v H')):PT X e t':=fun pins s σ H Q I q=>
 thn (h pins s σ H _ I (hi σ H Q q)) fun u s' ⟨H',I',k⟩=>⟨H',I',k (hk▸Inv.kd I')⟩
theorem PA.imp{es:List Expr}{t t':TA}(hk:X.K=G.K)(h:PA X es t)(hi: ∀σ H Q,t' σ H Q->t σ H (fun v H'=>KD G.K H'->Q v H')):PA X es t':=fun pos pins s σ H Q I q=>
 thn (h pos pins s σ H _ I (hi σ H Q q)) fun u s' ⟨v,H',I',r,k⟩=>⟨v,H',I',r,k (hk▸Inv.kd I')⟩
noncomputable def OpOK(G:Gx)(F:Fy)(r:R2)(g:D->D->M D):Prop:= ∀ρ s t t' v u H σv tv Q,MRL G F.toFx ρ H σv tv s [t,t'] [v,u]->wM G F σv tv (g t t' s) Q->r v u H (fun w H'=>KD G.K H'->Q w H')
noncomputable def z2w(G:Gx)(F:Fy)(r:R2)(g:D->D->M D):Prop:= ∀ρ s t t' v u H σv tv Q,MRL G F.toFx ρ H σv tv s [t,t'] [v,u]->wM G F σv tv (g t t' s) Q->r v u H Q
noncomputable def UnOK(G:Gx)(F:Fy)(r:V->Hp->VK->Prop)(g:D->M D):Prop:= ∀ρ s t v H σv tv Q,MRL G F.toFx ρ H σv tv s [t] [v]->wM G F σv tv (g t s) Q->r v H (fun w H'=>KD G.K H'->Q w H')
noncomputable def z2R(G:Gx)(F:Fy)(r:List V->Hp->VK->Prop)(g:List D->M D):Prop:= ∀ρ s ts vs H σv tv Q,MRL G F.toFx ρ H σv tv s ts vs->wM G F σv tv (g ts s) Q->r vs H (fun w H'=>KD G.K H'->Q w H')
theorem z9o{op:Operator}{r:R2}{ma mb:M D}{g:D->D->M D}(hk:X.K=G.K)(ho:OpR X (binaryOp op) r)(hg:OpOK G F r g)(ha:SE X G F a ma)(hb:SE X G F b mb):SE X G F (.BinOp a op b pos) (mBin ma mb g):=by
 refine PE.imp hk (zhl ho ha hb) fun σ H Q ⟨tv,h⟩=>⟨tv, ?_⟩
 obtain⟨hs,ρ,s,M,W⟩:=z8C h
 refine⟨hs,ρ,s,M, ?_⟩
 cases e:ma s with
 |ok t s1=>
  rw[e] at W
  intro ρ1 v H1 M1
  refine⟨some v::tv, ?_⟩
  obtain⟨hs2,ρ2,s2,M2,W2⟩:=W ρ1 v H1 M1
  refine⟨hs2,ρ2,s2,M2, ?_⟩
  cases e2:mb s2 with
  |ok t2 s3=>
   rw[e2] at W2
   intro ρ3 u H3 M3
   obtain⟨ρ4,s4,x,y,M4,W4⟩:=W2 ρ3 u H3 M3
   exact hg _ _ _ _ _ _ _ _ _ _ M4 W4
  |ex d s3=>rw[e2] at W2;exact W2
  |no=>rw[e2] at W2;exact W2
 |ex d s1=>rw[e] at W;exact W
 |no=>rw[e] at W;exact W
theorem wM.mono{σv tv:List (Option V)}{r:Res D}{Q Q':VK}(h:wM G F σv tv r Q)(k: ∀v H,Q v H->Q' v H):wM G F σv tv r Q':=by
 cases r with
 |ok t s=>exact fun ρ v H M=>k _ _ (h ρ v H M)
 |ex d s=>exact h
 |no=>exact h
theorem tMv.mono{m:M D}{σv tv:List (Option V)}{H:Hp}{Q Q':VK}(h:tMv G F m σv tv H Q)(k: ∀v H,Q v H->Q' v H):tMv G F m σv tv H Q':=by
 obtain⟨hs,ρ,s,M,W⟩:=h
 exact⟨hs,ρ,s,M,W.mono k⟩
theorem zac{ma mb:M D}{g:D->D->M D}{R:V->V->Hp->VK->Prop}{σv:St}{H:Hp}{Q:VK}(hg:OpOK G F R g)(h:tM G F (mBin ma mb g) σv H Q):
 tM G F ma σv H fun x H1=>tM G F mb σv H1 fun y H2=>R x y H2 fun w H'=>KD G.K H'->Q w H':=by
 obtain⟨tv,h⟩:=h
 exact⟨tv,(z8C h).mono fun v H1 h1=>⟨_,h1.mono fun u H2 ⟨ρ,s,t,t',M,W⟩=>hg _ _ _ _ _ _ _ _ _ _ M W⟩⟩
theorem zfj{ma:M D}{g:D->M D}{R:V->Hp->VK->Prop}{σv:St}{H:Hp}{Q:VK}(hg:UnOK G F R g)(h:tM G F (bd ma g) σv H Q):
 tM G F ma σv H fun x H1=>R x H1 fun w H'=>KD G.K H'->Q w H':=by
 obtain⟨tv,h⟩:=h
 exact⟨tv,(z6F h).mono fun v H1 ⟨ρ,s,t,M,W⟩=>hg _ _ _ _ _ _ _ _ M W⟩
theorem zhA{op:UnaryOp}{r:V->Hp->VK->Prop}{ma:M D}{g:D->M D}(hk:X.K=G.K)(ho:UnR X (unaryOp op) r)(hg:UnOK G F r g)(ha:SE X G F a ma):SE X G F (.UnaryOp op a pos) (bd ma g):=
 PE.imp hk (zhm ho ha) fun _ _ _ h=>zfj hg h
theorem z8D{ma mb:M D}{g:D->D->M D}{R:V->V->Hp->VK->Prop}{σv:St}{H:Hp}{Q:VK}(hg:z2w G F R g)(h:tM G F (mBin ma mb g) σv H Q):
 tM G F ma σv H fun x H1=>tM G F mb σv H1 fun y H2=>R x y H2 Q:=by
 obtain⟨tv,h⟩:=h
 exact⟨tv,(z8C h).mono fun v H1 h1=>⟨_,h1.mono fun u H2 ⟨ρ,s,t,t',M,W⟩=>hg _ _ _ _ _ _ _ _ _ _ M W⟩⟩
theorem PE.imp0{t t':TE}(h:PE X e t)(hi: ∀σ H Q,t' σ H Q->t σ H Q):PE X e t':=fun pins s σ H Q I q=>h pins s σ H _ I (hi σ H Q q)
theorem PT.imp0{t t':TT}(h:PT X e t)(hi: ∀σ H Q,t' σ H Q->t σ H Q):PT X e t':=fun pins s σ H Q I q=>h pins s σ H _ I (hi σ H Q q)
theorem zdx{op:CmpOp}{r:R2}{ma mb:M D}{g:D->D->M D}(ho:OpR X (compareOp op) r)(hg:z2w G F r g)(ha:SE X G F a ma)(hb:SE X G F b mb)(hm:behindInMarks op b=false):SE X G F (.Compare a [op] [b] pos) (mBin ma mb g):=
 PE.imp0 (zda ho ha hb hm) fun _ _ _ h=>z8D hg h
theorem zhB{r:R2}{ma mb:M D}{g:D->D->M D}(hk:X.K=G.K)(ho:IxR X r)(hg:OpOK G F r g)(ha:SE X G F a ma)(hb:SE X G F b mb)(hs:z3q b):SE X G F (.Subscript a b pos) (mBin ma mb g):=
 PE.imp hk (zhv ho ha hb hs) fun _ _ _ h=>zac hg h
theorem zfk(hk:X.K=G.K):SA X G F [] (mArgs []):=by
 refine PA.imp hk z5l fun σ H Q ⟨tv,hs,ρ,s,M,W⟩ _=>W ρ [] H ⟨M,rfl,fun l h=>by simp[z02] at h⟩
noncomputable def nst:Expr->Bool
 | .Starred _ _=>false
 |_=>true
theorem zad{es:List Expr}{env:Env}(h:nst e=true):starEach (e::es) env=(false,eval e env)::starEach es env:=by
 cases e<;>first|rfl|exact Bool.noConfusion h
theorem zdy{es:List Expr}{m:M D}{ms:List (M D)}(hk:X.K=G.K)(ha:SE X G F e m)(hr:SA X G F es (mArgs ms))(hs:nst e=true:=by rfl):SA X G F (e::es) (mArgs (m::ms)):=by
 refine PA.imp hk (z0q ha hr (zad hs)) fun σ H Q ⟨tv,hs,ρ,s,M,W⟩=>⟨tv,hs,ρ,s,M, ?_⟩
 unfold mArgs at W
 simp only[bd,psh] at W
 cases e:m s with
 |ok t s1=>
  rw[e] at W
  intro ρ1 v H1 M1
  refine⟨some v::tv,suf1 hs,ρ1,s1.psh t,M1.push, ?_⟩
  dsimp only at W
  cases e2:mArgs ms (s1.psh t) with
  |ok ys s2=>
   rw[e2] at W
   intro ρ2 us H2 M2 _
   simp only[pop,rt] at W
   cases e3:s2.tm with
   |nil=>rw[e3] at W;exact W.elim
   |cons o r=>
    cases o with
    |none=>rw[e3] at W;exact W.elim
    |some t'=>
     rw[e3] at W
     exact W ρ2 (v::us) H2 (M2.down e3)
  |ex d s2=>rw[e2] at W;exact W
  |no=>rw[e2] at W;exact W
 |ex d s1=>rw[e] at W;exact W
 |no=>rw[e] at W;exact W
noncomputable def mCB(ms:List (M D))(g:List D->M D):M D:=bd (mArgs ms) g
theorem z5h{ma:M (List D)}{g:List D->M D}{R:List V->Hp->VK->Prop}{σv:St}{H:Hp}{Q:VK}(hg:z2R G F R g)(h:tM G F (bd ma g) σv H Q):
 tML G F ma σv H fun xs H1=>R xs H1 fun w H'=>KD G.K H'->Q w H':=by
 obtain⟨tv,hs,ρ,s,M,W⟩:=h
 refine⟨tv,hs,ρ,s,M, ?_⟩
 unfold bd at W
 cases e:ma s with
 |ok ts s1=>rw[e] at W;exact fun ρ1 vs H1 M1=>hg _ _ _ _ _ _ _ _ M1 W
 |ex d s1=>rw[e] at W;exact W
 |no=>rw[e] at W;exact W
theorem zbG{x:Str}{p:Pos}{es:List Expr}{ms:List (M D)}{g:List D->M D}{id:String}{r:List V->Hp->VK->Prop}(hk:X.K=G.K)(hc:CallR X (.builtin id) r)(hg:z2R G F r g)(hgl:Gl X x)(hm:X.mg x=none)(hv:bootBuiltins x=some (.builtin id))(ha:SA X G F (e::es) (mArgs ms))(hn:x≠ "__name__" :=by decide)(hdb:(x==("__debug__" :Str))=false:=by decide)
 (he:starEach (e::es) X.env=(false,eval e X.env)::starEach es X.env:=by rfl) (hpl:(backTo pos (starEach es X.env)).any (·.1)=false:=by rfl):SE X G F (.Call (.Name x p) (e::es) [] pos) (mCB ms g):=
 PE.imp hk (z5d hc hgl hm hv ha hn hdb he hpl) fun _ _ _ h=>z5h hg h
theorem zae{x:Str}{p:Pos}{es:List Expr}{ms:List (M D)}{g:List D->M D}{T:String}{r:List V->Hp->VK->Prop}(hk:X.K=G.K)(hc:CallR X (.type T) r)(hg:z2R G F r g)(hgl:Gl X x)(hm:X.mg x=none)(hv:bootBuiltins x=some (.type T))(ha:SA X G F (e::es) (mArgs ms))(hn:x≠ "__name__" :=by decide)(hdb:(x==("__debug__" :Str))=false:=by decide)
 (he:starEach (e::es) X.env=(false,eval e X.env)::starEach es X.env:=by rfl) (hpl:(backTo pos (starEach es X.env)).any (·.1)=false:=by rfl):SE X G F (.Call (.Name x p) (e::es) [] pos) (mCB ms g):=
 PE.imp hk (z9W hc hgl hm hv ha hn hdb he hpl) fun _ _ _ h=>z5h hg h
noncomputable def mVar(i:Nat):M D:=fun s=>match s.σ[i]? with
 |some (some t)=> .ok t s
 |_=> .no
theorem se_var(i:Nat){x:Str}(hk:X.K=G.K)(h:PE X (.Name x pos) (tVar i)):SE X G F (.Name x pos) (mVar i):=by
 refine PE.imp hk h fun σ H Q ⟨tv,hs,ρ,s,M,W⟩=> ?_
 unfold mVar at W
 cases e:s.σ[i]? with
 |none=>rw[e] at W;exact W.elim
 |some o=>
  cases o with
  |none=>rw[e] at W;exact W.elim
  |some t=>
   rw[e] at W
   obtain⟨v,h1,h2⟩:=M.sl.get i t e
   refine⟨v,h1,fun _=>W ρ v H ⟨M,RDs.one h2,fun l hl=> ?_⟩⟩
   simp only[z02,List.append_nil] at hl
   have:=z4m e l hl
   exact⟨M.lab l (List.mem_append_left _ this),M.own l (List.mem_append_left _ this)⟩
noncomputable def cV:D->Option V
 | .non=>some .non| .bool b=>some (.bl b)| .int i=>some (.int i)| .str x=>some (.str x)|_=>none
theorem z7Y{d:D}{v:V}{ρ:Nat->Addr}{H:Hp}(h:cV d=some v):RD G ρ H d v/\labs d=[]:=by
 cases d<;>simp only[cV,Option.some.injEq] at h<;>first|(subst h;exact⟨by simp only[RD],by simp only[labs]⟩)|cases h
noncomputable def mC(d:D):M D:=rt d
theorem se_c{d:D}{v:V}(hk:X.K=G.K)(h:PE X e (tC v))(hd:cV d=some v:=by rfl):SE X G F e (mC d):=by
 refine PE.imp hk h fun σ H Q ⟨tv,hs,ρ,s,M,W⟩ _=>W ρ v H ⟨M,RDs.one (z7Y hd).1,fun l hl=> ?_⟩
 simp only[z02,(z7Y (G:=G) (ρ:=ρ) (H:=H) hd).2] at hl
 cases hl
theorem wM.out{σv tv:List (Option V)}{s:Stt}{t:D}{v:V}{ρ:Nat->Addr}{H:Hp}{Q:VK}(W:wM G F σv tv (.ok t s) Q)(M:MR G F.toFx ρ H σv tv s)(h:RD G ρ H t v)(hl: ∀l∈labs t,l<s.n/\(F.A0 (ρ l)\/F.H0 (ρ l)=none)):Q v H:=
 W ρ v H ⟨M,RDs.one h,fun l q=>hl l (by simpa only[z02,List.append_nil] using q)⟩
theorem wM.flat{σv tv:List (Option V)}{s:Stt}{t:D}{v:V}{ρ:Nat->Addr}{H:Hp}{Q:VK}(W:wM G F σv tv (.ok t s) Q)(M:MR G F.toFx ρ H σv tv s)(h:cV t=some v):Q v H:=
 W.out M (z7Y h).1 fun l q=>by rw[(z7Y (G:=G) (ρ:=ρ) (H:=H) h).2] at q;cases q
end
mutual
noncomputable def er:D->PyData
 | .non=> .none| .bool b=> .bool b| .int i=> .int i| .str x=> .str x
 | .tup ds=> .tuple (erL ds)
 | .ro ds=> .list (erL ds)
 | .lst _ ds=> .list (erL ds)
 | .dct _ _ _=> .none
 | .obj _ _ _ _=> .none
 | .exc _=> .none| .fn _=> .none| .fdc _ _=> .none
noncomputable def erL:List D->List PyData
 |[]=>[]
 |d::ds=>er d::erL ds
end
mutual
noncomputable def plain:D->Bool
 | .non=>true| .bool _=>true| .int _=>true| .str _=>true
 | .tup ds=>z2t ds
 | .ro ds=>z2t ds
 | .lst _ ds=>z2t ds
 | .dct _ _ _=>false
 | .obj _ _ _ _=>false
 | .exc _=>false| .fn _=>false| .fdc _ _=>false
noncomputable def z2t:List D->Bool
 |[]=>true
 |d::ds=>plain d&&z2t ds
end
noncomputable def seqD:D->Option (List D)
 | .tup ds=>some ds| .ro ds=>some ds| .lst _ ds=>some ds|_=>none
noncomputable def lstD:D->Option (List D)
 | .ro ds=>some ds| .lst _ ds=>some ds|_=>none
section
variable{G:Gx}{F:Fy}{ρ:Nat->Addr}{H H':Hp}{σv tv:List (Option V)}{s:Stt}{t t':D}{v u:V}{ts ds:List D}{vs xs:List V}{Q:VK}
mutual
theorem RD.dp: ∀(t:D) (v:V),RD G ρ H t v->plain t=true->Dp G.K H (er t) v
 | .non,v,h,_=>by simp only[RD,er,Dp] at h⊢;exact h
 | .bool b,v,h,_=>by simp only[RD,er,Dp] at h⊢;exact h
 | .int b,v,h,_=>by simp only[RD,er,Dp] at h⊢;exact h
 | .str b,v,h,_=>by simp only[RD,er,Dp] at h⊢;exact h
 | .tup ds,v,h,p=>by
  simp only[RD,er,Dp,plain] at h p⊢
  obtain⟨a,xs,e,s,r⟩:=h
  exact⟨a,xs,e,SqT.of s,RDs.dp ds xs r p⟩
 | .ro ds,v,h,p=>by
  simp only[RD,er,Dp,plain] at h p⊢
  obtain⟨a,xs,e,s,r⟩:=h
  exact⟨a,xs,e,s.sq,RDs.dp ds xs r p⟩
 | .lst l ds,v,h,p=>by
  simp only[RD,er,Dp,plain] at h p⊢
  obtain⟨e,xs,s,r⟩:=h
  exact⟨_,xs,e,SqL.of s,RDs.dp ds xs r p⟩
 | .dct l ks vs,v,h,p=>by simp only[plain] at p;cases p
 | .fdc ks vs,v,h,p=>by simp only[plain] at p;cases p
 | .obj l c ns vs,v,h,p=>by simp only[plain] at p;cases p
 | .exc c,v,h,p=>by simp only[plain] at p;cases p
 | .fn c,v,h,p=>by simp only[plain] at p;cases p
theorem RDs.dp: ∀(t:List D) (v:List V),RDs G ρ H t v->z2t t=true->z4D G.K H (erL t) v
 |[],v,h,_=>by simp only[RDs,erL,z4D] at h⊢;exact h
 |d::ds,v,h,p=>by
  simp only[RDs,erL,z4D,z2t,Bool.and_eq_true] at h p⊢
  obtain⟨x,r,e,h1,h2⟩:=h
  exact⟨x,r,e,RD.dp d x h1 p.1,RDs.dp ds r h2 p.2⟩
end
theorem RD.seq(h:RD G ρ H t v)(e:seqD t=some ds): ∃a xs,v= .ref a/\(SqL G.K H a xs\/SqT G.K H a xs)/\RDs G ρ H ds xs/\∀l∈z02 ds,l∈labs t:=by
 cases t<;>simp only[seqD,Option.some.injEq] at e<;>try cases e
 ·simp only[RD] at h
  obtain⟨a,xs,e,s,r⟩:=h
  exact⟨a,xs,e, .inr (SqT.of s),r,fun l hl=>by simp only[labs];exact hl⟩
 ·simp only[RD] at h
  obtain⟨a,xs,e,s,r⟩:=h
  exact⟨a,xs,e, .inl s.sq,r,fun l hl=>by simp only[labs];exact hl⟩
 ·simp only[RD] at h
  obtain⟨e,xs,s,r⟩:=h
  exact⟨_,xs,e, .inl (SqL.of s),r,fun l hl=>by simp only[labs];exact List.mem_cons_of_mem _ hl⟩
theorem RD.lstq(h:RD G ρ H t v)(e:lstD t=some ds): ∃a xs,v= .ref a/\SqL G.K H a xs/\RDs G ρ H ds xs/\∀l∈z02 ds,l∈labs t:=by
 cases t<;>simp only[lstD,Option.some.injEq] at e<;>try cases e
 ·simp only[RD] at h
  obtain⟨a,xs,e,s,r⟩:=h
  exact⟨a,xs,e,s.sq,r,fun l hl=>by simp only[labs];exact hl⟩
 ·simp only[RD] at h
  obtain⟨e,xs,s,r⟩:=h
  exact⟨_,xs,e,SqL.of s,r,fun l hl=>by simp only[labs];exact List.mem_cons_of_mem _ hl⟩
theorem RD.tupx(h:RD G ρ H (.tup ds) v): ∃a xs,v= .ref a/\H a=some (.tup xs)/\RDs G ρ H ds xs:=by
 simp only[RD] at h;exact h
theorem RD.tupq(h:RD G ρ H (.tup ds) v): ∃a xs,v= .ref a/\SqT G.K H a xs/\RDs G ρ H ds xs:=by
 obtain⟨a,xs,e,s,r⟩:=h.tupx
 exact⟨a,xs,e,SqT.of s,r⟩
theorem RD.seqx(h:RD G ρ H t v)(e:seqD t=some ds): ∃a xs,v= .ref a/\(SqL G.K H a xs\/H a=some (.tup xs))/\RDs G ρ H ds xs/\∀l∈z02 ds,l∈labs t:=by
 cases t<;>simp only[seqD,Option.some.injEq] at e<;>try cases e
 ·simp only[RD] at h
  obtain⟨a,xs,e,s,r⟩:=h
  exact⟨a,xs,e, .inr s,r,fun l hl=>by simp only[labs];exact hl⟩
 ·simp only[RD] at h
  obtain⟨a,xs,e,s,r⟩:=h
  exact⟨a,xs,e, .inl s.sq,r,fun l hl=>by simp only[labs];exact hl⟩
 ·simp only[RD] at h
  obtain⟨e,xs,s,r⟩:=h
  exact⟨_,xs,e, .inl (SqL.of s),r,fun l hl=>by simp only[labs];exact List.mem_cons_of_mem _ hl⟩
theorem MRL.lb1(M:MRL G F.toFx ρ H σv tv s [t] [v]): ∀l∈labs t,l<s.n/\(F.A0 (ρ l)\/F.H0 (ρ l)=none):=fun l h=>M.lb l (by simp only[z02,List.append_nil];exact h)
theorem MRL.lb2(M:MRL G F.toFx ρ H σv tv s [t,t'] [v,u]):(∀l∈labs t,l<s.n/\(F.A0 (ρ l)\/F.H0 (ρ l)=none))/\(∀l∈labs t',l<s.n/\(F.A0 (ρ l)\/F.H0 (ρ l)=none)):=
 ⟨fun l h=>M.lb l (by simp only[z02,List.append_nil];exact List.mem_append_left _ h),fun l h=>M.lb l (by simp only[z02,List.append_nil];exact List.mem_append_right _ h)⟩
noncomputable abbrev LB(F:Fx)(ρ:Nat->Addr)(n:Nat)(ls:List Nat):Prop:= ∀l∈ls,l<n/\(F.A0 (ρ l)\/F.H0 (ρ l)=none)
theorem z6G(W:wM G F σv tv (.ok (.tup ds) s) Q)(M:MR G F.toFx ρ H σv tv s)(r:RDs G ρ H ds xs)(lb:LB F.toFx ρ s.n (z02 ds)):NewX G.K H xs (fun w H'=>KD G.K H'->Q w H'):=by
 refine NewX.intro fun p H' sq sm k=> ?_
 exact W.out (M.same sm k) (by simp only[RD];exact⟨p,xs,rfl,sq,r.same sm⟩) (by simp only[labs];exact lb)
theorem zaf{p:Addr}(W:wM G F σv tv (.ok (.tup ds) s) Q)(M:MR G F.toFx ρ H σv tv s)(r:RDs G ρ H ds xs)(lb:LB F.toFx ρ s.n (z02 ds))(hp:H p=none)(k:KD G.K (upd H p (.tup xs))):Q (.ref p) (upd H p (.tup xs)):=by
 have sm:=Same.new (.tup xs) hp
 exact W.out (M.same sm k) (by simp only[RD];exact⟨p,xs,rfl,z0h,r.same sm⟩) (by simp only[labs];exact lb)
theorem RDs.ext{p:Addr}{o:HO}(M:MR G F.toFx ρ H σv tv s)(r:RDs G ρ H ds xs)(lb:LB F.toFx ρ s.n (z02 ds))(hp:H p=none):RDs G (ext ρ s.n p) (upd H p o) ds xs:=
 RDs.stay (z2a.of (Same.new o hp)) ds xs r fun l hl=>⟨z0v (lb l hl).1,fun o e=>Same.new _ hp _ _ e⟩
theorem z5t{p:Addr}(W:wM G F σv tv (.ok (.lst s.n ds) s.nxt) Q)(M:MR G F.toFx ρ H σv tv s)(r:RDs G ρ H ds xs)(lb:LB F.toFx ρ s.n (z02 ds))(hp:H p=none)(k:KD G.K (upd H p (.lst xs))):Q (.ref p) (upd H p (.lst xs)):=by
 refine W.out (M.new hp k) ?_ fun l hl=> ?_
 ·simp only[RD]
  rw[z1z]
  exact⟨rfl,xs,z0h,RDs.ext M r lb hp⟩
 ·simp only[labs] at hl
  rcases List.mem_cons.mp hl with q|q
  ·rw[q]
   exact⟨Nat.lt_succ_self _,by rw[z1z];exact .inr (M.fresh0 hp)⟩
  ·obtain⟨h1,h2⟩:=lb l q
   exact⟨Nat.lt_succ_of_lt h1,by rw[z0v h1];exact h2⟩
end
noncomputable def newL(ds:List D):M D:=fun s=> .ok (.lst s.n ds) s.nxt
noncomputable def addD:D->D->M D
 | .int i, .int j=>rt (.int (i+j))
 | .tup a, .tup b=>if a.length+b.length<=sizeLine then rt (.tup (a++b)) else fl
 | .lst _ a, .lst _ b=>if a.length+b.length<=sizeLine then newL (a++b) else fl
 | .str a, .str b=>if a.length+b.length<=sizeLine then rt (.str (a++b)) else fl
 |_,_=>fl
noncomputable def subD:D->D->M D
 | .int i, .int j=>rt (.int (i -j))
 |_,_=>fl
instance(i j:Int):Decidable (CMul i j):=by unfold CMul;infer_instance
instance(i j:Int):Decidable (CDiv i j):=by unfold CDiv;infer_instance
instance(i j:Int):Decidable (CPow i j):=by unfold CPow;infer_instance
noncomputable def mulD:D->D->M D
 | .int i, .int j=>if CMul i j then rt (.int (i*j)) else fl
 | .lst _ a, .int k=>if -(2^63)<=k/\k<2^63/\a.length*k.toNat<=sizeLine then newL (List.flatten (List.replicate k.toNat a)) else fl
 | .tup a, .int k=>if 0<a.length/\2<=k/\k<2^63/\a.length*k.toNat<=sizeLine then rt (.tup (List.flatten (List.replicate k.toNat a))) else fl
 |_,_=>fl
noncomputable def z6a:D->D->M D
 | .int i, .int j=>if CDiv i j then rt (.int (i/j)) else fl
 |_,_=>fl
noncomputable def modD:D->D->M D
 | .int i, .int j=>if 0<j then rt (.int (i %j)) else fl
 |_,_=>fl
noncomputable def powD:D->D->M D
 | .int i, .int j=>if CPow i j then rt (.int (i^j.toNat)) else fl
 |_,_=>fl
noncomputable def ltD:D->D->M D
 | .int i, .int j=>rt (.bool (decide (i<j)))
 |_,_=>fl
noncomputable def leD:D->D->M D
 | .int i, .int j=>rt (.bool (decide (i<=j)))
 |_,_=>fl
noncomputable def gtD:D->D->M D
 | .int i, .int j=>rt (.bool (decide (j<i)))
 |_,_=>fl
noncomputable def geD:D->D->M D
 | .int i, .int j=>rt (.bool (decide (j<=i)))
 |_,_=>fl
noncomputable def eqC(t t':D):Bool:=plain t&&plain t'&&(er t).canLay0&&(er t').canLay0&&decide (min (er t).depth (er t').depth<=60)
noncomputable def eqD(t t':D):M D:=if eqC t t'=true then rt (.bool (PyData.eqv (er t) (er t'))) else fl
noncomputable def neD(t t':D):M D:=if eqC t t'=true then rt (.bool (!PyData.eqv (er t) (er t'))) else fl
noncomputable def inC(t:D)(ds:List D):Bool:=plain t&&z2t ds&&(er t).canLay0&&PyData.canLayAll0 (erL ds)&&decide (min (PyData.depthAll (erL ds)) (er t).depth<=60)
noncomputable def inD(t t':D):M D:=match seqD t' with
 |some ds=>if inC t ds=true then rt (.bool ((erL ds).any fun y=>PyData.eqv y (er t))) else fl
 |none=>fl
noncomputable def ninD(t t':D):M D:=match seqD t' with
 |some ds=>if inC t ds=true then rt (.bool (!(erL ds).any fun y=>PyData.eqv y (er t))) else fl
 |none=>fl
noncomputable def isN:D->D->M D
 | .non, .non=>rt (.bool true)
 |_, .non=>rt (.bool false)
 |_,_=>fl
noncomputable def notN:D->D->M D
 | .non, .non=>rt (.bool false)
 |_, .non=>rt (.bool true)
 |_,_=>fl
noncomputable def optM:Option D->M D
 |some d=>rt d
 |none=>fl
noncomputable def ixG:Option (List D)->D->M D
 |some ds, .int i=>optM (atI ds i)
 |_,_=>fl
noncomputable def ixD(t t':D):M D:=ixG (seqD t) t'
noncomputable def negD:D->M D
 | .int i=>rt (.int (-i))
 |_=>fl
section
variable{G:Gx}{F:Fy}
theorem wfl{σv tv:List (Option V)}{s:Stt}{Q:VK}{A:Prop}(h:wM G F σv tv ((fl:M D) s) Q):A:=False.elim h
theorem z6b{ρ:Nat->Addr}{H:Hp}{σv tv:List (Option V)}{s:Stt}{i j:Int}{v u:V}(M:MRL G F.toFx ρ H σv tv s [.int i, .int j] [v,u]):v= .int i/\u= .int j:=by
 obtain⟨h1,h2⟩:=M.rd2
 simp only[RD] at h1 h2
 exact⟨h1,h2⟩
theorem zfl:OpOK G F (fun x y H Q=>rI0 (fun i j=> .int (i+j)) x y H Q\/zds G.K x y H Q\/rCat x y H Q\/∃i j,x= .str i/\y= .str j/\i.length+j.length<=sizeLine/\Q (.str (i++j)) H) addD:=by
 intro ρ s t t' v u H σv tv Q M W
 unfold addD at W
 split at W
 ·obtain⟨rfl,rfl⟩:=z6b M
  exact .inl ⟨_,_,rfl,rfl,fun _=>W.flat M.m rfl⟩
 ·split at W
  ·rename_i a b hz
   obtain⟨h1,h2⟩:=M.rd2
   obtain⟨l1,l2⟩:=M.lb2
   obtain⟨p,xs,rfl,s1,r1⟩:=h1.tupx
   obtain⟨q,ys,rfl,s2,r2⟩:=h2.tupx
   refine .inr (.inl ⟨p,q,xs,ys,rfl,rfl,s1,s2,by rw[<-r1.length,<-r2.length];exact hz,z6G W M.m (r1.append r2) ?_⟩)
   rw[z1r]
   intro l hl
   rcases List.mem_append.mp hl with q|q
   ·exact l1 l (by simpa only[labs] using q)
   ·exact l2 l (by simpa only[labs] using q)
  ·exact wfl W
 ·split at W
  ·rename_i la a lb b hz
   obtain⟨h1,h2⟩:=M.rd2
   obtain⟨l1,l2⟩:=M.lb2
   simp only[RD] at h1 h2
   obtain⟨rfl,xs,s1,r1⟩:=h1
   obtain⟨rfl,ys,s2,r2⟩:=h2
   refine .inr (.inr (.inl ⟨_,_,xs,ys,rfl,rfl,s1,s2,by rw[<-r1.length,<-r2.length];exact hz,fun p hp k=>z5t W M.m (r1.append r2) ?_ hp k⟩))
   rw[z1r]
   intro l hl
   rcases List.mem_append.mp hl with q|q
   ·exact l1 l (by simp only[labs];exact List.mem_cons_of_mem _ q)
   ·exact l2 l (by simp only[labs];exact List.mem_cons_of_mem _ q)
  ·exact wfl W
 ·split at W
  ·rename_i a b hz
   obtain⟨h1,h2⟩:=M.rd2
   simp only[RD] at h1 h2
   subst h1 h2
   exact .inr (.inr (.inr ⟨_,_,rfl,rfl,hz,fun _=>W.flat M.m rfl⟩))
  ·exact wfl W
 ·exact wfl W
theorem zfm:OpOK G F (rI0 fun i j=> .int (i -j)) subD:=by
 intro ρ s t t' v u H σv tv Q M W
 unfold subD at W
 split at W
 ·obtain⟨rfl,rfl⟩:=z6b M
  exact⟨_,_,rfl,rfl,fun _=>W.flat M.m rfl⟩
 ·exact wfl W
theorem zdz:OpOK G F (rI CDiv fun i j=> .int (i/j)) z6a:=by
 intro ρ s t t' v u H σv tv Q M W
 unfold z6a at W
 split at W
 ·split at W
  ·rename_i hc
   obtain⟨rfl,rfl⟩:=z6b M
   exact⟨_,_,rfl,rfl,hc,fun _=>W.flat M.m rfl⟩
  ·exact wfl W
 ·exact wfl W
theorem zfn:OpOK G F (rI (fun _ j=>0<j) fun i j=> .int (i %j)) modD:=by
 intro ρ s t t' v u H σv tv Q M W
 unfold modD at W
 split at W
 ·split at W
  ·rename_i hc
   obtain⟨rfl,rfl⟩:=z6b M
   exact⟨_,_,rfl,rfl,hc,fun _=>W.flat M.m rfl⟩
  ·exact wfl W
 ·exact wfl W
theorem zfo:OpOK G F (rI CPow fun i j=> .int (i^j.toNat)) powD:=by
 intro ρ s t t' v u H σv tv Q M W
 unfold powD at W
 split at W
 ·split at W
  ·rename_i hc
   obtain⟨rfl,rfl⟩:=z6b M
   exact⟨_,_,rfl,rfl,hc,fun _=>W.flat M.m rfl⟩
  ·exact wfl W
 ·exact wfl W
theorem zhC:z2w G F (rI0 fun i j=> .bl (decide (i<j))) ltD:=by
 intro ρ s t t' v u H σv tv Q M W
 unfold ltD at W
 split at W
 ·obtain⟨rfl,rfl⟩:=z6b M
  exact⟨_,_,rfl,rfl,W.flat M.m rfl⟩
 ·exact wfl W
theorem zhD:z2w G F (rI0 fun i j=> .bl (decide (i<=j))) leD:=by
 intro ρ s t t' v u H σv tv Q M W
 unfold leD at W
 split at W
 ·obtain⟨rfl,rfl⟩:=z6b M
  exact⟨_,_,rfl,rfl,W.flat M.m rfl⟩
 ·exact wfl W
theorem zhE:z2w G F (rI0 fun i j=> .bl (decide (j<i))) gtD:=by
 intro ρ s t t' v u H σv tv Q M W
 unfold gtD at W
 split at W
 ·obtain⟨rfl,rfl⟩:=z6b M
  exact⟨_,_,rfl,rfl,W.flat M.m rfl⟩
 ·exact wfl W
theorem zhF:z2w G F (rI0 fun i j=> .bl (decide (j<=i))) geD:=by
 intro ρ s t t' v u H σv tv Q M W
 unfold geD at W
 split at W
 ·obtain⟨rfl,rfl⟩:=z6b M
  exact⟨_,_,rfl,rfl,W.flat M.m rfl⟩
 ·exact wfl W
theorem zhG:z2w G F (rEqD G.K false) eqD:=by
 intro ρ s t t' v u H σv tv Q M W
 unfold eqD at W
 split at W
 ·rename_i hc
  simp only[eqC,Bool.and_eq_true,decide_eq_true_eq] at hc
  obtain⟨⟨⟨⟨c1,c2⟩,c3⟩,c4⟩,c5⟩:=hc
  obtain⟨h1,h2⟩:=M.rd2
  exact⟨er t,er t',RD.dp _ _ h1 c1,RD.dp _ _ h2 c2,c3,c4,c5,W.flat M.m rfl⟩
 ·exact wfl W
theorem zhH:z2w G F (rEqD G.K true) neD:=by
 intro ρ s t t' v u H σv tv Q M W
 unfold neD at W
 split at W
 ·rename_i hc
  simp only[eqC,Bool.and_eq_true,decide_eq_true_eq] at hc
  obtain⟨⟨⟨⟨c1,c2⟩,c3⟩,c4⟩,c5⟩:=hc
  obtain⟨h1,h2⟩:=M.rd2
  exact⟨er t,er t',RD.dp _ _ h1 c1,RD.dp _ _ h2 c2,c3,c4,c5,W.flat M.m rfl⟩
 ·exact wfl W
theorem RD.dpSeq{ρ:Nat->Addr}{H:Hp}{t:D}{v:V}{ds:List D}(h:RD G ρ H t v)(e:seqD t=some ds)(p:z2t ds=true):Dp G.K H (.list (erL ds)) v\/Dp G.K H (.tuple (erL ds)) v:=by
 obtain⟨a,xs,rfl,sq,r,_⟩:=h.seq e
 have d:=RDs.dp ds xs r p
 rcases sq with sq|sq
 ·exact .inl (by simp only[Dp];exact⟨a,xs,rfl,sq,d⟩)
 ·exact .inr (by simp only[Dp];exact⟨a,xs,rfl,sq,d⟩)
theorem zhI:z2w G F (rInD G.K false) inD:=by
 intro ρ s t t' v u H σv tv Q M W
 unfold inD at W
 cases e:seqD t' with
 |some ds=>
  rw[e] at W
  dsimp only at W
  split at W
  ·rename_i hc
   simp only[inC,Bool.and_eq_true,decide_eq_true_eq] at hc
   obtain⟨⟨⟨⟨c1,c2⟩,c3⟩,c4⟩,c5⟩:=hc
   obtain⟨h1,h2⟩:=M.rd2
   exact⟨er t,erL ds,RD.dp _ _ h1 c1,h2.dpSeq e c2,c3,c4,c5,W.flat M.m rfl⟩
  ·exact wfl W
 |none=>rw[e] at W;exact wfl W
theorem zfp:z2w G F (rInD G.K true) ninD:=by
 intro ρ s t t' v u H σv tv Q M W
 unfold ninD at W
 cases e:seqD t' with
 |some ds=>
  rw[e] at W
  dsimp only at W
  split at W
  ·rename_i hc
   simp only[inC,Bool.and_eq_true,decide_eq_true_eq] at hc
   obtain⟨⟨⟨⟨c1,c2⟩,c3⟩,c4⟩,c5⟩:=hc
   obtain⟨h1,h2⟩:=M.rd2
   exact⟨er t,erL ds,RD.dp _ _ h1 c1,h2.dpSeq e c2,c3,c4,c5,W.flat M.m rfl⟩
  ·exact wfl W
 |none=>rw[e] at W;exact wfl W
theorem RD.non_iff{ρ:Nat->Addr}{H:Hp}{t:D}{v:V}(h:RD G ρ H t v):v= .non↔t= .non:=by
 cases t<;>simp only[RD] at h<;>(try (subst h;simp))<;>(try (obtain⟨a,xs,rfl,_⟩:=h;simp))<;>(try (obtain⟨rfl,_⟩:=h;simp))<;>(try (obtain⟨a,o,C,rfl,_⟩:=h;simp))<;>(try (obtain⟨a,rfl,_⟩:=h;simp))
theorem zfq:z2w G F (fun x y H Q=>y= .non/\Q (.bl (decide (x= .non))) H) isN:=by
 intro ρ s t t' v u H σv tv Q M W
 obtain⟨h1,h2⟩:=M.rd2
 have e1:=h1.non_iff
 unfold isN at W
 split at W
 ·simp only[RD] at h2
  exact⟨h2,by rw[decide_eq_true (e1.mpr rfl)];exact W.flat M.m rfl⟩
 ·rename_i ne
  simp only[RD] at h2
  exact⟨h2,by rw[decide_eq_false (fun z=>ne (e1.mp z))];exact W.flat M.m rfl⟩
 ·exact wfl W
theorem zdA:z2w G F (fun x y H Q=>y= .non/\Q (.bl (!decide (x= .non))) H) notN:=by
 intro ρ s t t' v u H σv tv Q M W
 obtain⟨h1,h2⟩:=M.rd2
 have e1:=h1.non_iff
 unfold notN at W
 split at W
 ·simp only[RD] at h2
  exact⟨h2,by rw[decide_eq_true (e1.mpr rfl)];exact W.flat M.m rfl⟩
 ·rename_i ne
  simp only[RD] at h2
  exact⟨h2,by rw[decide_eq_false (fun z=>ne (e1.mp z))];exact W.flat M.m rfl⟩
 ·exact wfl W
theorem zfr{ρ:Nat->Addr}{H:Hp}{ds:List D}{xs:List V}{i:Int}{d:D}(r:RDs G ρ H ds xs)(e:atI ds i=some d): ∃x,atI xs i=some x/\RD G ρ H d x:=by
 unfold atI at e⊢
 rw[<-r.length]
 cases e1:ixN ds.length i with
 |none=>rw[e1] at e;cases e
 |some j=>
  rw[e1] at e
  exact r.get j d e
theorem zdB{α:Type}{ds:List α}{i:Int}{d:α}(e:atI ds i=some d):d∈ds:=by
 unfold atI at e
 cases e1:ixN ds.length i with
 |none=>rw[e1] at e;cases e
 |some j=>
  rw[e1] at e
  exact List.mem_of_getElem? e
theorem zhJ:OpOK G F (fun x y H Q=>rIxL G.K x y H Q\/rIxT G.K x y H Q) ixD:=by
 intro ρ s t t' v u H σv tv Q M W
 obtain⟨h1,h2⟩:=M.rd2
 unfold ixD at W
 cases e:seqD t with
 |none=>rw[e] at W;exact False.elim W
 |some ds=>
  rw[e] at W
  cases t' with
  |int i=>
   have W:wM G F σv tv (optM (atI ds i) s) Q:=W
   cases ea:atI ds i with
   |some d=>
    rw[ea] at W
    obtain⟨a,xs,rfl,sq,r,sub⟩:=h1.seq e
    obtain⟨x,ex,rx⟩:=zfr r ea
    simp only[RD] at h2
    subst h2
    have fin:KD G.K H->Q x H:=fun _=>W.out M.m rx fun l hl=>M.lb2.1 l (sub l (labsL_mem (zdB ea) l hl))
    rcases sq with sq|sq
    ·exact .inl ⟨a,xs,i,x,rfl,rfl,sq,ex,fin⟩
    ·exact .inr ⟨a,xs,i,x,rfl,rfl,sq,ex,fin⟩
   |none=>rw[ea] at W;exact False.elim W
  |_=>exact False.elim W
theorem zfs:UnOK G F (rU fun i=> .int (-i)) negD:=by
 intro ρ s t v H σv tv Q M W
 unfold negD at W
 split at W
 ·have h:=M.rd1
  simp only[RD] at h
  exact⟨_,h,fun _=>W.flat M.m rfl⟩
 ·exact wfl W
end
section
variable{X:Cx}{G:Gx}{F:Fy}{e a b c:Expr}{pos:Pos}
theorem RDs.flat{ρ:Nat->Addr}{H:Hp}{ds:List D}{xs:List V}(r:RDs G ρ H ds xs): ∀k:Nat,RDs G ρ H (List.replicate k ds).flatten (List.replicate k xs).flatten
 |0=>by simp[RDs]
 |k+1=>by
  rw[List.replicate_succ,List.replicate_succ,List.flatten_cons,List.flatten_cons]
  exact r.append (RDs.flat r k)
theorem z4F{ds:List D}{l:Nat}: ∀k:Nat,l∈z02 (List.replicate k ds).flatten->l∈z02 ds
 |0,h=>by simp[z02] at h
 |k+1,h=>by
  rw[List.replicate_succ,List.flatten_cons,z1r] at h
  rcases List.mem_append.mp h with h|h
  ·exact h
  ·exact z4F k h
theorem zft:OpOK G F (fun x y H Q=>rI CMul (fun i j=> .int (i*j)) x y H Q\/(rRep x y H Q\/zdu G.K x y H Q)) mulD:=by
 intro ρ s t t' v u H σv tv Q M W
 unfold mulD at W
 split at W
 ·split at W
  ·rename_i hc
   obtain⟨rfl,rfl⟩:=z6b M
   exact .inl ⟨_,_,rfl,rfl,hc,fun _=>W.flat M.m rfl⟩
  ·exact wfl W
 ·split at W
  ·rename_i la a k hc
   obtain⟨h1,h2⟩:=M.rd2
   obtain⟨l1,l2⟩:=M.lb2
   simp only[RD] at h1 h2
   obtain⟨rfl,xs,s1,r1⟩:=h1
   subst h2
   refine .inr (.inl ⟨_,k,xs,rfl,rfl,s1,hc.1,hc.2.1,by rw[<-r1.length];exact hc.2.2,fun p hp kd=>z5t W M.m (r1.flat _) (fun l hl=> ?_) hp kd⟩)
   exact l1 l (by simp only[labs];exact List.mem_cons_of_mem _ (z4F _ hl))
  ·exact wfl W
 ·split at W
  ·rename_i a k hc
   obtain⟨h1,h2⟩:=M.rd2
   obtain⟨l1,l2⟩:=M.lb2
   simp only[RD] at h1 h2
   obtain⟨a',xs,rfl,s1,r1⟩:=h1
   subst h2
   refine .inr (.inr ⟨_,k,xs,rfl,rfl,SqT.of s1,by rw[<-r1.length];exact hc.1,hc.2.1,hc.2.2.1,by rw[<-r1.length];exact hc.2.2.2,fun p hp kd=>zaf W M.m (r1.flat _) (fun l hl=> ?_) hp kd⟩)
   exact l1 l (by simp only[labs];exact z4F _ hl)
  ·exact wfl W
 ·exact wfl W
noncomputable def cutA{α:Type}(xs:List α)(lo hi:Option Int):List α:=(xs.drop (HT.sIx xs.length 0 lo)).take (HT.sIx xs.length xs.length hi -HT.sIx xs.length 0 lo)
noncomputable def slD:D->Option Int->Option Int->M D
 | .tup ds,lo,hi=>rt (.tup (cutA ds lo hi))
 | .lst _ ds,lo,hi=>newL (cutA ds lo hi)
 | .ro ds,lo,hi=>newL (cutA ds lo hi)
 |_,_,_=>fl
theorem RDs.cut{ρ:Nat->Addr}{H:Hp}{ds:List D}{xs:List V}(r:RDs G ρ H ds xs)(lo hi:Option Int):RDs G ρ H (cutA ds lo hi) (cutV xs lo hi):=by
 unfold cutA cutV
 rw[r.length]
 exact(r.drop _).take _
theorem z5u{ds:List D}{lo hi:Option Int}{l:Nat}(h:l∈z02 (cutA ds lo hi)):l∈z02 ds:=by
 obtain⟨d,h1,h2⟩:=z2b h
 exact labsL_mem (List.mem_of_mem_drop (List.mem_of_mem_take h1)) l h2
noncomputable def mInt(d:D):Option Int:=match d with| .int i=>some i|_=>none
noncomputable def z6c:Option (M D)->M (Option Int)
 |none=>rt none
 |some m=>bd m fun d=>match mInt d with|some i=>rt (some i)|none=>fl
noncomputable def tP(G:Gx)(F:Fy)(m:M (Option Int)):TO:=fun σv H Q=> ∃tv,F.tv0<:+tv/\∃ρ s,MR G F.toFx ρ H σv tv s/\(match m s with
 | .ok o s'=> ∀ρ' H',MR G F.toFx ρ' H' σv tv s'->Q o H'
 | .ex d s'=>F.xw d s'
 | .no=>False)
noncomputable def SO(X:Cx)(G:Gx)(F:Fy)(e:Option Expr)(m:Option (M D)):Prop:=PO X e (tP G F (z6c m))
theorem so_none:SO X G F none none:=by
 intro pins s σ H Q I ⟨tv,hs,ρ,ms,M,W⟩
 exact zde pins s σ H Q I (W ρ H M)
theorem so_some{m:M D}(h:SE X G F e m):SO X G F (some e) (some m):=by
 intro pins s σ H Q I ⟨tv,hs,ρ,ms,M,W⟩
 refine zdf h pins s σ H Q I ⟨tv,hs,ρ,ms,M, ?_⟩
 simp only[z6c,bd] at W
 cases e1:m ms with
 |ok d s1=>
  rw[e1] at W
  intro ρ' v H' M'
  cases d with
  |int i=>
   have h:=M'.rd1
   simp only[RD] at h
   exact⟨i,h,W ρ' H' M'.m⟩
  |_=>exact False.elim W
 |ex d s1=>rw[e1] at W;exact W
 |no=>rw[e1] at W;exact W
noncomputable def mSl(m:M D)(lo hi:Option (M D)):M D:=bd m fun x=>bd (psh x) fun _=>bd (z6c lo) fun l=>bd (z6c hi) fun h=>bd pop fun x'=>slD x' l h
theorem zhK{ρ:Nat->Addr}{s:Stt}{t:D}{v:V}{H:Hp}{σv tv:List (Option V)}{lo hi:Option Int}{Q:VK}(M:MRL G F.toFx ρ H σv tv s [t] [v])(W:wM G F σv tv (slD t lo hi s) Q):
 rSlX G.K v lo hi H (fun w H'=>KD G.K H'->Q w H')\/rSlL G.K v lo hi H (fun w H'=>KD G.K H'->Q w H'):=by
 have h:=M.rd1
 cases t with
 |tup ds=>
  obtain⟨p,xs,rfl,s1,r1⟩:=h.tupx
  exact .inl ⟨p,xs,rfl,s1,z6G W M.m (r1.cut lo hi) fun l hl=>M.lb1 l (by simp only[labs];exact z5u hl)⟩
 |lst n ds=>
  obtain⟨p,xs,rfl,s1,r1,_⟩:=h.lstq (ds:=ds) rfl
  exact .inr ⟨p,xs,rfl,s1,fun q hq k=>z5t W M.m (r1.cut lo hi) (fun l hl=>M.lb1 l (by simp only[labs];exact List.mem_cons_of_mem _ (z5u hl))) hq k⟩
 |ro ds=>
  obtain⟨p,xs,rfl,s1,r1,_⟩:=h.lstq (ds:=ds) rfl
  exact .inr ⟨p,xs,rfl,s1,fun q hq k=>z5t W M.m (r1.cut lo hi) (fun l hl=>M.lb1 l (by simp only[labs];exact z5u hl)) hq k⟩
 |_=>exact False.elim W
theorem se_slice{lo hi:Option Expr}{p2:Pos}{m:M D}{ml mh:Option (M D)}(hk:X.K=G.K)(he:SE X G F e m)(hl:SO X G F lo ml)(hh:SO X G F hi mh):SE X G F (.Subscript e (.Slice lo hi none p2) pos) (mSl m ml mh):=by
 refine PE.imp hk (zby (r:=fun x lo hi H Q=>rSlX X.K x lo hi H Q\/rSlL X.K x lo hi H Q) (SlR.or zdr zdi) he hl hh) fun σ H Q ⟨tv,h⟩=>⟨tv, ?_⟩
 obtain⟨hs,ρ,s,M,W⟩:=z6F h
 refine⟨hs,ρ,s,M,W.mono fun v H1 ⟨ρ1,s1,t,M1,W1⟩=>⟨some v::tv,suf1 hs,ρ1,s1.psh t,M1.push, ?_⟩⟩
 simp only[bd,psh] at W1
 cases e1:z6c ml (s1.psh t) with
 |ex d s2=>rw[e1] at W1;exact W1
 |no=>rw[e1] at W1;exact W1
 |ok l s2=>
  rw[e1] at W1
  intro ρ2 H2 M2
  refine⟨some v::tv,suf1 hs,ρ2,s2,M2, ?_⟩
  dsimp only at W1
  cases e2:z6c mh s2 with
  |ex d s3=>rw[e2] at W1;exact W1
  |no=>rw[e2] at W1;exact W1
  |ok h s3=>
   rw[e2] at W1
   intro ρ3 H3 M3
   simp only[pop] at W1
   cases e3:s3.tm with
   |nil=>rw[e3] at W1;exact W1.elim
   |cons o r=>
    cases o with
    |none=>rw[e3] at W1;exact W1.elim
    |some t'=>
     rw[e3] at W1
     have M4:MRL G F.toFx ρ3 H3 σ tv {s3 with tm:=r} [t'] [v]:=MRL.down (ts:=[]) (vs:=[]) ⟨M3,rfl,fun l h=>by simp[z02] at h⟩ e3
     rw[hk]
     exact zhK M4 W1
noncomputable def tupD(ts:List D):M D:=if ts.length<=sizeLine then rt (.tup ts) else fl
noncomputable def lstM(ts:List D):M D:=if ts.length<=sizeLine then newL ts else fl
theorem zfu:z2R G F (fun xs H1 Q=>xs.length<=sizeLine/\∀p,H1 p=none->Q (.ref p) (upd H1 p (.tup xs))) tupD:=by
 intro ρ s ts vs H σv tv Q M W
 unfold tupD at W
 split at W
 ·rename_i hz
  exact⟨by rw[<-M.rd.length];exact hz,fun p hp k=>zaf W M.m M.rd M.lb hp k⟩
 ·exact wfl W
theorem zfv:z2R G F (fun xs H1 Q=>xs.length<=sizeLine/\∀p,H1 p=none->Q (.ref p) (upd H1 p (.lst xs))) lstM:=by
 intro ρ s ts vs H σv tv Q M W
 unfold lstM at W
 split at W
 ·rename_i hz
  exact⟨by rw[<-M.rd.length];exact hz,fun p hp k=>z5t W M.m M.rd M.lb hp k⟩
 ·exact wfl W
theorem se_tup{es:List Expr}{ms:List (M D)}{x1}(hk:X.K=G.K)(h:SA X G F es (mArgs ms)):SE X G F (.Tuple es x1 pos) (mCB ms tupD):=
 PE.imp hk (zf0 h) fun _ _ _ h=>z5h zfu h
theorem se_lst{es:List Expr}{ms:List (M D)}(hk:X.K=G.K)(h:SA X G F es (mArgs ms)):SE X G F (.List es pos) (mCB ms lstM):=
 PE.imp hk (zf1 h) fun _ _ _ h=>z5h zfv h
noncomputable def truD:D->M Bool
 | .non=>rt false
 | .bool b=>rt b
 | .int i=>rt (i !=0)
 | .str x=>if x.length<=sizeLine then rt ((x.length:Int) !=0) else fl
 | .tup ds=>rt (!ds.isEmpty)
 | .ro ds=>rt (!ds.isEmpty)
 | .lst _ ds=>rt (!ds.isEmpty)
 |_=>fl
noncomputable def z0R(m:M D):M Bool:=bd m truD
theorem z4G{ρ:Nat->Addr}{H:Hp}{ds:List D}{xs:List V}(r:RDs G ρ H ds xs):(!ds.isEmpty)= !xs.isEmpty:=by
 have:=r.length
 cases ds<;>cases xs<;>simp at this⊢
theorem zcz{ρ:Nat->Addr}{s:Stt}{t:D}{v:V}{H:Hp}{σv tv:List (Option V)}{Q:Bool->Hp->Prop}(M:MRL G F.toFx ρ H σv tv s [t] [v])(W:wB G F σv tv (truD t s) Q): ∃k,TruV G.K v H k/\Q k H:=by
 have h:=M.rd1
 cases t with
 |non=>simp only[RD] at h;subst h;exact⟨false,rfl,W ρ H M.m⟩
 |bool b=>simp only[RD] at h;subst h;exact⟨b,rfl,W ρ H M.m⟩
 |int i=>simp only[RD] at h;subst h;exact⟨_,rfl,W ρ H M.m⟩
 |str x=>
  simp only[RD] at h;subst h
  unfold truD at W
  by_cases hz:x.length<=sizeLine
  ·simp only[if_pos hz] at W;exact⟨_,⟨hz,rfl⟩,W ρ H M.m⟩
  ·simp only[if_neg hz] at W;exact False.elim W
 |tup ds=>
  obtain⟨p,xs,rfl,s1,r1⟩:=h.tupq
  exact⟨_, .inr (.inl ⟨xs,s1,z4G r1⟩),W ρ H M.m⟩
 |ro ds=>
  obtain⟨p,xs,rfl,s1,r1,_⟩:=h.lstq (ds:=ds) rfl
  exact⟨_, .inl ⟨xs,s1,z4G r1⟩,W ρ H M.m⟩
 |lst n ds=>
  obtain⟨p,xs,rfl,s1,r1,_⟩:=h.lstq (ds:=ds) rfl
  exact⟨_, .inl ⟨xs,s1,z4G r1⟩,W ρ H M.m⟩
 |dct _ _ _=>exact False.elim W
 |fdc _ _=>exact False.elim W
 |obj _ _ _ _=>exact False.elim W
 |exc _=>exact False.elim W
 |fn _=>exact False.elim W
theorem zbH{m:M D}{σ:St}{H:Hp}{Q:Bool->Hp->Prop}(h:tMB G F (z0R m) σ H Q):tM G F m σ H fun x H'=> ∃k,TruV G.K x H' k/\Q k H':=by
 obtain⟨tv,hs,ρ,s,M,W⟩:=h
 refine⟨tv,hs,ρ,s,M, ?_⟩
 unfold z0R bd at W
 cases e:m s with
 |ok t s1=>rw[e] at W;exact fun ρ1 v H1 M1=>zcz M1 W
 |ex d s1=>rw[e] at W;exact W
 |no=>rw[e] at W;exact W
theorem sb_truth{m:M D}(hk:X.K=G.K)(ha:SE X G F a m)(he: ∀whole,isTrue a X.env whole=(do let v<-whole;standAt a.pos;holding [v] (truthy v)):=by intro _;rfl):SB X G F a (z0R m):=by
 refine PT.imp hk (zbv ha he) fun σ H Q h=> ?_
 rw[hk]
 obtain⟨tv,h'⟩:=zbH h
 exact⟨tv,h'.mono fun v H1 ⟨k,q1,q2⟩=>⟨k,q1,fun _=>q2⟩⟩
noncomputable def booD:D->M Bool
 | .bool b=>rt b
 |_=>fl
noncomputable def mBoo(m:M D):M Bool:=bd m booD
theorem zag{m:M D}{σ:St}{H:Hp}{Q:Bool->Hp->Prop}(h:tMB G F (mBoo m) σ H Q):tM G F m σ H fun x H'=> ∃k,x= .bl k/\Q k H':=by
 obtain⟨tv,hs,ρ,s,M,W⟩:=h
 refine⟨tv,hs,ρ,s,M, ?_⟩
 unfold mBoo bd at W
 cases e:m s with
 |ok t s1=>
  rw[e] at W
  intro ρ1 v H1 M1
  have h:=M1.rd1
  cases t with
  |bool b=>simp only[RD] at h;exact⟨b,h,W ρ1 H1 M1.m⟩
  |_=>exact False.elim W
 |ex d s1=>rw[e] at W;exact W
 |no=>rw[e] at W;exact W
theorem zdC{op:CmpOp}{r:R2}{ma mb:M D}{g:D->D->M D}(ho:OpR X (compareOp op) r)(hg:z2w G F r g)(ha:SE X G F a ma)(hb:SE X G F b mb)(hm:behindInMarks op b=false):SB X G F (.Compare a [op] [b] pos) (mBoo (mBin ma mb g)):=
 PT.imp0 (zdb ho ha hb hm) fun _ _ _ h=>z8D hg (zag h)
theorem zdD{m:M Bool}{f:Bool->M Bool}{σ:St}{tv:List (Option V)}{H:Hp}{Q:Bool->Hp->Prop}(h:tBv G F (bd m f) σ tv H Q):tBv G F m σ tv H fun b H1=> ∃ρ1 s1,MR G F.toFx ρ1 H1 σ tv s1/\wB G F σ tv (f b s1) Q:=by
 obtain⟨hs,ρ,s,M,W⟩:=h
 refine⟨hs,ρ,s,M, ?_⟩
 unfold bd at W
 cases e:m s with
 |ok b s1=>rw[e] at W;exact fun ρ1 H1 M1=>⟨ρ1,s1,M1,W⟩
 |ex d s1=>rw[e] at W;exact W
 |no=>rw[e] at W;exact W
theorem wB.mono{σv tv:List (Option V)}{r:Res Bool}{Q Q':Bool->Hp->Prop}(h:wB G F σv tv r Q)(k: ∀v H,Q v H->Q' v H):wB G F σv tv r Q':=by
 cases r with
 |ok t s=>exact fun ρ H M=>k _ _ (h ρ H M)
 |ex d s=>exact h
 |no=>exact h
theorem tBv.mono{m:M Bool}{σv tv:List (Option V)}{H:Hp}{Q Q':Bool->Hp->Prop}(h:tBv G F m σv tv H Q)(k: ∀v H,Q v H->Q' v H):tBv G F m σv tv H Q':=by
 obtain⟨hs,ρ,s,M,W⟩:=h
 exact⟨hs,ρ,s,M,W.mono k⟩
noncomputable def iteM{α:Type}(b:Bool)(m m':M α):M α:=match b with|true=>m|false=>m'
noncomputable def mAnd(m m':M Bool):M Bool:=bd m fun b=>iteM b m' (rt false)
noncomputable def mOr(m m':M Bool):M Bool:=bd m fun b=>iteM b (rt true) m'
noncomputable def mNot(m:M Bool):M Bool:=bd m fun b=>rt (!b)
noncomputable def SW(X:Cx)(G:Gx)(F:Fy)(e:Expr)(m:M Bool):Prop:=PW X e (tMB G F m)
theorem SW.sb{m:M Bool}(h:SW X G F e m):SB X G F e m:=PW.pt h
theorem PW.imp0{t t':TT}(h:PW X e t)(hi: ∀σ H Q,t' σ H Q->t σ H Q):PW X e t':=fun wh pins s σ H Q I q=>h wh pins s σ H _ I (hi σ H Q q)
theorem sw_and1{m:M Bool}(h:SB X G F a m):SW X G F (.BoolOp .And [a] pos) m:=zd2 h
theorem sw_or1{m:M Bool}(h:SB X G F a m):SW X G F (.BoolOp .Or [a] pos) m:=zeH h
theorem sw_and{rest:List Expr}{m m':M Bool}(ha:SB X G F a m)(hb:SW X G F (.BoolOp .And (b::rest) pos) m'):SW X G F (.BoolOp .And (a::b::rest) pos) (mAnd m m'):=by
 refine PW.imp0 (zeI ha hb) fun σ H Q ⟨tv,h⟩=>⟨tv,(zdD h).mono fun b H1 ⟨ρ1,s1,M1,W⟩=> ?_⟩
 cases b with
 |true=>rw[if_pos rfl];exact⟨tv,h.1,ρ1,s1,M1,W⟩
 |false=>rw[if_neg Bool.false_ne_true];exact W ρ1 H1 M1
theorem sw_or{rest:List Expr}{m m':M Bool}(ha:SB X G F a m)(hb:SW X G F (.BoolOp .Or (b::rest) pos) m'):SW X G F (.BoolOp .Or (a::b::rest) pos) (mOr m m'):=by
 refine PW.imp0 (zhc ha hb) fun σ H Q ⟨tv,h⟩=>⟨tv,(zdD h).mono fun b H1 ⟨ρ1,s1,M1,W⟩=> ?_⟩
 cases b with
 |true=>rw[if_pos rfl];exact W ρ1 H1 M1
 |false=>rw[if_neg Bool.false_ne_true];exact⟨tv,h.1,ρ1,s1,M1,W⟩
theorem sb_not{m:M Bool}(ha:SB X G F a m):SB X G F (.UnaryOp .Not a pos) (mNot m):=by
 refine PT.imp0 (zeJ ha) fun σ H Q ⟨tv,h⟩=>⟨tv,(zdD h).mono fun b H1 ⟨ρ1,s1,M1,W⟩=>W ρ1 H1 M1⟩
noncomputable def z3r(m m':M D):M D:=bd (mBoo m) fun b=>iteM b m' (rt (.bool false))
noncomputable def z7p(m:M D):M D:=bd (mBoo m) fun b=>rt (.bool (!b))
theorem zcA{m:M D}{f:Bool->M D}{σ:St}{H:Hp}{Q:VK}(h:tM G F (bd (mBoo m) f) σ H Q):tM G F m σ H fun x H1=> ∃k,x= .bl k/\∃ρ1 s1 tv,F.tv0<:+tv/\MR G F.toFx ρ1 H1 σ tv s1/\wM G F σ tv (f k s1) Q:=by
 obtain⟨tv,hs,ρ,s,M,W⟩:=h
 refine⟨tv,hs,ρ,s,M, ?_⟩
 unfold mBoo bd at W
 cases e:m s with
 |ok t s1=>
  rw[e] at W
  intro ρ1 v H1 M1
  have h:=M1.rd1
  cases t with
  |bool b=>simp only[RD] at h;exact⟨b,h,ρ1,s1,tv,hs,M1.m,W⟩
  |_=>exact False.elim W
 |ex d s1=>rw[e] at W;exact W
 |no=>rw[e] at W;exact W
theorem tM.mono{m:M D}{σ:St}{H:Hp}{Q Q':VK}(h:tM G F m σ H Q)(k: ∀v H,Q v H->Q' v H):tM G F m σ H Q':=by
 obtain⟨tv,h⟩:=h
 exact⟨tv,h.mono k⟩
theorem se_one{op}{m:M D}(h:SE X G F a m):SE X G F (.BoolOp op [a] pos) m:=zeK h
theorem se_and{rest:List Expr}{m m':M D}(ha:SE X G F a m)(hb:SE X G F (.BoolOp .And (b::rest) pos) m'):SE X G F (.BoolOp .And (a::b::rest) pos) (z3r m m'):=by
 refine PE.imp0 (zeL ha hb) fun σ H Q h=>(zcA h).mono fun x H1 ⟨k,e,ρ1,s1,tv,hs,M1,W⟩=>⟨k,e, ?_⟩
 cases k with
 |true=>rw[if_pos rfl];exact⟨tv,hs,ρ1,s1,M1,W⟩
 |false=>rw[if_neg Bool.false_ne_true];exact W.flat M1 rfl
theorem se_not{m:M D}(ha:SE X G F a m):SE X G F (.UnaryOp .Not a pos) (z7p m):=by
 refine PE.imp0 (zeM ha) fun σ H Q h=>(zcA h).mono fun x H1 ⟨k,e,ρ1,s1,tv,hs,M1,W⟩=>⟨k,e,W.flat M1 rfl⟩
noncomputable def mIf(c:M Bool)(m m':M D):M D:=bd c fun b=>iteM b m m'
theorem zfw{m:M Bool}{f:Bool->M D}{σ:St}{H:Hp}{Q:VK}(h:tM G F (bd m f) σ H Q):tMB G F m σ H fun b H1=> ∃ρ1 s1 tv,F.tv0<:+tv/\MR G F.toFx ρ1 H1 σ tv s1/\wM G F σ tv (f b s1) Q:=by
 obtain⟨tv,hs,ρ,s,M,W⟩:=h
 refine⟨tv,hs,ρ,s,M, ?_⟩
 unfold bd at W
 cases e:m s with
 |ok b s1=>rw[e] at W;exact fun ρ1 H1 M1=>⟨ρ1,s1,tv,hs,M1,W⟩
 |ex d s1=>rw[e] at W;exact W
 |no=>rw[e] at W;exact W
theorem tMB.mono{m:M Bool}{σ:St}{H:Hp}{Q Q':Bool->Hp->Prop}(h:tMB G F m σ H Q)(k: ∀v H,Q v H->Q' v H):tMB G F m σ H Q':=by
 obtain⟨tv,h⟩:=h
 exact⟨tv,h.mono k⟩
theorem se_ifExp{mc:M Bool}{m m':M D}(hc:SB X G F c mc)(ha:SE X G F a m)(hb:SE X G F b m'):SE X G F (.IfExp c a b pos) (mIf mc m m'):=by
 refine PE.imp0 (zbq hc ha hb) fun σ H Q h=>(zfw h).mono fun k H1 ⟨ρ1,s1,tv,hs,M1,W⟩=> ?_
 cases k with
 |true=>rw[if_pos rfl];exact⟨tv,hs,ρ1,s1,M1,W⟩
 |false=>rw[if_neg Bool.false_ne_true];exact⟨tv,hs,ρ1,s1,M1,W⟩
noncomputable def z9p(y:D)(m:M D):M D:=match cV y with|some _=>m|none=>fl
noncomputable def z0y(ma mb mc:M D)(g g':D->D->M D):M D:=bd ma fun x=>bd (psh x) fun _=>bd mb fun y=>bd pop fun x'=>z9p y (bd (mBoo (g x' y)) fun k=>iteM k (bd mc fun z=>g' y z) (rt (.bool false)))
theorem z7q{ma mb mc:M D}{g g':D->D->M D}{r r':R2}{σ:St}{H:Hp}{Q:VK}(hg:z2w G F r g)(hg':z2w G F r' g')(h:tM G F (z0y ma mb mc g g') σ H Q):z9T r r' (tM G F ma) (tM G F mb) (tM G F mc) σ H Q:=by
 obtain⟨tv,h⟩:=h
 have hs:=h.1
 refine⟨tv,(z8C (g:=fun x' y=>z9p y (bd (mBoo (g x' y)) fun k=>iteM k (bd mc fun z=>g' y z) (rt (.bool false)))) h).mono fun v H1 h1=>⟨_,h1.mono fun u H2 ⟨ρ,s,t,t',M,W⟩=> ?_⟩⟩
 unfold z9p at W
 cases e:cV t' with
 |none=>rw[e] at W;exact False.elim W
 |some u'=>
  rw[e] at W
  have hu:u=u':=by
   have h2:=M.rd2.2
   cases t'<;>simp only[cV,Option.some.injEq] at e<;>simp only[RD] at h2<;>first|(rw[h2,e])|cases e
  subst hu
  unfold bd mBoo at W
  dsimp only at W
  refine hg ρ s t t' v u H2 σ tv _ M ?_
  unfold bd at W
  cases e2:g t t' s with
  |ok z s1=>
   rw[e2] at W
   intro ρ1 w H3 M3
   have h3:=M3.rd1
   cases z with
   |bool k=>
    simp only[RD] at h3
    refine⟨k,h3, ?_⟩
    have W:wM G F σ tv (iteM k (bd mc fun z=>g' t' z) (rt (.bool false)) s1) Q:=W
    cases k with
    |false=>rw[if_neg Bool.false_ne_true];exact W.flat M3.m rfl
    |true=>
     rw[if_pos rfl]
     have h5:tMv G F (bd mc fun z=>g' t' z) σ tv H3 Q:=⟨hs,ρ1,s1,M3.m,W⟩
     refine⟨tv,(z6F h5).mono fun w' H4 ⟨ρ4,s4,t4,M4,W4⟩=>hg' ρ4 s4 t' t4 u w' H4 σ tv Q ⟨M4.m, ?_,fun l hl=> ?_⟩ W4⟩
     ·simp only[RDs];exact⟨_,_,rfl,(z7Y e).1,_,_,rfl,M4.rd1,rfl⟩
     ·simp only[z02,(z7Y (G:=G) (ρ:=ρ4) (H:=H4) e).2,List.nil_append,List.append_nil] at hl
      exact M4.lb1 l hl
   |_=>exact False.elim W
  |ex d s1=>rw[e2] at W;exact W
  |no=>rw[e2] at W;exact W
theorem zbI{op op':CmpOp}{r r':R2}{ma mb mc:M D}{g g':D->D->M D}(ho:OpR X (compareOp op) r)(hg:z2w G F r g)(ho':OpR X (compareOp op') r')(hg':z2w G F r' g')(ha:SE X G F a ma)(hb:SE X G F b mb)(hc:SE X G F c mc)
 (hm:lastMarks [op,op'] [b,c]=false:=by with_unfolding_all rfl):SE X G F (.Compare a [op,op'] [b,c] pos) (z0y ma mb mc g g'):=
 PE.imp0 (zbt ho ho' ha hb hc hm) fun _ _ _ h=>z7q hg hg' h
theorem zbJ{op op':CmpOp}{r r':R2}{ma mb mc:M D}{g g':D->D->M D}(ho:OpR X (compareOp op) r)(hg:z2w G F r g)(ho':OpR X (compareOp op') r')(hg':z2w G F r' g')(ha:SE X G F a ma)(hb:SE X G F b mb)(hc:SE X G F c mc)
 (hm:lastMarks [op,op'] [b,c]=false:=by with_unfolding_all rfl):SB X G F (.Compare a [op,op'] [b,c] pos) (mBoo (z0y ma mb mc g g')):=
 PT.imp0 (zbu ho ho' ha hb hc hm) fun _ _ _ h=>z7q hg hg' (zag h)
end
noncomputable def lenD:List D->M D
 |[.tup ds]=>rt (.int ds.length)
 |[.ro ds]=>rt (.int ds.length)
 |[.lst _ ds]=>rt (.int ds.length)
 |_=>fl
noncomputable def absD:List D->M D
 |[.int i]=>rt (.int (if i<0 then -i else i))
 |_=>fl
noncomputable def minD:List D->M D
 |[.int i, .int j]=>rt (.int (if j<i then j else i))
 |_=>fl
noncomputable def z1s:List D->Option (List Bool)
 |[]=>some []
 | .bool b::r=>(z1s r).map (b:: ·)
 |_=>none
noncomputable def allD:List D->M D
 |[.lst _ ds]=>match z1s ds with|some bs=>rt (.bool (bs.all id))|none=>fl
 |_=>fl
noncomputable def anyD:List D->M D
 |[.lst _ ds]=>match z1s ds with|some bs=>rt (.bool (bs.any id))|none=>fl
 |_=>fl
noncomputable def intD:List D->M D
 |[.int i]=>rt (.int i)
 |[.bool b]=>rt (.int (if b then 1 else 0))
 |_=>fl
noncomputable def tupF:List D->M D
 |[.tup ds]=>rt (.tup ds)
 |[.ro ds]=>rt (.tup ds)
 |[.lst _ ds]=>rt (.tup ds)
 |_=>fl
section
variable{X:Cx}{G:Gx}{F:Fy}{e a b c:Expr}{pos:Pos}
theorem MRL.one{ρ:Nat->Addr}{H:Hp}{σv tv:List (Option V)}{s:Stt}{t:D}{vs:List V}(M:MRL G F.toFx ρ H σv tv s [t] vs): ∃v,vs=[v]/\RD G ρ H t v/\LB F.toFx ρ s.n (labs t):=by
 have h:=M.rd
 simp only[RDs] at h
 obtain⟨v,r,rfl,h,rfl⟩:=h
 exact⟨v,rfl,h,M.lb1⟩
theorem MRL.two{ρ:Nat->Addr}{H:Hp}{σv tv:List (Option V)}{s:Stt}{t t':D}{vs:List V}(M:MRL G F.toFx ρ H σv tv s [t,t'] vs): ∃v u,vs=[v,u]/\RD G ρ H t v/\RD G ρ H t' u:=by
 have h:=M.rd
 simp only[RDs] at h
 obtain⟨v,r,rfl,h,u,q,rfl,h',rfl⟩:=h
 exact⟨v,u,rfl,h,h'⟩
theorem zfx:z2R G F (fun xs H Q=> ∃p ys,xs=[.ref p]/\(SqL G.K H p ys\/SqT G.K H p ys)/\Q (.int ys.length) H) lenD:=by
 intro ρ s ts vs H σv tv Q M W
 unfold lenD at W
 split at W
 ·obtain⟨v,rfl,h,_⟩:=M.one
  obtain⟨p,xs,rfl,s1,r1,_⟩:=h.seq rfl
  exact⟨p,xs,rfl,s1,fun _=>by rw[<-r1.length];exact W.flat M.m rfl⟩
 ·obtain⟨v,rfl,h,_⟩:=M.one
  obtain⟨p,xs,rfl,s1,r1,_⟩:=h.seq rfl
  exact⟨p,xs,rfl,s1,fun _=>by rw[<-r1.length];exact W.flat M.m rfl⟩
 ·obtain⟨v,rfl,h,_⟩:=M.one
  obtain⟨p,xs,rfl,s1,r1,_⟩:=h.seq rfl
  exact⟨p,xs,rfl,s1,fun _=>by rw[<-r1.length];exact W.flat M.m rfl⟩
 ·exact wfl W
theorem zfy:z2R G F (fun xs H Q=> ∃i,xs=[.int i]/\Q (.int (if i<0 then -i else i)) H) absD:=by
 intro ρ s ts vs H σv tv Q M W
 unfold absD at W
 split at W
 ·obtain⟨v,rfl,h,_⟩:=M.one
  simp only[RD] at h
  subst h
  exact⟨_,rfl,fun _=>W.flat M.m rfl⟩
 ·exact wfl W
theorem zfz:z2R G F (fun xs H Q=> ∃i j,xs=[.int i, .int j]/\Q (.int (if j<i then j else i)) H) minD:=by
 intro ρ s ts vs H σv tv Q M W
 unfold minD at W
 split at W
 ·obtain⟨v,u,rfl,h,h'⟩:=M.two
  simp only[RD] at h h'
  subst h h'
  exact⟨_,_,rfl,fun _=>W.flat M.m rfl⟩
 ·exact wfl W
theorem z4n{ρ:Nat->Addr}{H:Hp}: ∀{ds:List D} {xs:List V} {bs:List Bool},RDs G ρ H ds xs->z1s ds=some bs->xs=bs.map V.bl
 |[],xs,bs,r,e=>by simp only[RDs] at r;simp only[z1s,Option.some.injEq] at e;subst r e;rfl
 |d::ds,xs,bs,r,e=>by
  simp only[RDs] at r
  obtain⟨x,q,rfl,h1,h2⟩:=r
  cases d with
  |bool b=>
   simp only[z1s] at e
   cases e1:z1s ds with
   |none=>rw[e1] at e;cases e
   |some cs=>
    rw[e1] at e
    cases e
    simp only[RD] at h1
    rw[h1,z4n h2 e1];rfl
  |_=>simp only[z1s] at e;cases e
theorem zfA:z2R G F (fun xs H Q=> ∃(p:Addr) (bs:List Bool),xs=[.ref p]/\SqL G.K H p (bs.map V.bl)/\Q (.bl (bs.all id)) H) allD:=by
 intro ρ s ts vs H σv tv Q M W
 unfold allD at W
 split at W
 ·rename_i l ds
  cases e1:z1s ds with
  |none=>rw[e1] at W;exact False.elim W
  |some bs=>
   rw[e1] at W
   obtain⟨v,rfl,h,_⟩:=M.one
   obtain⟨p,xs,rfl,s1,r1,_⟩:=h.lstq (ds:=ds) rfl
   rw[z4n r1 e1] at s1
   exact⟨p,bs,rfl,s1,fun _=>W.flat M.m rfl⟩
 ·exact wfl W
theorem zfB:z2R G F (fun xs H Q=> ∃(p:Addr) (bs:List Bool),xs=[.ref p]/\SqL G.K H p (bs.map V.bl)/\Q (.bl (bs.any id)) H) anyD:=by
 intro ρ s ts vs H σv tv Q M W
 unfold anyD at W
 split at W
 ·rename_i l ds
  cases e1:z1s ds with
  |none=>rw[e1] at W;exact False.elim W
  |some bs=>
   rw[e1] at W
   obtain⟨v,rfl,h,_⟩:=M.one
   obtain⟨p,xs,rfl,s1,r1,_⟩:=h.lstq (ds:=ds) rfl
   rw[z4n r1 e1] at s1
   exact⟨p,bs,rfl,s1,fun _=>W.flat M.m rfl⟩
 ·exact wfl W
theorem zfC:z2R G F (fun xs H Q=>(∃i,xs=[.int i]/\Q (.int i) H)\/∃k,xs=[.bl k]/\Q (.int (if k then 1 else 0)) H) intD:=by
 intro ρ s ts vs H σv tv Q M W
 unfold intD at W
 split at W
 ·obtain⟨v,rfl,h,_⟩:=M.one
  simp only[RD] at h
  subst h
  exact .inl ⟨_,rfl,fun _=>W.flat M.m rfl⟩
 ·obtain⟨v,rfl,h,_⟩:=M.one
  simp only[RD] at h
  subst h
  exact .inr ⟨_,rfl,fun _=>W.flat M.m rfl⟩
 ·exact wfl W
theorem zdE:z2R G F (fun xs H Q=> ∃(p:Addr) (ys:List V),xs=[.ref p]/\(SqL G.K H p ys\/H p=some (.tup ys))/\NewX G.K H ys Q) tupF:=by
 intro ρ s ts vs H σv tv Q M W
 have fin: ∀(t:D) (ds:List D),ts=[t]->seqD t=some ds->wM G F σv tv (.ok (.tup ds) s) Q->∃(p:Addr) (ys:List V),vs=[.ref p]/\(SqL G.K H p ys\/H p=some (.tup ys))/\NewX G.K H ys (fun w H'=>KD G.K H'->Q w H'):=fun t ds et es W'=>by
  subst et
  obtain⟨v,rfl,h,lb⟩:=M.one
  obtain⟨p,xs,rfl,s1,r1,sub⟩:=h.seqx es
  exact⟨p,xs,rfl,s1,z6G W' M.m r1 fun l hl=>lb l (sub l hl)⟩
 unfold tupF at W
 split at W
 ·exact fin _ _ rfl rfl W
 ·exact fin _ _ rfl rfl W
 ·exact fin _ _ rfl rfl W
 ·exact wfl W
noncomputable def isiD(T:String):D->Option Bool
 | .non=>some false
 | .bool _=>some (T== "int" ||T== "bool")
 | .int _=>some (T== "int")
 | .str _=>some (T== "str")
 | .tup _=>some (T== "tuple")
 | .ro _=>some (T== "list")
 | .lst _ _=>some (T== "list")
 |_=>none
noncomputable def mIsi(T:String)(m:M D):M D:=bd m fun d=>match isiD T d with|some b=>rt (.bool b)|none=>fl
theorem zfD{ρ:Nat->Addr}{H:Hp}{t:D}{v:V}{T:String}{b:Bool}(h:RD G ρ H t v)(e:isiD T t=some b):isiV G.K H T b v:=by
 cases t<;>simp only[isiD,Option.some.injEq] at e<;>try cases e
 ·simp only[RD] at h;subst h;exact rfl
 ·simp only[RD] at h;subst h;exact rfl
 ·simp only[RD] at h;subst h;exact rfl
 ·simp only[RD] at h;subst h;exact rfl
 ·obtain⟨p,xs,rfl,s1,r1⟩:=h.tupq
  exact .inl ⟨xs,s1,rfl⟩
 ·obtain⟨p,xs,rfl,s1,r1,_⟩:=h.lstq rfl
  exact .inr ⟨xs,s1,rfl⟩
 ·obtain⟨p,xs,rfl,s1,r1,_⟩:=h.lstq rfl
  exact .inr ⟨xs,s1,rfl⟩
theorem se_isi{p:Pos}{x y:Expr}{T:String}{m:M D}(hk:X.K=G.K)(hT:T= "int" \/T= "bool" \/T= "tuple" \/T= "list" \/T= "str")(hgl:Gl X "isinstance")(hm:X.mg "isinstance" =none)(ha:SE X G F x m)(hy:PE X y (tC (.ty T)))
 (he:starEach [x,y] X.env=(false,eval x X.env)::starEach [y] X.env:=by rfl) (he2:starEach [y] X.env=(false,eval y X.env)::starEach [] X.env:=by rfl) (hpl:(backTo pos (starEach [y] X.env)).any (·.1)=false:=by rfl):SE X G F (.Call (.Name "isinstance" p) [x,y] [] pos) (mIsi T m):=by
 refine PE.imp hk (z5d zbF hgl hm PyProof.Rows.Boot.«isinstance» (z0q ha (z0q hy z5l he2) he) (by decide) (by decide) he hpl) fun σ H Q ⟨tv,h⟩=>⟨tv,(z6F h).mono fun v H1 ⟨ρ1,s1,t,M1,W⟩=> ?_⟩
 cases e:isiD T t with
 |none=>simp only[e] at W;exact False.elim W
 |some b=>
  simp only[e] at W
  rw[hk]
  exact⟨v,T,b,rfl,hT,zfD M1.rd1 e,fun _=>W.flat M1.m rfl⟩
end
inductive RS where
 |nx (s:Stt)|rt (d:D) (s:Stt)|bk (s:Stt)|ct (s:Stt)|ex (d:D) (s:Stt)|no
noncomputable abbrev MS:=Stt->RS
noncomputable def lift{α:Type}(m:M α)(f:α->MS):MS:=fun s=>match m s with
 | .ok a s'=>f a s'
 | .ex d s'=> .ex d s'
 | .no=> .no
noncomputable def seqS(m m':MS):MS:=fun s=>match m s with
 | .nx s'=>m' s'
 |r=>r
noncomputable def sNx:MS:=fun s=> .nx s
noncomputable def z6H(m:M D):MS:=lift m fun _=>sNx
noncomputable def sRet(m:M D):MS:=lift m fun d s=> .rt d s
noncomputable def iteS(b:Bool)(m m':MS):MS:=match b with|true=>m|false=>m'
noncomputable def sIf(c:M Bool)(m m':MS):MS:=lift c fun b=>iteS b m m'
inductive Tg where
 |nm (i:Nat)|tp (ts:List Tg)
mutual
noncomputable def asg:Tg->D->List (Option D)->Option (List (Option D))
 | .nm i,t,σ=>some (σ.set i (some t))
 | .tp ts, .tup ds,σ=>asgL ts ds σ
 | .tp ts, .lst _ ds,σ=>asgL ts ds σ
 | .tp _,_,_=>none
noncomputable def asgL:List Tg->List D->List (Option D)->Option (List (Option D))
 |[],[],σ=>some σ
 |t::ts,d::ds,σ=>match asg t d σ with|some σ'=>asgL ts ds σ'|none=>none
 |_,_,_=>none
end
noncomputable def sAsg(g:Tg)(m:M D):MS:=lift m fun d s=>match asg g d s.σ with
 |some σ'=> .nx {s with σ:=σ'}
 |none=> .no
section
variable{X:Cx}{G:Gx}{F:Fy}{e a b c:Expr}{st:Stmt}{sts rest:List Stmt}{pos:Pos}
noncomputable def wS(G:Gx)(F:Fy)(tv:List (Option V))(r:RS)(D:Ends):Prop:=match r with
 | .nx s'=> ∀ρ' σv' H',MR G F.toFx ρ' H' σv' tv s'->D.nx σv' H'
 | .rt t s'=> ∀ρ' σv' v H',MRL G F.toFx ρ' H' σv' tv s' [t] [v]->D.rt v H'
 | .bk s'=> ∀ρ' σv' H',MR G F.toFx ρ' H' σv' tv s'->D.bk σv' H'
 | .ct s'=> ∀ρ' σv' H',MR G F.toFx ρ' H' σv' tv s'->D.ct σv' H'
 | .ex d s'=>F.xw d s'
 | .no=>False
noncomputable def tSv(G:Gx)(F:Fy)(m:MS)(tv:List (Option V))(D:Ends)(σv:St)(H:Hp):Prop:=F.tv0<:+tv/\∃ρ s,MR G F.toFx ρ H σv tv s/\wS G F tv (m s) D
noncomputable def tS(G:Gx)(F:Fy)(m:MS):TS:=fun D σv H=> ∃tv,tSv G F m tv D σv H
noncomputable def SS(X:Cx)(G:Gx)(F:Fy)(st:Stmt)(m:MS):Prop:=PS X st (tS G F m)
noncomputable def SSs(X:Cx)(G:Gx)(F:Fy)(sts:List Stmt)(m:MS):Prop:=PSs X sts (tS G F m)
theorem PS.imp0{t t':TS}(h:PS X st t)(hi: ∀D σ H,t' D σ H->t D σ H):PS X st t':=fun pins s σ H D I q=>h pins s σ H D I (hi D σ H q)
theorem PSs.imp0{t t':TS}(h:PSs X sts t)(hi: ∀D σ H,t' D σ H->t D σ H):PSs X sts t':=fun pins s σ H D I q=>h pins s σ H D I (hi D σ H q)
theorem ss_nil:SSs X G F [] sNx:=PSs.imp0 zd3 fun D σ H ⟨tv,hs,ρ,s,M,W⟩=>W ρ σ H M
theorem ss_cons{m m':MS}(h1:SS X G F st m)(h2:SSs X G F rest m'):SSs X G F (st::rest) (seqS m m'):=by
 refine PSs.imp0 (zbr h1 h2) fun D σ H ⟨tv,hs,ρ,s,M,W⟩=>⟨tv,hs,ρ,s,M, ?_⟩
 unfold seqS at W
 cases e:m s with
 |nx s'=>rw[e] at W;exact fun ρ' σv' H' M'=>⟨tv,hs,ρ',s',M',W⟩
 |rt d s'=>rw[e] at W;exact W
 |bk s'=>rw[e] at W;exact W
 |ct s'=>rw[e] at W;exact W
 |ex d s'=>rw[e] at W;exact W
 |no=>rw[e] at W;exact W
theorem ss_one{m:MS}(h1:SS X G F st m):SSs X G F [st] m:=zd4 h1
theorem z3P{m:M D}{f:D->MS}{tv:List (Option V)}{D:Ends}{σ:St}{H:Hp}(h:tSv G F (lift m f) tv D σ H):tMv G F m σ tv H fun v H1=> ∃ρ1 s1 t,MRL G F.toFx ρ1 H1 σ tv s1 [t] [v]/\wS G F tv (f t s1) D:=by
 obtain⟨hs,ρ,s,M,W⟩:=h
 refine⟨hs,ρ,s,M, ?_⟩
 unfold lift at W
 cases e:m s with
 |ok t s1=>rw[e] at W;exact fun ρ1 v H1 M1=>⟨ρ1,s1,t,M1,W⟩
 |ex d s1=>rw[e] at W;exact W
 |no=>rw[e] at W;exact W
theorem zah{m:M Bool}{f:Bool->MS}{tv:List (Option V)}{D:Ends}{σ:St}{H:Hp}(h:tSv G F (lift m f) tv D σ H):tBv G F m σ tv H fun b H1=> ∃ρ1 s1,MR G F.toFx ρ1 H1 σ tv s1/\wS G F tv (f b s1) D:=by
 obtain⟨hs,ρ,s,M,W⟩:=h
 refine⟨hs,ρ,s,M, ?_⟩
 unfold lift at W
 cases e:m s with
 |ok t s1=>rw[e] at W;exact fun ρ1 H1 M1=>⟨ρ1,s1,M1,W⟩
 |ex d s1=>rw[e] at W;exact W
 |no=>rw[e] at W;exact W
theorem ss_expr{m:M D}(he:SE X G F e m)(hs:swapsWith e none pos.line X.env=pure false:=by rfl):SS X G F (.Expr e pos) (z6H m):=
 PS.imp0 (zd5 he hs) fun D σ H ⟨tv,h⟩=>⟨tv,(z3P h).mono fun v H1 ⟨ρ1,s1,t,M1,W⟩=>W ρ1 σ H1 M1.m⟩
theorem ss_ret{m:M D}(he:SE X G F e m):SS X G F (.Return (some e) pos) (sRet m):=
 PS.imp0 (zeN he) fun D σ H ⟨tv,h⟩=>⟨tv,(z3P h).mono fun v H1 ⟨ρ1,s1,t,M1,W⟩=>W ρ1 σ v H1 M1⟩
theorem ss_if{x y:List Stmt}{mc:M Bool}{m m':MS}(hc:SB X G F c mc)(ha:SSs X G F x m)(hb:SSs X G F y m'):SS X G F (.If c x y pos) (sIf mc m m'):=by
 refine PS.imp0 (zhh hc ha hb) fun D σ H ⟨tv,h⟩=>⟨tv,(zah h).mono fun k H1 ⟨ρ1,s1,M1,W⟩=> ?_⟩
 cases k with
 |true=>rw[if_pos rfl];exact⟨tv,h.1,ρ1,s1,M1,W⟩
 |false=>rw[if_neg Bool.false_ne_true];exact⟨tv,h.1,ρ1,s1,M1,W⟩
noncomputable def tGn(G:Gx)(F:Fy)(g:Tg):TG:=fun v σv H Q=> ∃tv ρ s t,MRL G F.toFx ρ H σv tv s [t] [v]/\∃σ',asg g t s.σ=some σ'/\∀σv',MR G F.toFx ρ H σv' tv {s with σ:=σ'}->Q σv' H
noncomputable def tGs(G:Gx)(F:Fy)(g:List Tg):TGs:=fun vs σv H Q=> ∃tv ρ s ts,MRL G F.toFx ρ H σv tv s ts vs/\∃σ',asgL g ts s.σ=some σ'/\∀σv',MR G F.toFx ρ H σv' tv {s with σ:=σ'}->Q σv' H
noncomputable def SG(X:Cx)(G:Gx)(F:Fy)(tg:Expr)(g:Tg):Prop:=PG X tg (tGn G F g)
noncomputable def SGs(X:Cx)(G:Gx)(F:Fy)(tgs:List Expr)(g:List Tg):Prop:=PGs X tgs (tGs G F g)
theorem MRL.setS{ρ:Nat->Addr}{H:Hp}{σv tv:List (Option V)}{s:Stt}{t:D}{v:V}{ts:List D}{vs:List V}(i:Nat)(M:MRL G F.toFx ρ H σv tv s (t::ts) (v::vs)):MRL G F.toFx ρ H (σv.set i (some v)) tv {s with σ:=s.σ.set i (some t)} ts vs:=by
 have h:=M.rd
 simp only[RDs] at h
 obtain⟨_,_,e,h1,h2⟩:=h
 cases e
 have lb1: ∀l∈labs t,l<s.n/\(F.A0 (ρ l)\/F.H0 (ρ l)=none):=fun l h=>M.lb l (by simp only[z02];exact List.mem_append_left _ h)
 have all: ∀l∈z1p {s with σ:=s.σ.set i (some t)},l<s.n/\(F.A0 (ρ l)\/F.H0 (ρ l)=none):=fun l h=>by
  rcases List.mem_append.mp h with h|h
  ·rcases z5s l h with q|q
   ·exact⟨M.m.lab l (List.mem_append_left _ q),M.m.own l (List.mem_append_left _ q)⟩
   ·exact lb1 l q
  ·exact⟨M.m.lab l (List.mem_append_right _ h),M.m.own l (List.mem_append_right _ h)⟩
 exact⟨⟨M.m.sl.set i h1,M.m.tm,M.m.inj,M.m.dom,fun l h=>(all l h).1,fun l h=>(all l h).2,M.m.frm,M.m.kd,M.m.frb,M.m.bas⟩,h2,fun l h=>M.lb l (by simp only[z02];exact List.mem_append_right _ h)⟩
theorem sg_name{i:Nat}{x:Str}{p:Pos}(h:PG X (.Name x p) (z9d i)):SG X G F (.Name x p) (.nm i):=by
 intro pins s σ H v u Q I r ⟨tv,ρ,ms,t,M,σ',e,k⟩
 simp only[asg,Option.some.injEq] at e
 subst e
 exact h pins s σ H v u Q I r (k _ (M.setS i).m)
theorem sgs_nil:SGs X G F [] []:=by
 intro pins s σ H vs us Q I r ⟨tv,ρ,ms,ts,M,σ',e,k⟩
 cases ts with
 |nil=>
  simp only[asgL,Option.some.injEq] at e
  subst e
  have h:=M.rd
  simp only[RDs] at h
  exact zd6 pins s σ H vs us Q I r ⟨h,k _ M.m⟩
 |cons d ds=>simp only[asgL] at e;cases e
theorem MRL.cons_inv{ρ:Nat->Addr}{H:Hp}{σv tv:List (Option V)}{s:Stt}{t:D}{ts:List D}{vs:List V}(M:MRL G F.toFx ρ H σv tv s (t::ts) vs): ∃v r,vs=v::r/\MRL G F.toFx ρ H σv tv s [t] [v]/\RDs G ρ H ts r/\LB F.toFx ρ s.n (z02 ts):=by
 have h:=M.rd
 simp only[RDs] at h
 obtain⟨v,r,rfl,h1,h2⟩:=h
 exact⟨v,r,rfl,⟨M.m,RDs.one h1,fun l h=>M.lb l (by simp only[z02,List.append_nil] at h⊢;exact List.mem_append_left _ h)⟩,h2,fun l h=>M.lb l (by simp only[z02];exact List.mem_append_right _ h)⟩
theorem PGs.imp0{es:List Expr}{t t':TGs}(h:PGs X es t)(hi: ∀vs σ H Q,t' vs σ H Q->t vs σ H Q):PGs X es t':=fun pins s σ H vs us Q I r q=>h pins s σ H vs us Q I r (hi vs σ H Q q)
theorem PG.imp0{t t':TG}(h:PG X e t)(hi: ∀v σ H Q,t' v σ H Q->t v σ H Q):PG X e t':=fun pins s σ H v u Q I r q=>h pins s σ H v u Q I r (hi v σ H Q q)
theorem sgs_cons{es:List Expr}{g:Tg}{gs:List Tg}(h1:SG X G F e g)(h2:SGs X G F es gs)(hs:(assignEach (e::es) X.env).map (·.2)=assign e X.env::(assignEach es X.env).map (·.2):=by rfl):SGs X G F (e::es) (g::gs):=by
 refine PGs.imp0 (zbs h1 h2 hs) fun vs σv H Q ⟨tv,ρ,s,ts,M,σ',e,k⟩=> ?_
 cases ts with
 |nil=>simp only[asgL] at e;cases e
 |cons d ds=>
  simp only[asgL] at e
  cases e1:asg g d s.σ with
  |none=>rw[e1] at e;cases e
  |some σ1=>
   rw[e1] at e
   obtain⟨v,r,rfl,M1,h2,lb⟩:=M.cons_inv
   exact⟨v,r,rfl,tv,ρ,s,d,M1,σ1,e1,fun σv1 M2=>⟨tv,ρ,{s with σ:=σ1},ds,⟨M2,h2,lb⟩,σ',e,k⟩⟩
theorem sg_tup{es:List Expr}{k:Nat}{gs:List Tg}(hk:X.K=G.K)(hc:X.calm=true)(h:SGs X G F es gs)(hn:(assignEach es X.env).length=gs.length:=by rfl)(hst:(assignEach es X.env).findIdx? (·.1)=none:=by rfl):SG X G F (.Tuple es k pos) (.tp gs):=by
 refine PG.imp0 (zfi hc h hn hst) fun v σv H Q ⟨tv,ρ,s,t,M,σ',e,kk⟩=> ?_
 have len: ∀{gs:List Tg} {ds:List D} {σ σ':List (Option D)},asgL gs ds σ=some σ'->ds.length=gs.length:=by
  intro gs
  induction gs with
  |nil=>intro ds σ σ' e;cases ds with
   |nil=>rfl
   |cons _ _=>simp only[asgL] at e;cases e
  |cons g gs ih=>intro ds σ σ' e;cases ds with
   |nil=>simp only[asgL] at e;cases e
   |cons d ds=>
    simp only[asgL] at e
    cases e1:asg g d σ with
    |none=>rw[e1] at e;cases e
    |some σ1=>rw[e1] at e;rw[List.length_cons,List.length_cons,ih e]
 cases t with
 |tup ds=>
  simp only[asg] at e
  obtain⟨a,xs,rfl,sq,r⟩:=M.rd1.tupq
  refine⟨a,xs,rfl, .inl (hk▸sq),by rw[<-r.length];exact len e,tv,ρ,s,ds,⟨M.m,r,fun l h=>M.lb1 l (by simp only[labs];exact h)⟩,σ',e,kk⟩
 |lst l ds=>
  simp only[asg] at e
  obtain⟨a,xs,rfl,sq,r,sub⟩:=M.rd1.lstq (ds:=ds) rfl
  refine⟨a,xs,rfl, .inr (hk▸sq),by rw[<-r.length];exact len e,tv,ρ,s,ds,⟨M.m,r,fun l h=>M.lb1 l (sub l h)⟩,σ',e,kk⟩
 |_=>simp only[asg] at e;cases e
theorem ss_asg{tg:Expr}{g:Tg}{m:M D}(he:SE X G F e m)(hg:SG X G F tg g)(hs:swapsWithSole [tg] e pos.line X.env=pure false:=by rfl)(hw:swappedStores [tg] e X.env=pure none:=by rfl)
 (h1:(assignEach [tg] X.env).map (·.2)=[assign tg X.env]:=by rfl):SS X G F (.Assign [tg] e pos) (sAsg g m):=by
 refine PS.imp0 (zcw he hg hs hw h1) fun D σ H ⟨tv,h⟩=>⟨tv,(z3P h).mono fun v H1 ⟨ρ1,s1,t,M1,W⟩=> ?_⟩
 cases e:asg g t s1.σ with
 |none=>simp only[e] at W;exact False.elim W
 |some σ'=>
  simp only[e] at W
  exact⟨tv,ρ1,s1,t,M1,σ',e,fun σv' M2=>W ρ1 σv' H1 M2⟩
theorem ss_set{i:Nat}{x:Str}{p:Pos}{m:M D}(h: ∀{te:TE},PE X e te->PS X (.Assign [.Name x p] e pos) (tAsg te (z9d i)))(he:SE X G F e m):SS X G F (.Assign [.Name x p] e pos) (sAsg (.nm i) m):=by
 refine PS.imp0 (h he) fun D σ H ⟨tv,h⟩=>⟨tv,(z3P h).mono fun v H1 ⟨ρ1,s1,t,M1,W⟩=> ?_⟩
 simp only[asg] at W
 exact W ρ1 _ H1 (M1.setS i).m
end
end Mi
namespace L2
open PySem PySem.Spec PyProof.Rows
noncomputable abbrev zai(ifs:List Expr)(env:Env):Sem Bool:=forIn ifs true fun c r=>if r=true then do let ok<-isTrue c env (eval c env);pure (ForInStep.yield ok) else pure (ForInStep.yield r)
theorem z27{prog:Program}{w:World}{A:Around}{R:Result->Shared->Prop}{s:Shared}{elt target iter:Expr}{ifs:List Expr}{scope:Scope}{pos:Pos}{it acc:Value}{env:Env}(I:Nat->Shared->Prop)
 (turn: ∀n s,I n s->wpAny (model prog w) A (pyNext it) (fun r s₁=>match r with
  |none=>R (.ok .next) s₁
  |some v=>wpAny (model prog w) A (letOwnedTupleGo target it v) (fun _ s₁=>wpAny (model prog w) A (assign target env v) (fun _ s₂=>wpAny (model prog w) A (zai ifs env) (fun ok s₃=>
   if ok=true then wpAny (model prog w) A (eval elt env) (fun x s₃=>
   wpAny (model prog w) A (call (.builtin "list.append") [acc,x]) (fun _ s₄=> ∃m,m<n/\I m s₄) (fun _ _=>False) s₃)
   (fun _ _=>False) s₃ else ∃m,m<n/\I m s₃) (fun _ _=>False) s₂) (fun _ _=>False) s₁) (fun _ _=>False) s₁) (fun _ _=>False) s)
 (n:Nat) (h:I n s):
 codeAny (model prog w) A (.compLoop (.ListComp elt [⟨target,iter,ifs,0⟩] scope pos) 0 it acc env) R s:=by
 refine codeAny_loop rfl I (fun n s hI=> ?_) n h
 show wpAny _ _ ((compTurn (.ListComp elt [⟨target,iter,ifs,0⟩] scope pos) 0 it acc env).onRaise (fun x=>do noteFrame x env;theTreesLotGoes x)) _ _ s
 refine wpAny_noted ?_
 rw[compTurn_list]
 refine wpAny_bind (wpAny_standAt (wpAny_bind (wpAny_mono (turn n s hI) (fun r s₁ h₁=> ?_) fun _ _ h'=>h'.elim)))
 cases r with
 |none=>exact wpAny_pure h₁
 |some v=>
  refine wpAny_bind (wpAny_mono h₁ (fun _ s₁ h₁=> ?_) fun _ _ h'=>h'.elim)
  refine wpAny_bind (wpAny_mono h₁ (fun _ s₂ h₂=>wpAny_bind (wpAny_mono h₂ (fun ok s₃ h₃=> ?_) fun _ _ h'=>h'.elim)) fun _ _ h'=>h'.elim)
  cases ok with
  |false=>exact wpAny_pure ⟨rfl,h₃⟩
  |true=>
   exact wpAny_bind (wpAny_bind (wpAny_mono h₃ (fun x s₄ h₄=>wpAny_bind (wpAny_mono h₄ (fun _ s₅ h₅=>wpAny_pure (wpAny_pure ⟨rfl,h₅⟩)) fun _ _ h'=>h'.elim)) fun _ _ h'=>h'.elim))
noncomputable def PTs(X:Cx)(ifs:List Expr)(t:TT):Prop:=
 ∀(pins:List (Addr×Obj)) (s:Shared) (σ:St) (H:Hp) (Q:Bool->Hp->Prop),Inv X pins σ H s->t σ H Q->wpAny (model X.prog X.w) X.A (zai ifs X.env) (TP X pins σ Q) X.xe s
theorem zdF{X:Cx}:PTs X [] (fun _ H Q=>Q true H):=fun pins s σ H Q I h=>wpAny_tests_nil ⟨H,I,h⟩
theorem zdG{X:Cx}{c:Expr}{t:TT}(h:PT X c t):PTs X [c] t:=fun pins s σ H Q I q=>wpAny_tests_one (h pins s σ H Q I q)
section
variable{X:Cx}{tg iter elt:Expr}{ifs:List Expr}{pos:Pos}{scope:Scope}{own frees:List Str}{ix:List Nat}{wi:TI}{g:TG}{tt:TT}{te:TE}
noncomputable def zaj(K:W.Frag)(wi:TI)(g:TG)(tt:TT)(te:TE)(k:Nat)(ix:List Nat):TE:=fun σ H Q=>wi σ H fun J H1=> ∀D,H1 D=none->(∀a o,K.lookup a=some o->upd H1 D (.lst []) a=none)->
 ∃W:Nat->Nat->List V->St->Hp->Prop,(∃m,W 0 m [] (z3V k ix σ) (upd H1 D (.lst [])))/\
  ∀i m ys σ' H',W i m ys σ' H'->H' D=some (.lst ys)/\((J.stop i H'/\Q (.ref D) H')\/
   (J.go i H'/\∀x H2,J.yld i H' x H2->g x σ' H2 fun σ2 H3=>tt σ2 H3 fun ok H3=>if ok=true then te σ2 H3 fun y H4=>H4 D=some (.lst ys)/\ys.length<sizeLine/\∃m',m'<m/\W (i+1) m' (ys++[y]) σ2 (upd H4 D (.lst (ys++[y])))
    else ∃m',m'<m/\W (i+1) m' ys σ2 H3))
theorem zak(hc:X.calm=true)(S:z1P X.env.scope scope own frees X.N ix)(hi:PI X tg iter wi)
 (hg: ∀cl C s₀ H₀ fp pn,PG (z0T X scope own frees cl C s₀ H₀ fp pn) tg g) (ht: ∀cl C s₀ H₀ fp pn,PTs (z0T X scope own frees cl C s₀ H₀ fp pn) ifs tt) (he: ∀cl C s₀ H₀ fp pn,PE (z0T X scope own frees cl C s₀ H₀ fp pn) elt te)
 (hs: ∀x,foldedSetIterable iter X.env x=pure x:=by intro _;rfl):
 PE X (.ListComp elt [⟨tg,iter,ifs,0⟩] scope pos) (zaj X.K wi g tt te own.length ix):=by
 intro pins s σ H Q I h
 have hclos:closureFor scope X.env=pure (z2P X.env scope.names []):=z4l fun y hy e=>I.ok.has y.1 (S.fr y hy e)
 rw[eval_ListComp]
 refine wpAny_comprehension_free (use:=none) rfl hs hclos S.kind S.names (thn (hi pins s σ H _ I h) fun v s1 h1=>thn h1 fun itv s2 h2=> ?_)
 obtain⟨it,fp,tn,J,H2,e,I2,T,st2,f2,hD⟩:=h2
 subst e
 refine wpAny_newObj_type ?_
 have I3:Inv X pins σ (upd H2 s2.heap.objs.size (.lst [])) {s2 with heap:=s2.heap.push {cls:= .type "list",data:= .seq ([]:List Value).toArray}}:=I2.lnew (t':=s2.toks) .nil (Nat.zero_le _)
 have nD:H2 s2.heap.objs.size=none:=I2.fresh
 obtain⟨W,⟨m0,w0⟩,turn⟩:=hD _ nD fun a o e=>(I3.bs a o (I3.ok.mod.kin a o e)).2
 have fpl: ∀b∈fp,b<s2.heap.objs.size:=fun b z=>by
  obtain⟨o,q,_⟩:=T.obj _ _ st2 b z
  exact Heap.lt_size q
 generalize hs3:({s2 with heap:=s2.heap.push {cls:= .type "list",data:= .seq ([]:List Value).toArray}}:Shared)=s3 at I3
 have hpush: ∀b o,s2.heap.get? b=some o->s3.heap.get? b=some o:=fun b o q=>by rw[<-hs3];exact Heap.get?_push_of_some _ q
 have hsz3:s2.heap.objs.size<s3.heap.objs.size:=by rw[<-hs3];show _<(s2.heap.push _).objs.size;rw[Heap.size_push];exact Nat.lt_succ_self _
 have f3: ∀b∈fp,FpOk X pins (upd H2 s2.heap.objs.size (.lst [])) b:=fun b z=>⟨by rw[z0c (Nat.ne_of_lt (fpl b z))];exact(f2 b z).1,(f2 b z).2⟩
 have st3:tn 0 s3.heap:=T.keep _ _ _ st2 fun b _ o q=>hpush b o q
 generalize hDd:s2.heap.objs.size=D at*
 generalize hH3:upd H2 D (.lst [])=H3 at*
 have goal:wpAny (model X.prog X.w) X.A (newFunctionEnv scope X.env.globals (z2P X.env scope.names []) [] X.env.qual none .none (some X.env)) (fun cenv s₄=>
  codeAny (model X.prog X.w) X.A (.compStart (.ListComp elt [⟨tg,iter,ifs,0⟩] scope pos) 0 (.ref it) (.ref D) {cenv with scope:=relabel scope X.env}) (compPost (model X.prog X.w) X.A X.xe none (EP X pins σ Q) (.ref D) cenv.locals) s₄) X.xe s3:=by
  refine wpAny_newFunctionEnv S.nocell (by intro y hy;simp at hy) (fun h1 hns hsb=> ?_) S.kind
  have hns:h1.Ns s3.heap.objs.size (fun _=>none):=hns
  have keep4: ∀b o,s3.heap.get? b=some o->h1.get? b=some o:=fun b o q=>hsb.extBut b o (Nat.ne_of_lt (Heap.lt_size q)) (Heap.get?_push_of_some _ q)
  have fpl3: ∀b∈fp,b<s3.heap.objs.size:=fun b z=>Nat.lt_trans (fpl b z) hsz3
  generalize hs4:({s3 with heap:=h1,toks:=s3.toks+([]:List (Str×Value)).length}:Shared)=s4
  have I4:Inv (z0T X scope own frees (z2P X.env scope.names []) s3.heap.objs.size s3 H3 fp (X.pn++pins)) [] (z3V own.length ix σ) H3 s4:=
   z6q S I3 f3 fpl3 (by rw[<-hs4]) (by rw[<-hs4]) (fun b o q=>by rw[<-hs4];exact keep4 b o q) (by rw[<-hs4];exact hns)
  have st4:tn 0 s4.heap:=T.keep _ _ _ st3 fun b _ o q=>by rw[<-hs4];exact keep4 b o q
  generalize hXc:z0T X scope own frees (z2P X.env scope.names []) s3.heap.objs.size s3 H3 fp (X.pn++pins)=Y at I4
  have eP:Y.prog=X.prog:=by rw[<-hXc];rfl
  have eW:Y.w=X.w:=by rw[<-hXc];rfl
  have eK:Y.K=X.K:=by rw[<-hXc];rfl
  have eA:Y.A=X.A:=by rw[<-hXc];rfl
  have eC:Y.calm=true:=by rw[<-hXc];exact hc
  have eE:Y.env=compEnvC scope (z2P X.env scope.names []) s3.heap.objs.size X.env:=by rw[<-hXc];rfl
  have eX:Y.xe=fun _ _=>False:=by rw[<-hXc];rfl
  have eF: ∀{H':Hp},(∀b∈fp,H' b=none)->∀b∈fp,FpOk Y [] H' b:=fun{H'} hn b hb=>by
   rw[<-hXc]
   obtain⟨g1,g2,g3,g4,g5,g6⟩:=f3 b hb
   refine⟨hn b hb,Nat.ne_of_lt (fpl3 b hb),fun q=> ?_, .inl hb,fun x c e=> ?_,fun p hp=> ?_⟩
   ·rcases List.mem_cons.mp (I3.stkSub b q) with r|r
    ·exact g2 r
    ·exact g3 r
   ·rcases z5f _ _ e with q|q
    ·exact nomatch q
    ·exact g5 x c q.1
   ·have hp:p∈(X.pn++pins)++[]:=hp
    rw[List.append_nil] at hp
    exact g6 p hp
  have gY:PG Y tg g:=by rw[<-hXc];exact hg _ _ _ _ _ _
  have tY:PE Y elt te:=by rw[<-hXc];exact he _ _ _ _ _ _
  have sY:PTs Y ifs tt:=by rw[<-hXc];exact ht _ _ _ _ _ _
  have loop:codeAny (model X.prog X.w) X.A (.compLoop (.ListComp elt [⟨tg,iter,ifs,0⟩] scope pos) 0 (.ref it) (.ref D) (compEnvC scope (z2P X.env scope.names []) s3.heap.objs.size X.env))
   (compPost (model X.prog X.w) X.A X.xe none (EP X pins σ Q) (.ref D) s3.heap.objs.size) s4:=by
   refine z27 (fun n s'=> ∃i ys σ' H',Inv Y [] σ' H' s'/\tn i s'.heap/\(∀b∈fp,H' b=none)/\W i n ys σ' H') ?_ m0 ⟨0,[],_,_,I4,st4,fun b hb=>(f3 b hb).1,w0⟩
   rintro n s5 ⟨i,ys,σ5,H5,I5,st5,fr5,w5⟩
   obtain⟨hD5,alt⟩:=turn i n ys σ5 H5 w5
   rcases alt with⟨stop,qn⟩|⟨go,step⟩
   ·have d:=T.done Y eP eW eK eC i [] s5 σ5 H5 (fun _ _=>False) I5 (eF fr5) st5 stop
    rw[eA] at d
    refine thn d fun r s6 ⟨hr,I6⟩=> ?_
    subst hr
    subst hXc
    obtain⟨m6,n6,_⟩:=I6.loc
    exact⟨m6,n6,fun h'' hs''=>⟨.ref D,H5,z8B I3 f3 (Nat.le_refl _) I6 hs'',rfl,qn⟩⟩
   ·have d:=T.item Y eP eW eK eC i [] s5 σ5 H5 (fun _ _=>False) I5 (eF fr5) st5 go
    rw[eA] at d
    refine thn d fun r s6 ⟨u,hr,h6⟩=> ?_
    subst hr
    refine thn h6 fun _ s7 ⟨x,H7,I7,r7,y7,st7,fr7⟩=> ?_
    have I7':=I7.pinned (eF fr7) (T.obj _ _ st7)
    have e1:=gY _ s7 σ5 H7 x u _ I7' r7 (step x H7 y7)
    rw[eP,eW,eA,eE,eX] at e1
    refine thn e1 fun _ s8 ⟨σ8,H8,I8,q8⟩=> ?_
    have e1':=sY _ s8 σ8 H8 _ I8 q8
    rw[eP,eW,eA,eE,eX] at e1'
    refine thn e1' fun ok s8 ⟨H8,I8,q8⟩=> ?_
    cases ok with
    |false=>
     rw[if_neg Bool.false_ne_true] at q8⊢
     obtain⟨m',hm',w9⟩:=q8
     refine⟨m',hm',i+1,_,σ8,_,I8.unpinned,T.keep _ _ _ st7 fun b hb o e=> ?_,fun b hb=> ?_,w9⟩
     ·exact(I8.pin (b,o) (List.mem_append_right _ (List.mem_append_right _ (z0D hb e)))).1
     ·obtain⟨o,e,d⟩:=T.obj _ _ st7 b hb
      exact(I8.pin (b,o) (List.mem_append_right _ (List.mem_append_right _ (z0D hb e)))).2.1
    |true=>
    rw[if_pos rfl] at q8⊢
    have e2:=tY _ s8 σ8 H8 _ I8 q8
    rw[eP,eW,eA,eE,eX] at e2
    refine thn e2 fun yv s9 ⟨y,H9,I9,r9,hD9,hz9,m',hm',w9⟩=> ?_
    have e3:=z5o (X:=Y) _ s9 σ8 H9 (.ref D) [y] (.ref D) [yv] (fun v H'=>v= .non/\H'=upd H9 D (.lst (ys++[y]))) I9 rfl (.cons r9 .nil) ⟨D,ys,y,rfl,rfl,hD9,hz9,rfl,rfl⟩
    rw[eP,eW,eA,eX] at e3
    refine thn e3 fun _ s10 ⟨v10,H10,I10,r10,_,e10⟩=> ?_
    subst e10
    refine⟨m',hm',i+1,_,σ8,_,I10.unpinned,T.keep _ _ _ st7 fun b hb o e=> ?_,fun b hb=> ?_,w9⟩
    ·exact(I10.pin (b,o) (List.mem_append_right _ (List.mem_append_right _ (z0D hb e)))).1
    ·obtain⟨o,e,d⟩:=T.obj _ _ st7 b hb
     exact(I10.pin (b,o) (List.mem_append_right _ (List.mem_append_right _ (z0D hb e)))).2.1
  exact codeAny_compStart_list loop (T.self _ 0 _ _ _ st4 loop)
 exact goal
theorem zal{y:Str}{py spos:Pos}{i:Nat}(hN:X.N.Nodup)(hy:X.N[i]? =some y)(hx:Loc X.env.scope y)(hfn:X.fn y=true\/X.env.scope.names.lookup y=some .local)(hsw:swapsWith (.ListComp elt [⟨tg,iter,ifs,0⟩] scope pos) (some (.Name y py)) spos.line X.env=pure true)(hc:X.calm=true)(S:z1P X.env.scope scope own frees X.N ix)(hi:PI X tg iter wi)
 (hg: ∀cl C s₀ H₀ fp pn,PG (z0T X scope own frees cl C s₀ H₀ fp pn) tg g) (ht: ∀cl C s₀ H₀ fp pn,PTs (z0T X scope own frees cl C s₀ H₀ fp pn) ifs tt) (he: ∀cl C s₀ H₀ fp pn,PE (z0T X scope own frees cl C s₀ H₀ fp pn) elt te)
 (hs: ∀x,foldedSetIterable iter X.env x=pure x:=by intro _;rfl):
 PS X (.Assign [.Name y py] (.ListComp elt [⟨tg,iter,ifs,0⟩] scope pos) spos) (fun Dd σ H=>zaj X.K wi g tt te own.length ix σ H fun v H'=>Dd.nx (σ.set i (some v)) H'):=by
 intro pins s σ H Dd I h
 have hclos:closureFor scope X.env=pure (z2P X.env scope.names []):=z4l fun y hy e=>I.ok.has y.1 (S.fr y hy e)
 rw[exec_Assign_Name_used _ _ _ _ hsw]
 refine wpAny_bind (wpAny_standAt (wpAny_bind ?_))
 show wpAny _ X.A (do let _<-comprehension (.ListComp elt [⟨tg,iter,ifs,0⟩] scope pos) scope X.env _ (newList []) false (eval iter X.env) (some (assign (.Name y py) X.env))) _ _ s
 refine wpAny_bind (wpAny_mono (wpAny_comprehension_free (use:=some (assign (.Name y py) X.env)) (Q:=fun _ s'=>SP X pins Dd .next s') rfl hs hclos S.kind S.names (thn (hi pins s σ H _ I h) fun v s1 h1=>thn h1 fun itv s2 h2=> ?_)) (fun _ s' hq=>wpAny_pure (wpAny_pure hq)) fun _ _ e=>e)
 obtain⟨it,fp,tn,J,H2,e,I2,T,st2,f2,hD⟩:=h2
 subst e
 refine wpAny_newObj_type ?_
 have I3:Inv X pins σ (upd H2 s2.heap.objs.size (.lst [])) {s2 with heap:=s2.heap.push {cls:= .type "list",data:= .seq ([]:List Value).toArray}}:=I2.lnew (t':=s2.toks) .nil (Nat.zero_le _)
 have nD:H2 s2.heap.objs.size=none:=I2.fresh
 obtain⟨W,⟨m0,w0⟩,turn⟩:=hD _ nD fun a o e=>(I3.bs a o (I3.ok.mod.kin a o e)).2
 have fpl: ∀b∈fp,b<s2.heap.objs.size:=fun b z=>by
  obtain⟨o,q,_⟩:=T.obj _ _ st2 b z
  exact Heap.lt_size q
 generalize hs3:({s2 with heap:=s2.heap.push {cls:= .type "list",data:= .seq ([]:List Value).toArray}}:Shared)=s3 at I3
 have hpush: ∀b o,s2.heap.get? b=some o->s3.heap.get? b=some o:=fun b o q=>by rw[<-hs3];exact Heap.get?_push_of_some _ q
 have hsz3:s2.heap.objs.size<s3.heap.objs.size:=by rw[<-hs3];show _<(s2.heap.push _).objs.size;rw[Heap.size_push];exact Nat.lt_succ_self _
 have f3: ∀b∈fp,FpOk X pins (upd H2 s2.heap.objs.size (.lst [])) b:=fun b z=>⟨by rw[z0c (Nat.ne_of_lt (fpl b z))];exact(f2 b z).1,(f2 b z).2⟩
 have st3:tn 0 s3.heap:=T.keep _ _ _ st2 fun b _ o q=>hpush b o q
 generalize hDd:s2.heap.objs.size=D at*
 generalize hH3:upd H2 D (.lst [])=H3 at*
 have goal:wpAny (model X.prog X.w) X.A (newFunctionEnv scope X.env.globals (z2P X.env scope.names []) [] X.env.qual none .none (some X.env)) (fun cenv s₄=>
  codeAny (model X.prog X.w) X.A (.compStart (.ListComp elt [⟨tg,iter,ifs,0⟩] scope pos) 0 (.ref it) (.ref D) {cenv with scope:=relabel scope X.env}) (compPost (model X.prog X.w) X.A X.xe (some (assign (.Name y py) X.env)) (fun _ s'=>SP X pins Dd .next s') (.ref D) cenv.locals) s₄) X.xe s3:=by
  refine wpAny_newFunctionEnv S.nocell (by intro y hy;simp at hy) (fun h1 hns hsb=> ?_) S.kind
  have hns:h1.Ns s3.heap.objs.size (fun _=>none):=hns
  have keep4: ∀b o,s3.heap.get? b=some o->h1.get? b=some o:=fun b o q=>hsb.extBut b o (Nat.ne_of_lt (Heap.lt_size q)) (Heap.get?_push_of_some _ q)
  have fpl3: ∀b∈fp,b<s3.heap.objs.size:=fun b z=>Nat.lt_trans (fpl b z) hsz3
  generalize hs4:({s3 with heap:=h1,toks:=s3.toks+([]:List (Str×Value)).length}:Shared)=s4
  have I4:Inv (z0T X scope own frees (z2P X.env scope.names []) s3.heap.objs.size s3 H3 fp (X.pn++pins)) [] (z3V own.length ix σ) H3 s4:=
   z6q S I3 f3 fpl3 (by rw[<-hs4]) (by rw[<-hs4]) (fun b o q=>by rw[<-hs4];exact keep4 b o q) (by rw[<-hs4];exact hns)
  have st4:tn 0 s4.heap:=T.keep _ _ _ st3 fun b _ o q=>by rw[<-hs4];exact keep4 b o q
  generalize hXc:z0T X scope own frees (z2P X.env scope.names []) s3.heap.objs.size s3 H3 fp (X.pn++pins)=Y at I4
  have eP:Y.prog=X.prog:=by rw[<-hXc];rfl
  have eW:Y.w=X.w:=by rw[<-hXc];rfl
  have eK:Y.K=X.K:=by rw[<-hXc];rfl
  have eA:Y.A=X.A:=by rw[<-hXc];rfl
  have eC:Y.calm=true:=by rw[<-hXc];exact hc
  have eE:Y.env=compEnvC scope (z2P X.env scope.names []) s3.heap.objs.size X.env:=by rw[<-hXc];rfl
  have eX:Y.xe=fun _ _=>False:=by rw[<-hXc];rfl
  have eF: ∀{H':Hp},(∀b∈fp,H' b=none)->∀b∈fp,FpOk Y [] H' b:=fun{H'} hn b hb=>by
   rw[<-hXc]
   obtain⟨g1,g2,g3,g4,g5,g6⟩:=f3 b hb
   refine⟨hn b hb,Nat.ne_of_lt (fpl3 b hb),fun q=> ?_, .inl hb,fun x c e=> ?_,fun p hp=> ?_⟩
   ·rcases List.mem_cons.mp (I3.stkSub b q) with r|r
    ·exact g2 r
    ·exact g3 r
   ·rcases z5f _ _ e with q|q
    ·exact nomatch q
    ·exact g5 x c q.1
   ·have hp:p∈(X.pn++pins)++[]:=hp
    rw[List.append_nil] at hp
    exact g6 p hp
  have gY:PG Y tg g:=by rw[<-hXc];exact hg _ _ _ _ _ _
  have tY:PE Y elt te:=by rw[<-hXc];exact he _ _ _ _ _ _
  have sY:PTs Y ifs tt:=by rw[<-hXc];exact ht _ _ _ _ _ _
  have loop:codeAny (model X.prog X.w) X.A (.compLoop (.ListComp elt [⟨tg,iter,ifs,0⟩] scope pos) 0 (.ref it) (.ref D) (compEnvC scope (z2P X.env scope.names []) s3.heap.objs.size X.env))
   (compPost (model X.prog X.w) X.A X.xe (some (assign (.Name y py) X.env)) (fun _ s'=>SP X pins Dd .next s') (.ref D) s3.heap.objs.size) s4:=by
   refine z27 (fun n s'=> ∃i ys σ' H',Inv Y [] σ' H' s'/\tn i s'.heap/\(∀b∈fp,H' b=none)/\W i n ys σ' H') ?_ m0 ⟨0,[],_,_,I4,st4,fun b hb=>(f3 b hb).1,w0⟩
   rintro n s5 ⟨i,ys,σ5,H5,I5,st5,fr5,w5⟩
   obtain⟨hD5,alt⟩:=turn i n ys σ5 H5 w5
   rcases alt with⟨stop,qn⟩|⟨go,step⟩
   ·have d:=T.done Y eP eW eK eC i [] s5 σ5 H5 (fun _ _=>False) I5 (eF fr5) st5 stop
    rw[eA] at d
    refine thn d fun r s6 ⟨hr,I6⟩=> ?_
    subst hr
    subst hXc
    obtain⟨m6,n6,_⟩:=I6.loc
    have n6:s6.heap.Ns s3.heap.objs.size m6:=n6
    have I7:Inv X pins σ H5 s6:=z8B (h':=s6.heap) I3 f3 (Nat.le_refl _) I6 (Heap.SameBut.refl _ _)
    have fC:FpOk X pins H5 s3.heap.objs.size:=I3.fpOk (Nat.le_refl _) I6.free
    obtain⟨oC,eC,dC⟩: ∃o,s6.heap.get? s3.heap.objs.size=some o/\∀v,o.data≠ .cell v:=by
     obtain⟨o,es,ep,e1,e2,e3⟩:=n6
     exact⟨o,e1,fun v z=>by simp_all⟩
    have I8:=I7.pinned (fp:=[s3.heap.objs.size]) (fun b hb=>by
     have e:b=s3.heap.objs.size:=by simpa using hb
     rw[e];exact fC) (fun b hb=>by
     have e:b=s3.heap.objs.size:=by simpa using hb
     rw[e];exact⟨oC,eC,dC⟩)
    show wpAny _ _ (assign (.Name y py) X.env (.ref D)) _ _ s6
    refine wpAny_assign_Name (z3N (v:= .ref D) I8 hN hy hx rfl (fun s7 I9=> ?_) hfn)
    have e7:s7.heap.get? s3.heap.objs.size=some oC:=(I9.pin (s3.heap.objs.size,oC) (List.mem_append_right _ (List.mem_append_right _ (z0D (by simp) eC)))).1
    refine⟨m6,n6.at' fun o e=>by rw[eC] at e;cases e;exact e7,fun h3 hs3=>⟨_,H5, ?_,qn⟩⟩
    exact I9.unpinned.turned (t':=s7.toks) (fun b o hb e=>(hs3.2 b hb).trans e) fC.1 fC.2.1 fC.2.2.2.1 fC.2.2.2.2.1 fC.2.2.2.2.2
   ·have d:=T.item Y eP eW eK eC i [] s5 σ5 H5 (fun _ _=>False) I5 (eF fr5) st5 go
    rw[eA] at d
    refine thn d fun r s6 ⟨u,hr,h6⟩=> ?_
    subst hr
    refine thn h6 fun _ s7 ⟨x,H7,I7,r7,y7,st7,fr7⟩=> ?_
    have I7':=I7.pinned (eF fr7) (T.obj _ _ st7)
    have e1:=gY _ s7 σ5 H7 x u _ I7' r7 (step x H7 y7)
    rw[eP,eW,eA,eE,eX] at e1
    refine thn e1 fun _ s8 ⟨σ8,H8,I8,q8⟩=> ?_
    have e1':=sY _ s8 σ8 H8 _ I8 q8
    rw[eP,eW,eA,eE,eX] at e1'
    refine thn e1' fun ok s8 ⟨H8,I8,q8⟩=> ?_
    cases ok with
    |false=>
     rw[if_neg Bool.false_ne_true] at q8⊢
     obtain⟨m',hm',w9⟩:=q8
     refine⟨m',hm',i+1,_,σ8,_,I8.unpinned,T.keep _ _ _ st7 fun b hb o e=> ?_,fun b hb=> ?_,w9⟩
     ·exact(I8.pin (b,o) (List.mem_append_right _ (List.mem_append_right _ (z0D hb e)))).1
     ·obtain⟨o,e,d⟩:=T.obj _ _ st7 b hb
      exact(I8.pin (b,o) (List.mem_append_right _ (List.mem_append_right _ (z0D hb e)))).2.1
    |true=>
    rw[if_pos rfl] at q8⊢
    have e2:=tY _ s8 σ8 H8 _ I8 q8
    rw[eP,eW,eA,eE,eX] at e2
    refine thn e2 fun yv s9 ⟨y,H9,I9,r9,hD9,hz9,m',hm',w9⟩=> ?_
    have e3:=z5o (X:=Y) _ s9 σ8 H9 (.ref D) [y] (.ref D) [yv] (fun v H'=>v= .non/\H'=upd H9 D (.lst (ys++[y]))) I9 rfl (.cons r9 .nil) ⟨D,ys,y,rfl,rfl,hD9,hz9,rfl,rfl⟩
    rw[eP,eW,eA,eX] at e3
    refine thn e3 fun _ s10 ⟨v10,H10,I10,r10,_,e10⟩=> ?_
    subst e10
    refine⟨m',hm',i+1,_,σ8,_,I10.unpinned,T.keep _ _ _ st7 fun b hb o e=> ?_,fun b hb=> ?_,w9⟩
    ·exact(I10.pin (b,o) (List.mem_append_right _ (List.mem_append_right _ (z0D hb e)))).1
    ·obtain⟨o,e,d⟩:=T.obj _ _ st7 b hb
     exact(I10.pin (b,o) (List.mem_append_right _ (List.mem_append_right _ (z0D hb e)))).2.1
  exact codeAny_compStart_list loop (T.self _ 0 _ _ _ st4 loop)
 exact goal
end
structure zeB(osc sc:Scope)(own frees N:List Str)(ix:List Nat):Prop where
 kind:sc.kind= .function
 names: ∀y∈sc.names,y.2= .local->sc.names.lookup y.1=some .local
 fr: ∀y∈sc.names,y.2= .free->osc.names.lookup y.1=some .cell\/osc.names.lookup y.1=some .free
 nd:(own++frees).Nodup
 frl: ∀x∈frees,sc.names.lookup x=some .free
 ixs:ix.map (fun i=>N[i]?)=frees.map some
 frc: ∀y∈sc.names,y.2= .cell->y.1∉frees
 owf: ∀y∈sc.names,y.2= .free->y.1∉own
theorem Inv.turnedL{X:Cx}{pins:List (Addr×Obj)}{σ:List (Option V)}{H:Hp}{s:Shared}{h':Heap}{t':Nat}{fp:List Addr}(I:Inv X pins σ H s)(k: ∀b o,b∉fp->s.heap.get? b=some o->h'.get? b=some o)(hf: ∀b∈fp,FpOk X pins H b):Inv X pins σ H {s with heap:=h',toks:=t'}:=by
 have nit: ∀b u,H b=some u->b∉fp:=fun b u e z=>by rw[(hf b z).1] at e;cases e
 refine I.step (g':=s.gens) (d':=s.drawn) (ch:=fp) (fun b hb=> ?_) (fun b o _ _ hc e _=>k b o hc e) (fun b o _ _ hc e _=>⟨o.slots,k b o hc e⟩) (fun _ _ _ _ n=>n)
  (fun b o hc e=>⟨o,k b o hc e⟩) (fun _ _ e=>e) (fun _ _ _ e=>e) (fun b ps e=>⟨#[],by rw[e];simp⟩) (fun m hm=> ?_) (fun b u e=> ?_) I.bare
 ·obtain⟨f0,f1,f2,f3,f4,f5⟩:=hf b hb
  exact⟨f3,f1,f4,f5⟩
 ·obtain⟨o,es,ep,ho,r⟩:=hm
  exact⟨o,es,ep,k _ o (fun z=>(hf _ z).2.1 rfl) ho,r⟩
 ·refine(I.hok b u e).stay (fun c v hc q=>k c v ?_ q) (fun _ q=>q) fun _ _ q=>q
  rcases hc with z|z
  ·rw[z];exact nit b u e
  ·exact nit c _ z
noncomputable def Ite(K:W.Frag)(a:Addr):It:=
 ⟨fun i H=> ∃xs x,SqL K H a xs/\xs[i]? =some x,fun i H v H'=> ∃p x,H p=none/\v= .ref p/\H'=upd H p (.tup [.int i,x])/\(∀xs,SqL K H a xs->xs[i]? =some x)/\∀b o,K.lookup b=some o->H' b=none,fun i H=> ∃xs,SqL K H a xs/\xs.length<=i⟩
theorem zam{P:Program}{w:World}{K:W.Frag}{elts:List Expr}{x1:Nat}{tpos:Pos}(a e it:Addr)(hne:e≠it):Turn P w K (.Tuple elts x1 tpos) (Ite K a) [e,it] e (fun i h=> ∃old,IsEnum h e it i old/\h.IsListIter it a i) where
 mem:=by simp
 obj:=fun i h st b hb=>by
  obtain⟨old,h1,h2⟩:=st
  have hb:b=e\/b=it:=by simpa using hb
  rcases hb with rfl|rfl
  ·exact⟨_,h1,fun v z=>by
    have z':Data.fields _=Data.cell v:=z
    cases z'⟩
  ·obtain⟨o,e,c,d⟩:=h2
   exact⟨o,e,fun v z=>by rw[d] at z;cases z⟩
 keep:=fun i h h' st k=>by
  obtain⟨old,h1,h2⟩:=st
  exact⟨old,k e (by simp) _ h1,h2.at fun o q=>k it (by simp) o q⟩
 item:=by
  intro X hP hw hK hc i pins s σ H E I hf st hg
  subst hP hw hK
  obtain⟨old,st1,st2⟩:=st
  obtain⟨xs,x,hq,hx⟩:=hg
  obtain⟨its,rv,p,hz⟩:=I.list hq
  obtain⟨u,hu,ru⟩:=rv.get hx
  refine wpAny_pyNext_enum_item st1 st2 p.isList (x:=u) (by simpa using hu) hne fun h1 heo hit ht hsz hk=> ?_
  refine⟨_,rfl,wpAny_letOwnedTupleGo_enum heo fun h2 he2 hs2=> ?_⟩
  have hs2:Heap.SameBut e h1 h2:=hs2
  have hel:e<s.heap.objs.size:=Heap.lt_size st1
  have ht2:h2.get? s.heap.objs.size=some {cls:= .type "tuple",data:= .seq #[.int i s.toks,u]}:=(hs2.2 _ (Nat.ne_of_gt hel)).trans ht
  have fr: ∀b∈[e,it],b≠s.heap.objs.size:=fun b hb=>by
   have hb:b=e\/b=it:=by simpa using hb
   rcases hb with rfl|rfl
   ·exact Nat.ne_of_lt hel
   ·obtain⟨o,q,_⟩:=st2
    exact Nat.ne_of_lt (Heap.lt_size q)
  have I1:Inv X pins σ (upd H s.heap.objs.size (.tup [.int i,x])) {s with heap:=s.heap.push {cls:= .type "tuple",data:= .seq #[.int i s.toks,u]},toks:=s.toks}:=I.laid (t':=s.toks) (o:= .tup [.int i,x]) (fun b ob q=>Heap.get?_push_of_some _ q) (Nat.le_refl _) ⟨by show 2<=sizeLine;decide,[.int i s.toks,u], .cons ⟨_,rfl⟩ (.cons ru .nil),IsTup.new _ _⟩
  have f1: ∀b∈[e,it],FpOk X pins (upd H s.heap.objs.size (.tup [.int i,x])) b:=fun b hb=>⟨by rw[z0c (fr b hb)];exact(hf b hb).1,(hf b hb).2⟩
  have I2:=I1.turnedL (h':=h2) (t':=s.toks+1) (fun b o hb q=>by
   have hb:b≠e/\b≠it:=by simpa using hb
   rcases Heap.get?_push_cases (show(s.heap.push {cls:= .type "tuple",data:= .seq #[.int i s.toks,u]}).get? b=some o from q) with⟨rfl,rfl⟩|q'
   ·exact ht2
   ·exact(hs2.2 b hb.1).trans (hk b o hb.1 hb.2 q')) f1
  refine⟨.ref s.heap.objs.size,_,I2,rfl,⟨_,x,I.hok.fresh (Nat.le_refl _),rfl,rfl,fun ys hy=>by rw[I.list_inj hy hq];exact hx,fun b o q=>(I2.bs b o (I2.ok.mod.kin b o q)).2⟩,⟨u, ?_, ?_⟩,fun b hb=>(f1 b hb).1⟩
  ·have:((i+1:Nat):Int)=(i:Int)+1:=by push_cast;rfl
   rw[this];exact he2
  ·obtain⟨o,q,r⟩:=hit
   exact⟨o,(hs2.2 it (Ne.symm hne)).trans q,r⟩
 done:=by
  intro X hP hw hK hc i pins s σ H E I hf st hg
  subst hP hw hK
  obtain⟨old,st1,st2⟩:=st
  obtain⟨xs,hq,hx⟩:=hg
  obtain⟨its,rv,p,hz⟩:=I.list hq
  have hl:=rv.length
  exact wpAny_pyNext_enum_end (I.ok.hd hc) st1 st2 p.isList (by simp;lia) fun h' eb=>⟨rfl,I.turnedL (t':=s.toks) (fun b o hb q=>eb b o (fun z=>hb (by simp[z])) q) hf⟩
 self:=fun A i s Q E st h=>by
  obtain⟨old,st1,_⟩:=st
  exact wpAny_pyIter_enum st1 h
section
variable{prog:Program}{w:World}{A:Around}{E:Value->Shared->Prop}{s:Shared}
theorem z4H{it t:Addr}{i:Nat}{items}{x:Value}{Q:Value->Shared->Prop}(hit:s.heap.IsTupleIter it t i)
 (hl:s.heap.IsTuple t items) (hx:items[i]? =some x)
 (hQ: ∀h',h'.IsTupleIter it t (i+1)->Heap.SameBut it s.heap h'->Q x {s with heap:=h'}):
 wpAny (model prog w) A (Builtin.SmallTypes.nextOf (.ref it)) Q E s:=by
 obtain⟨o,ho,hc,hd⟩:=id hit
 obtain⟨ol,hol,_,nl,hdl⟩:=hl
 unfold Builtin.SmallTypes.nextOf
 refine wpAny_bind (wpAny_callSpecial?_slot (name:=Str.ofString "__next__") hit.typeIs F.slot_tuple_iterator_next
  (wpAny_call_entry F.slot_tuple_iterator_next hit.typeIs F.entry_tuple_iterator_next ?_ (F.args_tuple_iterator_next_1 _)))
 show wpAny _ _ (field (.ref it) 0>>=_) _ _ s
 refine wpAny_bind (wpAny_field ho hd (x:= .ref t) rfl ?_)
 show wpAny _ _ (if(Value.ref t==Value.none)=true then _ else _) _ _ s
 rw[if_neg (show ¬((Value.ref t==Value.none)=true) from Bool.false_ne_true)]
 show wpAny _ _ (field (.ref it) 1>>=_) _ _ s
 refine wpAny_bind (wpAny_field ho hd (x:= .int i 0) rfl ?_)
 show wpAny _ _ (seqItems? (.ref t)>>=_) _ _ s
 refine wpAny_bind (wpAny_seqItems hol hdl ?_)
 simp only[Int.toNat_natCast,hx]
 refine wpAny_bind (wpAny_setField ho hd (by simp) (wpAny_pure ⟨x,rfl,wpAny_pure (hQ _ ?_ (Heap.SameBut.update ..))⟩))
 exact⟨_,Heap.get?_update_self _ ho (Obj.isFreed_of_fields (Obj.data_mapFields hd _)),(Obj.cls_mapFields ..).trans hc,by
  rw[Obj.data_mapFields hd];simp[rawInt]⟩
theorem z3j{it t:Addr}{i:Nat}{items}{Q:Value->Shared->Prop}(hh:A.handled=none)
 (hit:s.heap.IsTupleIter it t i) (hl:s.heap.IsTuple t items) (hx:items[i]? =none)
 (hE: ∀h' e,Heap.ExtBut it s.heap h'->(∃o,h'.get? e=some o/\o.cls= .type "StopIteration")->E (.ref e) {s with heap:=h'}):
 wpAny (model prog w) A (Builtin.SmallTypes.nextOf (.ref it)) Q E s:=by
 obtain⟨o,ho,hc,hd⟩:=id hit
 obtain⟨ol,hol,_,nl,hdl⟩:=hl
 unfold Builtin.SmallTypes.nextOf
 refine wpAny_bind (wpAny_callSpecial?_slot (name:=Str.ofString "__next__") hit.typeIs F.slot_tuple_iterator_next
  (wpAny_call_entry F.slot_tuple_iterator_next hit.typeIs F.entry_tuple_iterator_next ?_ (F.args_tuple_iterator_next_1 _)))
 show wpAny _ _ (field (.ref it) 0>>=_) _ _ s
 refine wpAny_bind (wpAny_field ho hd (x:= .ref t) rfl ?_)
 show wpAny _ _ (if(Value.ref t==Value.none)=true then _ else _) _ _ s
 rw[if_neg (show ¬((Value.ref t==Value.none)=true) from Bool.false_ne_true)]
 show wpAny _ _ (field (.ref it) 1>>=_) _ _ s
 refine wpAny_bind (wpAny_field ho hd (x:= .int i 0) rfl ?_)
 show wpAny _ _ (seqItems? (.ref t)>>=_) _ _ s
 refine wpAny_bind (wpAny_seqItems hol hdl ?_)
 simp only[Int.toNat_natCast,hx]
 refine wpAny_bind (wpAny_rule (wpAny_bind (wpAny_setField ho hd (by simp) ?_)))
 show wpAny _ _ (newExc (.type "StopIteration") []>>=_) _ _ _
 refine wpAny_bind ?_
 simp only[newExc,newTuple]
 refine wpAny_bind (wpAny_newObj_type ?_ (by size_fits))
 refine wpAny_bind (m:=firstArgMember _ _) (wpAny_of_eq (a:=Value.none) (by first|rfl|(simp only[firstArgMember];rfl)) ?_)
 refine wpAny_newObj_type ?_ (by size_fits)
 simp only[raiseNew]
 refine wpAny_bind (wpAny_handled ?_)
 first|rw[show A.in1.handled=none from hh]|rw[hh]
 refine wpAny_bind (wpAny_pure (wpAny_throw ?_))
 exact hE _ _ (((Heap.SameBut.update ..).extBut.push _).push _) ⟨_,Heap.get?_push_size _ rfl,rfl⟩
end
theorem z7Z{prog:Program}{w:World}{A:Around}(hh:A.handled=none)(it l:Addr)(hne:l≠it)(items:Array Value):
 Draws prog w A it [it,l] items.size (fun i v=>items[i]? =some v) (fun i h=>h.IsTupleIter it l i/\h.IsTuple l items) where
 live:=fun _ _ st=>let⟨o,ho,_⟩:=st.1;⟨o,ho⟩
 frame:=fun _ _ _ st hk=>⟨st.1.at fun o e=>hk it (by simp) o e,let⟨o,ho,r⟩:=st.2;⟨o,hk l (by simp) o ho,r⟩⟩
 item:=fun i s Q E hi st hQ=>by
  refine z4H st.1 st.2 (x:=items[i]) (by simp[hi]) fun h' hit' hs'=> ?_
  exact hQ _ h' s.toks (by simp[hi]) ⟨hit',st.2.extBut hs'.extBut hne⟩ hs'
 done:=fun s Q E st hE=>z3j hh st.1 st.2 (by simp) hE
theorem z3S(l:Addr)(items:Array Value)(n:Nat)(dct:Option Addr)(sl:Array (Option Value)):
 Meets (Builtin.«enumerate.__new__» ⟨[.type "enumerate", .ref l],[]⟩) (fun _ R s=>s.heap.get? l=some {cls:= .type "tuple",dict:=dct,data:= .seq items n,slots:=sl}/\
  R (.ok (.ret (.ref (s.heap.push {cls:= .type "tuple_iterator",data:= .fields #[.ref l, .int 0 0]}).objs.size)))
   {s with heap:=(s.heap.push {cls:= .type "tuple_iterator",data:= .fields #[.ref l, .int 0 0]}).push {cls:= .type "enumerate",data:= .fields #[.none, .bool false, .ref s.heap.objs.size,rawInt 0, .none, .none]}}):=
 .of_wp fun prog w A R s h=>by
  obtain⟨hp,g,d,tk,os⟩:=s;obtain⟨hl,h⟩:=h
  have hsub:=sub_enumerate
  have hL:Heap.IsTuple (Shared.heap ⟨hp,g,d,tk,os⟩) l items:=⟨_,hl,rfl,n,rfl⟩
  wp_walk using AutoSeq1.wpAny_loadPart' hl
  refine wpAny_stack_any fun st=>wpAny_pure ?_
  split
  ·rename_i c _ _ _ _ _
   cases(c==Value.type "enumerate")
   ·wp_walk using AutoSeq1.wpAny_loadPart' hl,wpAny_pyIter_tuple hL
    exact⟨_,rfl,h⟩
   ·wp_walk using AutoSeq1.wpAny_loadPart' hl,wpAny_pyIter_tuple hL
    exact⟨_,rfl,h⟩
  ·wp_walk using AutoSeq1.wpAny_loadPart' hl,wpAny_pyIter_tuple hL
   exact⟨_,rfl,h⟩
theorem z3T{prog:Program}{w:World}{A:Around}{E:Value->Shared->Prop}{s:Shared}{l:Addr}{items:Array Value}{Q:Value->Shared->Prop}(hL:s.heap.IsTuple l items)
 (h: ∀h',IsEnum h' (s.heap.objs.size+1) s.heap.objs.size 0 .none->h'.IsTupleIter s.heap.objs.size l 0->h'.objs.size=s.heap.objs.size+2->
  (∀b o,s.heap.get? b=some o->h'.get? b=some o)->Q (.ref (s.heap.objs.size+1)) {s with heap:=h'}):
 wpAny (model prog w) A (call (.type "enumerate") [.ref l]) Q E s:=by
 obtain⟨⟨c,dct,dt,sl⟩,hl,hc,n,hd⟩:=hL
 replace hc:c= .type "tuple" :=hc
 replace hd:dt= .seq items n:=hd
 subst hc hd
 refine callType_new F.called_enumerate (by decide) (F.typeCall_enumerate_1 _) (F.newCall_enumerate_1 _) (fun obj=>F.args_object_init_2 obj _) F.entry_enumerate_new
  (z3S l items n dct sl) ⟨hl, ?_⟩
 have hz:(s.heap.push {cls:= .type "tuple_iterator",data:= .fields #[.ref l, .int 0 0]}).objs.size=s.heap.objs.size+1:=Heap.size_push ..
 show _/\_
 rw[hz]
 have he:IsEnum ((s.heap.push {cls:= .type "tuple_iterator",data:= .fields #[.ref l, .int 0 0]}).push
  {cls:= .type "enumerate",data:= .fields #[.none, .bool false, .ref s.heap.objs.size,rawInt 0, .none, .none]}) (s.heap.objs.size+1) s.heap.objs.size 0 .none:=by
  have:=Heap.get?_push_size (s.heap.push {cls:= .type "tuple_iterator",data:= .fields #[.ref l, .int 0 0]})
   (o:={cls:= .type "enumerate",data:= .fields #[.none, .bool false, .ref s.heap.objs.size,rawInt 0, .none, .none]}) rfl
  rw[hz] at this;exact this
 refine⟨⟨_,he,rfl⟩,h _ he ⟨_,Heap.get?_push_of_some _ (Heap.get?_push_size _ rfl),rfl,rfl⟩ (by rw[Heap.size_push,hz]) fun b o x=>Heap.get?_push_of_some _ (Heap.get?_push_of_some _ x)⟩
noncomputable def Itet(K:W.Frag)(a:Addr):It:=
 ⟨fun i H=> ∃xs x,SqT K H a xs/\xs[i]? =some x,fun i H v H'=> ∃p x,H p=none/\v= .ref p/\H'=upd H p (.tup [.int i,x])/\(∀xs,SqT K H a xs->xs[i]? =some x)/\∀b o,K.lookup b=some o->H' b=none,fun i H=> ∃xs,SqT K H a xs/\xs.length<=i⟩
theorem z9q{P:Program}{w:World}{K:W.Frag}{elts:List Expr}{x1:Nat}{tpos:Pos}(a e it:Addr)(hne:e≠it):Turn P w K (.Tuple elts x1 tpos) (Itet K a) [e,it] e (fun i h=> ∃old,IsEnum h e it i old/\h.IsTupleIter it a i) where
 mem:=by simp
 obj:=fun i h st b hb=>by
  obtain⟨old,h1,h2⟩:=st
  have hb:b=e\/b=it:=by simpa using hb
  rcases hb with rfl|rfl
  ·exact⟨_,h1,fun v z=>by
    have z':Data.fields _=Data.cell v:=z
    cases z'⟩
  ·obtain⟨o,e,c,d⟩:=h2
   exact⟨o,e,fun v z=>by rw[d] at z;cases z⟩
 keep:=fun i h h' st k=>by
  obtain⟨old,h1,h2⟩:=st
  exact⟨old,k e (by simp) _ h1,h2.at fun o q=>k it (by simp) o q⟩
 item:=by
  intro X hP hw hK hc i pins s σ H E I hf st hg
  subst hP hw hK
  obtain⟨old,st1,st2⟩:=st
  obtain⟨xs,x,hq,hx⟩:=hg
  obtain⟨its,rv,p,hz⟩:=I.tuple hq
  obtain⟨u,hu,ru⟩:=rv.get hx
  have p:s.heap.IsTuple a its.toArray:=p
  have nai:a≠it:=fun z=>by
   obtain⟨o,q,c,_⟩:=id p
   obtain⟨o',q',c',_⟩:=id st2
   rw[z,q'] at q;cases q
   rw[c] at c';exact absurd c' (by decide)
  have nea:e∉[it,a]:=fun z=>by
   have z:e=it\/e=a:=by simpa using z
   rcases z with z|z
   ·exact hne z
   ·obtain⟨o,q,c,_⟩:=id p
    rw[<-z,st1] at q;cases q
    have c:Value.type "enumerate" =Value.type "tuple" :=c
    exact absurd c (by decide)
  have hlt:i<its.toArray.size:=by
   have:=(List.getElem?_eq_some_iff.mp hu).1
   simpa using this
  refine wpAny_pyNext_enum_itemD (z7Z (A:=X.A.in1) (I.ok.hd hc) it a nai its.toArray) st1 ⟨st2,p⟩ hlt hne nea fun u' h1 tk hP heo hst ht hsz hk=> ?_
  have eu:u'=u:=by
   have hu':its[i]? =some u:=hu
   have hP':its.toArray[i]? =some u':=hP
   rw[List.getElem?_toArray,hu'] at hP'
   exact(Option.some.inj hP').symm
  subst eu
  refine⟨_,rfl,wpAny_letOwnedTupleGo_enum heo fun h2 he2 hs2=> ?_⟩
  have hs2:Heap.SameBut e h1 h2:=hs2
  have hel:e<s.heap.objs.size:=Heap.lt_size st1
  have ht2:h2.get? s.heap.objs.size=some {cls:= .type "tuple",data:= .seq #[.int i tk,u']}:=(hs2.2 _ (Nat.ne_of_gt hel)).trans ht
  have fr: ∀b∈[e,it],b≠s.heap.objs.size:=fun b hb=>by
   have hb:b=e\/b=it:=by simpa using hb
   rcases hb with rfl|rfl
   ·exact Nat.ne_of_lt hel
   ·obtain⟨o,q,_⟩:=st2
    exact Nat.ne_of_lt (Heap.lt_size q)
  have I1:Inv X pins σ (upd H s.heap.objs.size (.tup [.int i,x])) {s with heap:=s.heap.push {cls:= .type "tuple",data:= .seq #[.int i tk,u']},toks:=s.toks}:=I.laid (t':=s.toks) (o:= .tup [.int i,x]) (fun b ob q=>Heap.get?_push_of_some _ q) (Nat.le_refl _) ⟨by show 2<=sizeLine;decide,[.int i tk,u'], .cons ⟨_,rfl⟩ (.cons ru .nil),IsTup.new _ _⟩
  have f1: ∀b∈[e,it],FpOk X pins (upd H s.heap.objs.size (.tup [.int i,x])) b:=fun b hb=>⟨by rw[z0c (fr b hb)];exact(hf b hb).1,(hf b hb).2⟩
  have I2:=I1.turnedL (h':=h2) (t':=tk+1) (fun b o hb q=>by
   have hb:b≠e/\b≠it:=by simpa using hb
   rcases Heap.get?_push_cases (show(s.heap.push {cls:= .type "tuple",data:= .seq #[.int i tk,u']}).get? b=some o from q) with⟨rfl,rfl⟩|q'
   ·exact ht2
   ·exact(hs2.2 b hb.1).trans (hk b o hb.1 hb.2 q')) f1
  refine⟨.ref s.heap.objs.size,_,I2,rfl,⟨_,x,I.hok.fresh (Nat.le_refl _),rfl,rfl,fun ys hy=>by rw[I.tuple_inj hy hq];exact hx,fun b o q=>(I2.bs b o (I2.ok.mod.kin b o q)).2⟩,⟨u', ?_, ?_⟩,fun b hb=>(f1 b hb).1⟩
  ·have:((i+1:Nat):Int)=(i:Int)+1:=by push_cast;rfl
   rw[this];exact he2
  ·obtain⟨o,q,r⟩:=hst.1
   exact⟨o,(hs2.2 it (Ne.symm hne)).trans q,r⟩
 done:=by
  intro X hP hw hK hc i pins s σ H E I hf st hg
  subst hP hw hK
  obtain⟨old,st1,st2⟩:=st
  obtain⟨xs,hq,hx⟩:=hg
  obtain⟨its,rv,p,hz⟩:=I.tuple hq
  have p:s.heap.IsTuple a its.toArray:=p
  have hl:=rv.length
  have hT:s.TypeIs (.ref e) "enumerate" :=⟨_,st1,rfl⟩
  unfold pyNext
  refine wpAny_bind (wpAny_attempt (wpAny_callSpecial?_slot (name:=Str.ofString "__next__") hT F.slot_enumerate_next
   (wpAny_call_entry F.slot_enumerate_next hT F.entry_enumerate_next ?_ (F.args_enumerate_next_1 _))))
  show wpAny _ _ (field (.ref e) 2>>=_) _ _ _
  refine wpAny_bind (wpAny_field st1 rfl (x:= .ref it) rfl ?_)
  refine wpAny_bind (z3j (A:=X.A.in1) (I.ok.hd hc) st2 p (by simp;lia) fun h' x he' hx'=> ?_)
  obtain⟨o,ho,hcc⟩:=hx'
  refine wpAny_bind (wpAny_isInstance (T:= "StopIteration") (b:=true) ⟨o,ho,hcc⟩ isSubtype_stop ?_)
  exact wpAny_pure ⟨rfl,I.turnedL (t':=s.toks) (fun b o hb q=>he' b o (fun z=>hb (by simp[z])) q) hf⟩
 self:=fun A i s Q E st h=>by
  obtain⟨old,st1,_⟩:=st
  exact wpAny_pyIter_enum st1 h
section
variable{X:Cx}
noncomputable def zhL(K:W.Frag)(ta:TA):TI:=fun σ H R=>ta σ H fun vs H1=> ∃a,vs=[.ref a]/\(((∃xs,SqL K H1 a xs)/\R (Ite K a) H1)\/((∃xs,SqT K H1 a xs)/\R (Itet K a) H1))
theorem zbK{a:Expr}{ta:TA}{p pos tpos:Pos}{elts:List Expr}{x1:Nat}(hg:Gl X "enumerate")(hm:X.mg "enumerate" =none)(ha:PA X [a] ta)(hs:starEach [a] X.env=[(false,eval a X.env)]:=by rfl):PI X (.Tuple elts x1 tpos) (.Call (.Name "enumerate" p) [a] [] pos) (zhL X.K ta):=by
 intro pins s σ H R I h
 refine Call_ (z6l I hg hm PyProof.Rows.Boot.«enumerate» (PyProof.Rows.callWith_type1 (thn (ha pos pins s σ H _ I h) fun us s1 ⟨vs,H1,I1,r1,q1⟩=> ?_) hs rfl))
 obtain⟨l,e,q⟩:=q1
 subst e
 cases r1 with
 |cons r rr=>
  cases rr
  cases r
  rcases q with⟨⟨xs,hq⟩,q⟩|⟨⟨xs,hq⟩,q⟩
  ·obtain⟨its,rv,p,hz⟩:=I1.list hq
   refine call_enumerate_list p.isList fun h' he hit hsz hk=> ?_
   refine wpAny_pyIter_enum he ?_
   have I2:Inv X pins σ H1 {s1 with heap:=h'}:=I1.kept (t':=s1.toks) hk
   refine⟨s1.heap.objs.size+1,[s1.heap.objs.size+1,s1.heap.objs.size],_,_,H1,rfl,I2,zam l _ _ (by show ¬(s1.heap.objs.size+1=s1.heap.objs.size);lia),⟨_,he,hit⟩,fun b hb=> ?_,q⟩
   have hb:b=s1.heap.objs.size+1\/b=s1.heap.objs.size:=by simpa using hb
   rcases hb with rfl|rfl
   ·exact I1.fpOk (Nat.le_succ _) (I1.hok.fresh (Nat.le_succ _))
   ·exact I1.fpOk (Nat.le_refl _) (I1.hok.fresh (Nat.le_refl _))
  ·obtain⟨its,rv,p,hz⟩:=I1.tuple hq
   have p:s1.heap.IsTuple l its.toArray:=p
   refine z3T p fun h' he hit hsz hk=> ?_
   refine wpAny_pyIter_enum he ?_
   have I2:Inv X pins σ H1 {s1 with heap:=h'}:=I1.kept (t':=s1.toks) hk
   refine⟨s1.heap.objs.size+1,[s1.heap.objs.size+1,s1.heap.objs.size],_,_,H1,rfl,I2,z9q l _ _ (by show ¬(s1.heap.objs.size+1=s1.heap.objs.size);lia),⟨_,he,hit⟩,fun b hb=> ?_,q⟩
   have hb:b=s1.heap.objs.size+1\/b=s1.heap.objs.size:=by simpa using hb
   rcases hb with rfl|rfl
   ·exact I1.fpOk (Nat.le_succ _) (I1.hok.fresh (Nat.le_succ _))
   ·exact I1.fpOk (Nat.le_refl _) (I1.hok.fresh (Nat.le_refl _))
end
section
variable{X:Cx}{a b:Expr}{rest:List Expr}{pos:Pos}{ta tb:TE}
noncomputable def tOrX(K:W.Frag)(ta tb:TE):TE:=fun σ H Q=>ta σ H fun x H1=> ∃k,TruV K x H1 k/\if k=true then Q x H1 else tb σ H1 Q
theorem zfE(ha:PE X a ta)(hb:PE X (.BoolOp .Or (b::rest) pos) tb):PE X (.BoolOp .Or (a::b::rest) pos) (tOrX X.K ta tb):=by
 intro pins s σ H Q I h
 refine BoolOp_or (thn (ha pins s σ H _ I h) fun v s1 ⟨x,H1,I1,r1,q1⟩=> ?_)
 obtain⟨k,e,q1⟩:=q1
 refine thn (zcy pins s1 σ H1 x v (fun c H2=>c=k/\H2=H1) I1 r1 ⟨k,e,rfl,rfl⟩) fun c s2 ⟨H2,I2,hc⟩=> ?_
 obtain⟨rfl,rfl⟩:=hc
 cases c with
 |false=>exact hb pins s2 σ H2 Q I2 q1
 |true=>exact⟨x,H2,I2,r1,q1⟩
end
section
variable{X:Cx}{tg:Expr}
noncomputable def Rg3(i j c:Int):Prop:=c≠0/\c.natAbs<1073741824/\Builtin.Range.small i j c=true/\0<=Builtin.Range.rangeSize i j c
instance(i j c:Int):Decidable (Rg3 i j c):=by unfold Rg3;infer_instance
end
end L2
namespace Mi
open PySem L2
structure ItK where
 k:Nat
 at':Nat->List (Option D)->Option (Option D)
 len:List (Option D)->Nat
noncomputable def zfF(i:Nat):List (Option D)->Option (Option D)
 |some c::_=>(lstD c).map fun ds=>ds[i]?
 |_=>none
noncomputable def zbL(i:Nat):List (Option D)->Option (Option D)
 |some (.tup ds)::_=>some ds[i]?
 |_=>none
noncomputable def z7r:List (Option D)->Nat
 |some (.tup ds)::_=>ds.length
 |some (.lst _ ds)::_=>ds.length
 |some (.ro ds)::_=>ds.length
 |_=>0
noncomputable def kLst:ItK:=⟨1,zfF,z7r⟩
noncomputable def kTup:ItK:=⟨1,zbL,z7r⟩
noncomputable def kRng(lo:Int)(n:Nat):ItK:=⟨0,fun i _=>some (if i<n then some (.int (lo+i)) else none),fun _=>n⟩
noncomputable def Stt.popn(s:Stt)(k:Nat):Stt:={s with tm:=s.tm.drop k}
section
variable{X:Cx}{G:Gx}{F:Fy}{e a b c tg iter:Expr}{pos:Pos}
theorem MR.popn{F:Fx}{ρ:Nat->Addr}{H:Hp}{σv tvs tv:List (Option V)}{s:Stt}(M:MR G F ρ H σv (tvs++tv) s):MR G F ρ H σv tv (s.popn tvs.length):=by
 have sub: ∀l∈z1p (s.popn tvs.length),l∈z1p s:=fun l h=>by
  rcases List.mem_append.mp h with h|h
  ·exact List.mem_append_left _ h
  ·refine List.mem_append_right _ ?_
   have e:=z0f (s.tm.take tvs.length) (s.tm.drop tvs.length)
   rw[List.take_append_drop] at e
   rw[e]
   exact List.mem_append_right _ h
 exact⟨M.sl,(Sl.split tvs M.tm).2,M.inj,M.dom,fun l h=>M.lab l (sub l h),fun l h=>M.own l (sub l h),M.frm,M.kd,M.frb,M.bas⟩
noncomputable def ItOK(G:Gx)(J:It)(K:ItK)(tvs:List (Option V)):Prop:= ∀(F:Fx) ρ H σv tvp tv s i,MR G F ρ H σv (tvp++(tvs++tv)) s->match K.at' i (s.tm.drop tvp.length) with
 |none=>True
 |some none=>J.stop i H
 |some (some d)=>J.go i H/\∀x H',J.yld i H x H'->MRL G F ρ H' σv (tvp++(tvs++tv)) s [d] [x]
noncomputable def tI(G:Gx)(F:Fy)(m:M ItK):TI:=fun σv H R=> ∃tv,F.tv0<:+tv/\∃ρ s,MR G F.toFx ρ H σv tv s/\match m s with
 | .ok K s'=> ∀ρ' H' tvs J,tvs.length=K.k->MR G F.toFx ρ' H' σv (tvs++tv) s'->ItOK G J K tvs->R J H'
 | .ex d s'=>F.xw d s'
 | .no=>False
noncomputable def SI(X:Cx)(G:Gx)(F:Fy)(tg iter:Expr)(m:M ItK):Prop:=PI X tg iter (tI G F m)
theorem PI.imp0{w w':TI}(h:PI X tg iter w)(hi: ∀σ H R,w' σ H R->w σ H R):PI X tg iter w':=fun pins s σ H R I q=>h pins s σ H R I (hi σ H R q)
noncomputable def iSeq(K:W.Frag)(tl:TE):TI:=fun σ H R=>tl σ H fun x H1=> ∃a,x= .ref a/\(((∃xs,SqL K H1 a xs)/\R (Itl K a) H1)\/((∃xs,SqT K H1 a xs)/\R (Itt K a) H1))
theorem zfG{l:Expr}{tl:TE}(hl:PE X l tl):PI X tg l (iSeq X.K tl):=by
 intro pins s σ H R I h
 refine thn (hl pins s σ H _ I h) fun v s1 ⟨x,H1,I1,r1,q1⟩=> ?_
 obtain⟨a,e,q|q⟩:=q1
 ·subst e
  cases r1
  obtain⟨⟨xs,hq⟩,q⟩:=q
  obtain⟨its,rv,p,hz⟩:=I1.list hq
  refine wpAny_pyIter_list p.isList ?_
  refine⟨s1.heap.objs.size,[s1.heap.objs.size],_,_,H1,rfl,I1.kept (t':=s1.toks) fun b o e=>Heap.get?_push_of_some _ e,z9P a _,⟨_,Heap.get?_push_size _ rfl,rfl,rfl⟩,fun b hb=> ?_,q⟩
  have e:b=s1.heap.objs.size:=by simpa using hb
  subst e
  exact I1.fpOk (Nat.le_refl _) (I1.hok.fresh (Nat.le_refl _))
 ·subst e
  cases r1
  obtain⟨⟨xs,hq⟩,q⟩:=q
  obtain⟨its,rv,p,hz⟩:=I1.tuple hq
  refine wpAny_pyIter_tuple (show s1.heap.IsTuple a its.toArray from p) ?_
  refine⟨s1.heap.objs.size,[s1.heap.objs.size],_,_,H1,rfl,I1.kept (t':=s1.toks) fun b o e=>Heap.get?_push_of_some _ e,z9e a _,⟨_,Heap.get?_push_size _ rfl,rfl,rfl⟩,fun b hb=> ?_,q⟩
  have e:b=s1.heap.objs.size:=by simpa using hb
  subst e
  exact I1.fpOk (Nat.le_refl _) (I1.hok.fresh (Nat.le_refl _))
noncomputable def z1j(m:M D):M ItK:=bd m fun d s=>match d with
 | .tup _=> .ok kTup (s.psh d)
 | .lst _ _=> .ok kLst (s.psh d)
 | .ro _=> .ok kLst (s.psh d)
 |_=> .no
theorem SqT.two{K:W.Frag}{H:Hp}{a:Addr}{xs ys:List V}(k:KD K H)(h:SqT K H a xs)(h':SqT K H a ys):xs=ys:=by
 rcases h with(h|⟨o,h⟩)|⟨o,its,n,h,_,hd,_,r⟩<;>rcases h' with(h'|⟨o',h'⟩)|⟨o',its',n',h',_,hd',_,r'⟩
 ·rw[h] at h';cases h';rfl
 ·rw[h] at h';cases h'
 ·rw[k _ _ h'] at h;cases h
 ·rw[h] at h';cases h'
 ·rw[h] at h';cases h';rfl
 ·rw[k _ _ h'] at h;cases h
 ·rw[k _ _ h] at h';cases h'
 ·rw[k _ _ h] at h';cases h'
 ·rw[h] at h';cases h';rw[hd] at hd';cases hd';exact r.inj r'
theorem SqL.two{K:W.Frag}{H:Hp}{a:Addr}{xs ys:List V}(k:KD K H)(h:SqL K H a xs)(h':SqL K H a ys):xs=ys:=by
 rcases h with(h|⟨o,h⟩)|⟨o,its,n,h,_,_,hd,_,r⟩<;>rcases h' with(h'|⟨o',h'⟩)|⟨o',its',n',h',_,_,hd',_,r'⟩
 ·rw[h] at h';cases h';rfl
 ·rw[h] at h';cases h'
 ·rw[k _ _ h'] at h;cases h
 ·rw[h] at h';cases h'
 ·rw[h] at h';cases h';rfl
 ·rw[k _ _ h'] at h;cases h
 ·rw[k _ _ h] at h';cases h'
 ·rw[k _ _ h] at h';cases h'
 ·rw[h] at h';cases h';rw[hd] at hd';cases hd';exact r.inj r'
theorem MR.head{F:Fx}{ρ:Nat->Addr}{H:Hp}{σv tv:List (Option V)}{s:Stt}{v:V}{c:D}{r:List (Option D)}(M:MR G F ρ H σv (some v::tv) s)(e:s.tm=some c::r):RD G ρ H c v/\LB F ρ s.n (labs c):=by
 obtain⟨σ,tm,n⟩:=s
 have e:tm=some c::r:=e
 subst e
 exact⟨MR.top (s:=⟨σ,r,n⟩) M,MR.topl (s:=⟨σ,r,n⟩) M⟩
theorem z8E{a:Addr}:ItOK G (Itl G.K a) kLst [some (.ref a)]:=by
 intro F ρ H σv tvp tv s i M
 dsimp only[kLst]
 cases e:s.tm.drop tvp.length with
 |nil=>trivial
 |cons o r=>
  cases o with
  |none=>trivial
  |some c=>
   simp only[zfF]
   obtain⟨h,lb⟩:=MR.head (s:=s.popn tvp.length) M.popn e
   cases e1:lstD c with
   |none=>trivial
   |some ds=>
    simp only[Option.map_some]
    obtain⟨a',xs,ea,sq,rr,sub⟩:=h.lstq e1
    cases ea
    cases e2:ds[i]? with
    |none=>
     refine⟨xs,sq, ?_⟩
     rw[<-rr.length]
     exact List.getElem?_eq_none_iff.mp e2
    |some d=>
     obtain⟨x,ex,rx⟩:=rr.get i d e2
     refine⟨⟨xs,x,sq,ex⟩, ?_⟩
     rintro x' H' ⟨rfl,hx⟩
     rw[hx xs sq] at ex
     cases ex
     exact⟨M,RDs.one rx,fun l hl=>lb l (sub l (labsL_mem (List.mem_of_getElem? e2) l (by simpa only[z02,List.append_nil] using hl)))⟩
theorem zbM{a:Addr}:ItOK G (Itt G.K a) kTup [some (.ref a)]:=by
 intro F ρ H σv tvp tv s i M
 dsimp only[kTup]
 cases e:s.tm.drop tvp.length with
 |nil=>trivial
 |cons o r=>
  cases o with
  |none=>trivial
  |some c=>
   obtain⟨h,lb⟩:=MR.head (s:=s.popn tvp.length) M.popn e
   cases c with
   |tup ds=>
    simp only[zbL]
    obtain⟨a',xs,ea,sq,rr⟩:=h.tupq
    cases ea
    cases e2:ds[i]? with
    |none=>
     refine⟨xs,sq, ?_⟩
     rw[<-rr.length]
     exact List.getElem?_eq_none_iff.mp e2
    |some d=>
     obtain⟨x,ex,rx⟩:=rr.get i d e2
     refine⟨⟨xs,x,sq,ex⟩, ?_⟩
     rintro x' H' ⟨rfl,hx⟩
     rw[hx xs sq] at ex
     cases ex
     exact⟨M,RDs.one rx,fun l hl=>lb l (by simp only[labs];exact labsL_mem (List.mem_of_getElem? e2) l (by simpa only[z02,List.append_nil] using hl))⟩
   |_=>trivial
theorem si_seq{m:M D}(hk:X.K=G.K)(h:SE X G F e m):SI X G F tg e (z1j m):=by
 refine PI.imp0 (zfG h) fun σ H R ⟨tv,hs,ρ,s,M,W⟩=>⟨tv,hs,ρ,s,M, ?_⟩
 unfold z1j bd at W
 cases e:m s with
 |ex d s1=>rw[e] at W;exact W
 |no=>rw[e] at W;exact W
 |ok t s1=>
  rw[e] at W
  intro ρ1 v H1 M1
  rw[hk]
  cases t with
  |tup ds=>
   obtain⟨a,xs,rfl,sq,r⟩:=M1.rd1.tupq
   exact⟨a,rfl, .inr ⟨⟨xs,sq⟩,W ρ1 H1 [some (.ref a)] _ rfl M1.push zbM⟩⟩
  |lst n ds=>
   obtain⟨a,xs,rfl,sq,r,_⟩:=M1.rd1.lstq (ds:=ds) rfl
   exact⟨a,rfl, .inl ⟨⟨xs,sq⟩,W ρ1 H1 [some (.ref a)] _ rfl M1.push z8E⟩⟩
  |ro ds=>
   obtain⟨a,xs,rfl,sq,r,_⟩:=M1.rd1.lstq (ds:=ds) rfl
   exact⟨a,rfl, .inl ⟨⟨xs,sq⟩,W ρ1 H1 [some (.ref a)] _ rfl M1.push z8E⟩⟩
  |_=>exact False.elim W
noncomputable def rng1(ts:List D):M ItK:=match ts with
 |[.int j]=>if -(2^62)<=j/\j<2^62 then rt (kRng 0 j.toNat) else fl
 |_=>fl
noncomputable def rng2(ts:List D):M ItK:=match ts with
 |[.int i, .int j]=>if -(2^62)<=i/\i<2^62/\-(2^62)<=j/\j<2^62 then rt (kRng i (j -i).toNat) else fl
 |_=>fl
noncomputable def z3s(ms:List (M D)):M ItK:=bd (mArgs ms) rng1
noncomputable def z80(ms:List (M D)):M ItK:=bd (mArgs ms) rng2
theorem z8F{lo:Int}{n:Nat}:ItOK G (Itr lo n) (kRng lo n) []:=by
 intro F ρ H σv tvp tv s i M
 simp only[kRng]
 by_cases h:i<n
 ·rw[if_pos h]
  refine⟨h, ?_⟩
  rintro x H' ⟨rfl,rfl⟩
  exact⟨M,RDs.one (by simp only[RD]),fun l hl=>by simp[z02,labs] at hl⟩
 ·rw[if_neg h]
  exact Nat.not_lt.mp h
theorem si_rng1{p:Pos}{ms:List (M D)}(hg:Gl X "range")(hm:X.mg "range" =none)(ha:SA X G F [a] (mArgs ms))(hs:starEach [a] X.env=[(false,eval a X.env)]:=by rfl):SI X G F tg (.Call (.Name "range" p) [a] [] pos) (z3s ms):=by
 refine PI.imp0 (z9Q hg hm ha hs) fun σ H R ⟨tv,hs,ρ,s,M,W⟩=>⟨tv,hs,ρ,s,M, ?_⟩
 unfold z3s bd at W
 cases e:mArgs ms s with
 |ex d s1=>rw[e] at W;exact W
 |no=>rw[e] at W;exact W
 |ok ts s1=>
  rw[e] at W
  intro ρ1 vs H1 M1
  unfold rng1 at W
  dsimp only at W
  split at W
  ·rename_i ts' j K s' hh
   split at hh
   ·split at hh
    ·rename_i j' hc
     cases hh
     obtain⟨v,rfl,h,_⟩:=M1.one
     simp only[RD] at h
     subst h
     exact⟨j',rfl,hc.1,hc.2,W ρ1 H1 [] _ rfl M1.m z8F⟩
    ·cases hh
   ·cases hh
  ·rename_i hh
   split at hh
   ·split at hh<;>cases hh
   ·cases hh
  ·exact False.elim W
theorem si_rng2{p:Pos}{ms:List (M D)}(hg:Gl X "range")(hm:X.mg "range" =none)(ha:SA X G F [a,b] (mArgs ms))(hs:starEach [a,b] X.env=[(false,eval a X.env),(false,eval b X.env)]:=by rfl)(hs2:starEach [b] X.env=[(false,eval b X.env)]:=by rfl):SI X G F tg (.Call (.Name "range" p) [a,b] [] pos) (z80 ms):=by
 refine PI.imp0 (z9R hg hm ha hs hs2) fun σ H R ⟨tv,hs,ρ,s,M,W⟩=>⟨tv,hs,ρ,s,M, ?_⟩
 unfold z80 bd at W
 cases e:mArgs ms s with
 |ex d s1=>rw[e] at W;exact W
 |no=>rw[e] at W;exact W
 |ok ts s1=>
  rw[e] at W
  intro ρ1 vs H1 M1
  unfold rng2 at W
  dsimp only at W
  split at W
  ·rename_i ts' j K s' hh
   split at hh
   ·split at hh
    ·rename_i i' j' hc
     cases hh
     obtain⟨v,u,rfl,h,h'⟩:=M1.two
     simp only[RD] at h h'
     subst h h'
     exact⟨i',j',rfl,hc,W ρ1 H1 [] _ rfl M1.m z8F⟩
    ·cases hh
   ·cases hh
  ·rename_i hh
   split at hh
   ·split at hh<;>cases hh
   ·cases hh
  ·exact False.elim W
noncomputable def forGo(K:ItK)(g:Tg)(b:MS):Nat->Nat->MS
 |f,i=>fun s=>match K.at' i s.tm with
  |none=> .no
  |some none=> .nx (s.popn K.k)
  |some (some d)=>match f with
   |0=> .no
   |f+1=>match asg g d s.σ with
    |none=> .no
    |some σ'=>match b {s with σ:=σ'} with
     | .nx s'=>forGo K g b f (i+1) s'
     | .ct s'=>forGo K g b f (i+1) s'
     | .bk s'=> .nx (s'.popn K.k)
     | .rt t s'=> .rt t (s'.popn K.k)
     | .ex d s'=> .ex d s'
     | .no=> .no
noncomputable def sFor(mi:M ItK)(g:Tg)(b:MS):MS:=lift mi fun K s=>forGo K g b (K.len s.tm) 0 s
theorem MRL.popn{ρ:Nat->Addr}{H:Hp}{σv tvs tv:List (Option V)}{s:Stt}{ts:List D}{vs:List V}(M:MRL G F.toFx ρ H σv (tvs++tv) s ts vs):MRL G F.toFx ρ H σv tv (s.popn tvs.length) ts vs:=⟨M.m.popn,M.rd,M.lb⟩
theorem suf2{tvs tv:List (Option V)}(h:F.tv0<:+tv):F.tv0<:+tvs++tv:=h.trans (List.suffix_append _ _)
theorem zan{m:M ItK}{f:ItK->MS}{tv:List (Option V)}{D:Ends}{σ:St}{H:Hp}{R:It->Hp->Prop}(h:tSv G F (lift m f) tv D σ H)
 (k: ∀K ρ' H' tvs J s',tvs.length=K.k->MR G F.toFx ρ' H' σ (tvs++tv) s'->ItOK G J K tvs->wS G F tv (f K s') D->R J H'):tI G F m σ H R:=by
 obtain⟨hs,ρ,s,M,W⟩:=h
 refine⟨tv,hs,ρ,s,M, ?_⟩
 unfold lift at W
 cases e:m s with
 |ok K s1=>rw[e] at W;exact fun ρ' H' tvs J hl M' hok=>k K ρ' H' tvs J s1 hl M' hok W
 |ex d s1=>rw[e] at W;exact W
 |no=>rw[e] at W;exact W
theorem ss_for{body:List Stmt}{mi:M ItK}{g:Tg}{mb:MS}(hp:PassesOwn (model X.prog X.w) X.A X.env X.xe)(hc:X.calm=true)(hi:SI X G F tg iter mi)(hg:SG X G F tg g)(hb:SSs X G F body mb)(hst: ∀x,foldedSetIterable iter X.env x=pure x:=by intro _;rfl):SS X G F (.For tg iter body [] pos) (sFor mi g mb):=by
 refine PS.imp0 (zeQ hp hc hi hg hb hst) fun D σ H ⟨tv,h⟩=>zan h fun K ρ' H' tvs J s' hl M' hok W=> ?_
 have hs:=h.1
 refine⟨fun i m σ H=> ∃ρ s,MR G F.toFx ρ H σ (tvs++tv) s/\wS G F tv (forGo K g mb m i s) D,⟨_,ρ',s',M',W⟩, ?_⟩
 rintro i m σ H ⟨ρ,s,M,W⟩
 have ok:=hok F.toFx ρ H σ [] tv s i M
 simp only[List.length_nil,List.drop_zero,List.nil_append] at ok
 unfold forGo at W
 cases e:K.at' i s.tm with
 |none=>simp only[e] at W;exact False.elim W
 |some o=>
  cases o with
  |none=>
   simp only[e] at W ok
   refine .inl ⟨ok,W ρ σ H ?_⟩
   rw[<-hl]
   exact M.popn
  |some d=>
   simp only[e] at W ok
   cases m with
   |zero=>exact False.elim W
   |succ f=>
    dsimp only at W
    cases e2:asg g d s.σ with
    |none=>simp only[e2] at W;exact False.elim W
    |some σ'=>
     simp only[e2] at W
     refine .inr ⟨ok.1,fun σ H=> ∃ρ s,MR G F.toFx ρ H σ (tvs++tv) s/\wS G F tv (forGo K g mb f (i+1) s) D,fun σ' H' q=>⟨f,Nat.lt_succ_self _,q⟩,fun x H2 y=> ?_⟩
     refine⟨tvs++tv,ρ,s,d,ok.2 x H2 y,σ',e2,fun σv' M2=>⟨tvs++tv,suf2 hs,ρ,_,M2, ?_⟩⟩
     cases e3:mb {s with σ:=σ'} with
     |nx s2=>simp only[e3] at W;exact fun ρ3 σ3 H3 M3=>⟨ρ3,s2,M3,W⟩
     |ct s2=>simp only[e3] at W;exact fun ρ3 σ3 H3 M3=>⟨ρ3,s2,M3,W⟩
     |bk s2=>simp only[e3] at W;exact fun ρ3 σ3 H3 M3=>W ρ3 σ3 H3 (by rw[<-hl];exact M3.popn)
     |rt t s2=>simp only[e3] at W;exact fun ρ3 σ3 v H3 M3=>W ρ3 σ3 v H3 (by rw[<-hl];exact M3.popn)
     |ex d s2=>simp only[e3] at W;exact W
     |no=>simp only[e3] at W;exact W
end
noncomputable def z08:List (Option D)->Option (List D)
 |[]=>some []
 |some d::r=>(z08 r).map (d:: ·)
 |none::_=>none
noncomputable def z1t(K:ItK)(g:Tg)(mt:M Bool)(me:M D)(ol:Nat):Nat->Nat->Nat->M D
 |f,i,k=>fun s=>match K.at' i (s.tm.drop (k+ol)) with
  |none=> .no
  |some none=>match z08 (s.tm.take k).reverse with
   |some ds=> .ok (.lst s.n ds) {σ:=(s.tm.drop k).take ol,tm:=s.tm.drop (k+ol+K.k),n:=s.n+1}
   |none=> .no
  |some (some d)=>match f with
   |0=> .no
   |f+1=>match asg g d s.σ with
    |none=> .no
    |some σ'=>match mt {s with σ:=σ'} with
     | .ok false s1=>z1t K g mt me ol f (i+1) k s1
     | .ok true s1=>if k<sizeLine then match me s1 with
      | .ok y s2=>z1t K g mt me ol f (i+1) (k+1) (s2.psh y)
      |_=> .no
      else .no
     |_=> .no
noncomputable def z8G(own:Nat)(ix:List Nat)(s:Stt):Stt:={σ:=List.replicate own none++ix.map (fun i=>(s.σ[i]?).getD none),tm:=s.σ++s.tm,n:=s.n}
noncomputable def z0t(mi:M ItK)(g:Tg)(mt:M Bool)(me:M D)(own:Nat)(ix:List Nat):M D:=bd mi fun K s=>z1t K g mt me s.σ.length (K.len s.tm) 0 0 (z8G own ix s)
section
variable{X:Cx}{G:Gx}{F:Fy}{e a b c tg iter elt:Expr}{pos:Pos}
noncomputable def Fy.prot(F:Fy)(D:Addr)(ys:List V)(h:F.H0 D=none):Fy where
 A0:=F.A0
 H0:=upd F.H0 D (.lst ys)
 Z:=fun a=>a=D\/F.Z a
 zA:=fun a z=>by
  rcases z with rfl|z
  ·exact⟨⟨_,z0h⟩,fun q=>by obtain⟨o,e⟩:=F.aH _ q;rw[h] at e;cases e⟩
  ·obtain⟨⟨o,e⟩,n⟩:=F.zA a z
   exact⟨⟨o,by rw[z0c (z1a e h)];exact e⟩,n⟩
 aH:=fun a q=>by
  obtain⟨o,e⟩:=F.aH a q
  exact⟨o,by rw[z0c (z1a e h)];exact e⟩
 n0:=F.n0
 ρ0:=F.ρ0
 tv0:=[]
 xw:=fun _ _=>False
theorem Sl.none_map{ρ:Nat->Addr}{H:Hp}: ∀k:Nat,Sl G ρ H (List.replicate k none) (List.replicate k none)
 |0=>by simp[Sl]
 |k+1=>by simp only[List.replicate_succ,Sl];exact⟨_,_,rfl,Sl.none_map k⟩
theorem Sl.pick{ρ:Nat->Addr}{H:Hp}{σ:List (Option D)}{σv:List (Option V)}(h:Sl G ρ H σ σv): ∀ix:List Nat,Sl G ρ H (ix.map fun i=>(σ[i]?).getD none) (ix.map fun i=>(σv[i]?).getD none)
 |[]=>by simp[Sl]
 |i::ix=>by
  simp only[List.map_cons]
  cases e:σ[i]? with
  |none=>simp only[Option.getD_none,Sl];exact⟨_,_,rfl,Sl.pick h ix⟩
  |some o=>
   cases o with
   |none=>simp only[Option.getD_some,Sl];exact⟨_,_,rfl,Sl.pick h ix⟩
   |some d=>
    obtain⟨v,e1,r⟩:=h.get i d e
    simp only[Option.getD_some,Sl,e1]
    exact⟨_,_,rfl,r,Sl.pick h ix⟩
theorem z4o{σ:List (Option D)}{l:Nat}: ∀{ix:List Nat},l∈z0b (ix.map fun i=>(σ[i]?).getD none)->l∈z0b σ
 |[],h=>by simp[z0b] at h
 |i::ix,h=>by
  simp only[List.map_cons] at h
  cases e:σ[i]? with
  |none=>rw[e] at h;simp only[Option.getD_none,z0b] at h;exact z4o h
  |some o=>
   rw[e] at h
   cases o with
   |none=>simp only[Option.getD_some,z0b] at h;exact z4o h
   |some d=>
    simp only[Option.getD_some,z0b] at h
    rcases List.mem_append.mp h with h|h
    ·exact z4m e l h
    ·exact z4o h
theorem z3t{l:Nat}: ∀k:Nat,¬l∈z0b (List.replicate k (none:Option D))
 |0,h=>by simp[z0b] at h
 |k+1,h=>by simp only[List.replicate_succ,z0b] at h;exact z3t k h
theorem MR.enter{ρ:Nat->Addr}{H:Hp}{σv tv:List (Option V)}{s:Stt}{D:Addr}(M:MR G F.toFx ρ H σv tv s)(hD:H D=none)(k:KD G.K (upd H D (.lst [])))(own:Nat)(ix:List Nat):
 MR G (F.prot D [] (M.fresh0 hD)).toFx ρ (upd H D (.lst [])) (z3V own ix σv) (σv++tv) (z8G own ix s):=by
 have sm:=Same.new (.lst []) hD
 have M1:=M.same sm k
 have nD: ∀l,l<s.n->ρ l≠D:=fun l hl e=>by
  obtain⟨o,q⟩:=M.dom l hl
  rw[e,hD] at q;cases q
 have sub: ∀l∈z1p (z8G own ix s),l∈z1p s:=fun l h=>by
  rcases List.mem_append.mp h with h|h
  ·have h:l∈z0b (List.replicate own none++ix.map (fun i=>(s.σ[i]?).getD none)):=h
   rw[z0f] at h
   rcases List.mem_append.mp h with h|h
   ·exact absurd h (z3t own)
   ·exact List.mem_append_left _ (z4o h)
  ·have h:l∈z0b (s.σ++s.tm):=h
   rw[z0f] at h
   exact h
 refine⟨?_,M1.sl.append M1.tm,M1.inj,M1.dom,fun l h=>M.lab l (sub l h),fun l h=> ?_,fun a o e=> ?_,k,fun l hl z=> ?_,M.bas⟩
 ·exact(Sl.none_map own).append (M1.sl.pick ix)
 ·rcases M.own l (sub l h) with q|q
  ·exact .inl q
  ·refine .inr ?_
   show upd F.H0 D (.lst []) (ρ l)=none
   rw[z0c (nD l (M.lab l (sub l h)))];exact q
 ·have e:upd F.H0 D (.lst []) a=some o:=e
  by_cases ha:a=D
  ·subst ha
   rw[z0h] at e;cases e
   exact⟨⟨_,z0h⟩,fun _=>z0h⟩
  ·rw[z0c ha] at e
   exact M1.frm a o e
 ·rcases z with z|z
  ·exact nD l hl z
  ·exact M.frb l hl z
theorem MR.turnD{ρ:Nat->Addr}{H:Hp}{σv tv:List (Option V)}{s:Stt}{D:Addr}{ys ys':List V}{hf:F.H0 D=none}(M:MR G (F.prot D ys hf).toFx ρ H σv tv s):
 H D=some (.lst ys)/\MR G (F.prot D ys' hf).toFx ρ (upd H D (.lst ys')) σv tv s:=by
 have hD:H D=some (.lst ys):=(M.frm D (.lst ys) z0h).2 ((F.prot D ys hf).zA D (.inl rfl)).2
 have nD: ∀l,l<s.n->ρ l≠D:=fun l hl e=>M.frb l hl (.inl e)
 have st:z2a H (upd H D (.lst ys')):=⟨fun b xs e=>by rw[z0c (zbo e hD (by intro z;cases z))];exact e,fun b o u e=>by rw[z0c (zbo e hD (by intro z;cases z))];exact e⟩
 refine⟨hD,⟨Sl.stay st M.sl fun l hl=>⟨rfl,fun o e=> ?_⟩,Sl.stay st M.tm fun l hl=>⟨rfl,fun o e=> ?_⟩,M.inj,fun l hl=> ?_,M.lab,fun l h=> ?_,fun a o e=> ?_,fun a o e=> ?_,fun l hl=>M.frb l hl,M.bas⟩⟩
 ·rw[z0c (nD l (M.lab l (List.mem_append_left _ hl)))];exact e
 ·rw[z0c (nD l (M.lab l (List.mem_append_right _ hl)))];exact e
 ·rw[z0c (nD l hl)];exact M.dom l hl
 ·rcases M.own l h with q|q
  ·exact .inl q
  ·refine .inr ?_
   have q:upd F.H0 D (.lst ys) (ρ l)=none:=q
   show upd F.H0 D (.lst ys') (ρ l)=none
   rw[z0c (nD l (M.lab l h))] at q⊢;exact q
 ·have e:upd F.H0 D (.lst ys') a=some o:=e
  by_cases ha:a=D
  ·subst ha
   rw[z0h] at e;cases e
   exact⟨⟨_,z0h⟩,fun _=>z0h⟩
  ·rw[z0c ha] at e⊢
   exact M.frm a o (by show upd F.H0 D (.lst ys) a=some o;rw[z0c ha];exact e)
 ·by_cases ha:a=D
  ·subst ha
   rw[M.kd a o e] at hD;cases hD
  ·rw[z0c ha];exact M.kd a o e
theorem Sl.all{ρ:Nat->Addr}{H:Hp}: ∀{tm:List (Option D)} {ys:List V} {ds:List D},Sl G ρ H tm (ys.map some)->z08 tm=some ds->RDs G ρ H ds ys/\z02 ds=z0b tm
 |[],ys,ds,h,e=>by
  simp only[Sl] at h
  simp only[z08,Option.some.injEq] at e
  subst e
  have:ys=[]:=by simpa using h
  subst this
  simp[RDs,z02,z0b]
 |none::r,ys,ds,h,e=>by simp only[z08] at e;cases e
 |some d::r,ys,ds,h,e=>by
  simp only[Sl] at h
  obtain⟨v,q,e1,h1,h2⟩:=h
  cases ys with
  |nil=>cases e1
  |cons y ys=>
   simp only[List.map_cons,List.cons.injEq,Option.some.injEq] at e1
   obtain⟨rfl,rfl⟩:=e1
   simp only[z08] at e
   cases e2:z08 r with
   |none=>rw[e2] at e;cases e
   |some es=>
    rw[e2] at e
    cases e
    obtain⟨r1,r2⟩:=Sl.all h2 e2
    refine⟨?_,by simp only[z02,z0b,r2]⟩
    simp only[RDs]
    exact⟨_,_,rfl,h1,r1⟩
theorem Sl.reverse{ρ:Nat->Addr}{H:Hp}: ∀{tm:List (Option D)} {ys:List (Option V)},Sl G ρ H tm ys->Sl G ρ H tm.reverse ys.reverse
 |[],ys,h=>by simp only[Sl] at h;subst h;simp[Sl]
 |none::r,ys,h=>by
  simp only[Sl] at h
  obtain⟨o,q,rfl,h⟩:=h
  rw[List.reverse_cons,List.reverse_cons]
  exact(Sl.reverse h).append (by simp only[Sl];exact⟨_,_,rfl,rfl⟩)
 |some d::r,ys,h=>by
  simp only[Sl] at h
  obtain⟨o,q,rfl,h1,h⟩:=h
  rw[List.reverse_cons,List.reverse_cons]
  exact(Sl.reverse h).append (by simp only[Sl];exact⟨_,_,rfl,h1,rfl⟩)
theorem z5v{l:Nat}: ∀{tm:List (Option D)},l∈z0b tm.reverse↔l∈z0b tm
 |[]=>by simp
 |none::r=>by
  rw[List.reverse_cons,z0f]
  simp only[z0b,List.append_nil]
  exact z5v
 |some d::r=>by
  rw[List.reverse_cons,z0f]
  simp only[z0b,List.append_nil,List.mem_append]
  rw[z5v]
  exact Or.comm
theorem MR.leave{ρ:Nat->Addr}{H:Hp}{σi σv tvs tv:List (Option V)}{s:Stt}{A1:Addr}{ys:List V}{hf:F.H0 A1=none}{ds:List D}{kk:Nat}
 (M:MR G (F.prot A1 ys hf).toFx ρ H σi ((ys.reverse.map some)++(σv++(tvs++tv))) s) (hk:tvs.length=kk) (ol:Nat) (ho:σv.length=ol) (e:z08 (s.tm.take ys.length).reverse=some ds):
 MRL G F.toFx (ext ρ s.n A1) H σv tv {σ:=(s.tm.drop ys.length).take ol,tm:=s.tm.drop (ys.length+ol+kk),n:=s.n+1} [.lst s.n ds] [.ref A1]:=by
 subst hk ho
 have hD:=(MR.turnD (ys':=ys) M).1
 have nD: ∀l,l<s.n->ρ l≠A1:=fun l hl e=>M.frb l hl (.inl e)
 have t0:=Sl.split (ys.reverse.map some) M.tm
 simp only[List.length_map,List.length_reverse] at t0
 obtain⟨t1,t2⟩:=t0
 obtain⟨t3,t4⟩:=Sl.split σv t2
 obtain⟨_,t6⟩:=Sl.split tvs t4
 rw[List.drop_drop] at t4
 rw[List.drop_drop,List.drop_drop] at t6
 have t6':Sl G ρ H (s.tm.drop (ys.length+σv.length+tvs.length)) tv:=by rw[Nat.add_assoc];exact t6
 have t1':=t1.reverse
 rw[<-List.map_reverse,List.reverse_reverse] at t1'
 obtain⟨r1,r2⟩:=Sl.all t1' e
 have lt: ∀l,l∈z0b (s.tm.take ys.length)->l∈z1p s:=fun l h=>List.mem_append_right _ (by
  have e:=z0f (s.tm.take ys.length) (s.tm.drop ys.length)
  rw[List.take_append_drop] at e
  rw[e];exact List.mem_append_left _ h)
 have ld: ∀l k,l∈z0b (s.tm.drop k)->l∈z1p s:=fun l k h=>List.mem_append_right _ (by
  have e:=z0f (s.tm.take k) (s.tm.drop k)
  rw[List.take_append_drop] at e
  rw[e];exact List.mem_append_right _ h)
 have ldt: ∀l k j,l∈z0b ((s.tm.drop k).take j)->l∈z1p s:=fun l k j h=>ld l k (by
  have e:=z0f ((s.tm.drop k).take j) ((s.tm.drop k).drop j)
  rw[List.take_append_drop] at e
  rw[e];exact List.mem_append_left _ h)
 have own: ∀l∈z1p s,F.A0 (ρ l)\/F.H0 (ρ l)=none:=fun l h=>by
  rcases M.own l h with q|q
  ·exact .inl q
  ·refine .inr ?_
   have q:upd F.H0 A1 (.lst ys) (ρ l)=none:=q
   rw[z0c (nD l (M.lab l h))] at q;exact q
 have st:=z2a.refl H
 have stay: ∀l,l<s.n->ext ρ s.n A1 l=ρ l/\∀o,H (ρ l)=some o->H (ρ l)=some o:=fun l hl=>⟨z0v hl,fun o e=>e⟩
 have all: ∀l∈z1p {σ:=(s.tm.drop ys.length).take σv.length,tm:=s.tm.drop (ys.length+σv.length+tvs.length),n:=s.n+1},l∈z1p s:=fun l h=>by
  rcases List.mem_append.mp h with h|h
  ·exact ldt l _ _ h
  ·exact ld l _ h
 have dsl: ∀l∈z02 ds,l∈z1p s:=fun l h=>lt l (by rw[r2] at h;exact z5v.mp h)
 refine⟨⟨Sl.stay st t3 fun l hl=>stay l (M.lab l (ldt l _ _ hl)),Sl.stay st t6' fun l hl=>stay l (M.lab l (ld l _ hl)),fun i j hi hj eq=> ?_,fun l hl=> ?_,fun l h=>Nat.lt_succ_of_lt (M.lab l (all l h)),fun l h=> ?_,fun a o e=> ?_,M.kd,fun l hl z=> ?_,⟨Nat.le_succ_of_le M.bas.1,fun l hl=>by rw[z0v (Nat.lt_of_lt_of_le hl M.bas.1)];exact M.bas.2 l hl⟩⟩, ?_,fun l h=> ?_⟩
 ·have hi:i<s.n+1:=hi
  have hj:j<s.n+1:=hj
  by_cases h1:i=s.n
  ·by_cases h2:j=s.n
   ·lia
   ·rw[h1,z1z,z0v (by lia)] at eq
    exact absurd eq.symm (nD j (by lia))
  ·by_cases h2:j=s.n
   ·rw[h2,z1z,z0v (by lia)] at eq
    exact absurd eq (nD i (by lia))
   ·rw[z0v (by lia),z0v (by lia)] at eq
    exact M.inj i j (by lia) (by lia) eq
 ·have hl:l<s.n+1:=hl
  by_cases h1:l=s.n
  ·subst h1;rw[z1z];exact⟨_,hD⟩
  ·rw[z0v (by lia)];exact M.dom l (by lia)
 ·rw[z0v (M.lab l (all l h))];exact own l (all l h)
 ·exact M.frm a o (by show upd F.H0 A1 (.lst ys) a=some o;rw[z0c (z1a e hf)];exact e)
 ·have hl:l<s.n+1:=hl
  by_cases h1:l=s.n
  ·subst h1;rw[z1z] at z
   obtain⟨⟨o,e⟩,_⟩:=F.zA A1 z
   rw[hf] at e;cases e
  ·rw[z0v (by lia)] at z
   exact M.frb l (by lia) (.inr z)
 ·refine RDs.one ?_
  simp only[RD]
  rw[z1z]
  exact⟨rfl,ys,hD,RDs.stay st ds ys r1 fun l hl=>stay l (M.lab l (dsl l hl))⟩
 ·simp only[z02,labs,List.append_nil] at h
  rcases List.mem_cons.mp h with q|q
  ·rw[q,z1z];exact⟨Nat.lt_succ_self _, .inr hf⟩
  ·have q2:=dsl l q
   exact⟨Nat.lt_succ_of_lt (M.lab l q2),by rw[z0v (M.lab l q2)];exact own l q2⟩
noncomputable def tMx(G:Gx)(m:M D):TE:=fun σ H Q=> ∃F:Fy,tM G F m σ H Q
noncomputable def tBx(G:Gx)(m:M Bool):TT:=fun σ H Q=> ∃F:Fy,tMB G F m σ H Q
noncomputable def tGx(G:Gx)(g:Tg):TG:=fun v σ H Q=> ∃F:Fy,tGn G F g v σ H Q
noncomputable def STs(X:Cx)(G:Gx)(F:Fy)(ifs:List Expr)(m:M Bool):Prop:=PTs X ifs (tMB G F m)
theorem sts_nil:STs X G F [] (rt true):=fun pins s σ H Q I ⟨tv,hs,ρ,ms,M,W⟩=>zdF pins s σ H Q I (W ρ H M)
theorem sts_one{m:M Bool}(h:SB X G F c m):STs X G F [c] m:=zdG h
theorem z8H{K:W.Frag}{k:Nat}{ix:List Nat}{mi:M ItK}{g:Tg}{mt:M Bool}{me:M D}{σ:St}{H:Hp}{Q:VK}(hk:K=G.K)(h:tM G F (z0t mi g mt me k ix) σ H Q):zaj K (tI G F mi) (tGx G g) (tBx G mt) (tMx G me) k ix σ H Q:=by
 obtain⟨tv,hsf,ρ,s,M,W⟩:=h
 refine⟨tv,hsf,ρ,s,M, ?_⟩
 unfold z0t bd at W
 cases em:mi s with
 |ex d s1=>rw[em] at W;exact W
 |no=>rw[em] at W;exact W
 |ok K s1=>
  rw[em] at W
  intro ρ1 H1 tvs J hl M1 hok A1 hA1 kd
  subst hk
  have kd:KD G.K (upd H1 A1 (.lst [])):=kd
  have hf:=M1.fresh0 hA1
  refine⟨fun i m ys σ' H'=> ∃ρ s,MR G (F.prot A1 ys hf).toFx ρ H' σ' ((ys.reverse.map some)++(σ++(tvs++tv))) s/\wM G F σ tv (z1t K g mt me s1.σ.length m i ys.length s) Q,⟨_,ρ1,_,M1.enter hA1 kd k ix,W⟩, ?_⟩
  rintro i m ys σ' H' ⟨ρ2,s2,M2,W2⟩
  have hD:=(MR.turnD (ys':=ys) M2).1
  refine⟨hD, ?_⟩
  have ol:s1.σ.length=σ.length:=M1.sl.length
  have ok:=hok (F.prot A1 ys hf).toFx ρ2 H' σ' ((ys.reverse.map some)++σ) tv s2 i (by rw[List.append_assoc];exact M2)
  simp only[List.length_append,List.length_map,List.length_reverse,<-ol,List.append_assoc] at ok
  unfold z1t at W2
  cases e:K.at' i (s2.tm.drop (ys.length+s1.σ.length)) with
  |none=>simp only[e] at W2;exact False.elim W2
  |some o=>
   rw[e] at ok
   cases o with
   |none=>
    simp only[e] at W2 ok
    refine .inl ⟨ok, ?_⟩
    cases ea:z08 (s2.tm.take ys.length).reverse with
    |none=>simp only[ea] at W2;exact False.elim W2
    |some ds=>
     simp only[ea] at W2
     exact W2 _ _ _ (MR.leave M2 hl _ ol.symm ea)
   |some d=>
    simp only[e] at W2 ok
    cases m with
    |zero=>exact False.elim W2
    |succ f=>
     dsimp only at W2
     cases e2:asg g d s2.σ with
     |none=>simp only[e2] at W2;exact False.elim W2
     |some σ3=>
      simp only[e2] at W2
      refine .inr ⟨ok.1,fun x H2 y=> ?_⟩
      have hx:=ok.2 x H2 y
      refine⟨F.prot A1 ys hf,_,ρ2,s2,d,hx,σ3,e2,fun σv' M3=>⟨F.prot A1 ys hf,_,List.nil_suffix,ρ2,_,M3, ?_⟩⟩
      cases e3:mt {s2 with σ:=σ3} with
      |ex d s4=>simp only[e3] at W2;exact False.elim W2
      |no=>simp only[e3] at W2;exact False.elim W2
      |ok b s4=>
       intro ρ4 H4 M4
       cases b with
       |false=>
        simp only[e3] at W2
        rw[if_neg Bool.false_ne_true]
        exact⟨f,Nat.lt_succ_self _,ρ4,s4,M4,W2⟩
       |true=>
        simp only[e3] at W2
        rw[if_pos rfl]
        by_cases hz:ys.length<sizeLine
        ·rw[if_pos hz] at W2
         refine⟨F.prot A1 ys hf,_,List.nil_suffix,ρ4,s4,M4, ?_⟩
         cases e5:me s4 with
         |ex d s5=>simp only[e5] at W2;exact False.elim W2
         |no=>simp only[e5] at W2;exact False.elim W2
         |ok y s5=>
          simp only[e5] at W2
          intro ρ5 v H5 M5
          obtain⟨hD5,M6⟩:=MR.turnD (ys':=ys++[v]) M5.push
          refine⟨hD5,hz,f,Nat.lt_succ_self _,ρ5,s5.psh y, ?_, ?_⟩
          ·rw[List.reverse_append,List.reverse_cons,List.reverse_nil,List.nil_append,List.map_append]
           exact M6
          ·rw[List.length_append];exact W2
        ·rw[if_neg hz] at W2;exact False.elim W2
theorem se_comp{scope:Scope}{own frees:List Str}{ix:List Nat}{ifs:List Expr}{mi:M ItK}{g:Tg}{mt:M Bool}{me:M D}(hk:X.K=G.K)(hc:X.calm=true)(S:z1P X.env.scope scope own frees X.N ix)(hi:SI X G F tg iter mi)
 (hg: ∀(F:Fy) cl C s₀ H₀ fp pn,SG (z0T X scope own frees cl C s₀ H₀ fp pn) G F tg g) (ht: ∀(F:Fy) cl C s₀ H₀ fp pn,STs (z0T X scope own frees cl C s₀ H₀ fp pn) G F ifs mt) (he: ∀(F:Fy) cl C s₀ H₀ fp pn,SE (z0T X scope own frees cl C s₀ H₀ fp pn) G F elt me)
 (hs: ∀x,foldedSetIterable iter X.env x=pure x:=by intro _;rfl):SE X G F (.ListComp elt [⟨tg,iter,ifs,0⟩] scope pos) (z0t mi g mt me own.length ix):=
 PE.imp0 (zak (g:=tGx G g) (tt:=tBx G mt) (te:=tMx G me) hc S hi (fun cl C s₀ H₀ fp pn pins s σ H v u Q I r ⟨F',q⟩=>hg F' cl C s₀ H₀ fp pn pins s σ H v u Q I r q)
  (fun cl C s₀ H₀ fp pn pins s σ H Q I ⟨F',q⟩=>ht F' cl C s₀ H₀ fp pn pins s σ H Q I q) (fun cl C s₀ H₀ fp pn pins s σ H Q I ⟨F',q⟩=>he F' cl C s₀ H₀ fp pn pins s σ H Q I q) hs) fun σ H Q h=>z8H hk h
theorem ss_comp{y:Str}{py spos:Pos}{i:Nat}{scope:Scope}{own frees:List Str}{ix:List Nat}{ifs:List Expr}{mi:M ItK}{g:Tg}{mt:M Bool}{me:M D}(hk:X.K=G.K)(hN:X.N.Nodup)(hy:X.N[i]? =some y)(hx:Loc X.env.scope y)(hfn:X.fn y=true\/X.env.scope.names.lookup y=some .local)(hsw:swapsWith (.ListComp elt [⟨tg,iter,ifs,0⟩] scope pos) (some (.Name y py)) spos.line X.env=pure true)
 (hc:X.calm=true) (S:z1P X.env.scope scope own frees X.N ix) (hi:SI X G F tg iter mi)
 (hg: ∀(F:Fy) cl C s₀ H₀ fp pn,SG (z0T X scope own frees cl C s₀ H₀ fp pn) G F tg g) (ht: ∀(F:Fy) cl C s₀ H₀ fp pn,STs (z0T X scope own frees cl C s₀ H₀ fp pn) G F ifs mt) (he: ∀(F:Fy) cl C s₀ H₀ fp pn,SE (z0T X scope own frees cl C s₀ H₀ fp pn) G F elt me)
 (hs: ∀x,foldedSetIterable iter X.env x=pure x:=by intro _;rfl):SS X G F (.Assign [.Name y py] (.ListComp elt [⟨tg,iter,ifs,0⟩] scope pos) spos) (sAsg (.nm i) (z0t mi g mt me own.length ix)):=by
 refine PS.imp0 (zal (i:=i) (g:=tGx G g) (tt:=tBx G mt) (te:=tMx G me) hN hy hx hfn hsw hc S hi (fun cl C s₀ H₀ fp pn pins s σ H v u Q I r ⟨F',q⟩=>hg F' cl C s₀ H₀ fp pn pins s σ H v u Q I r q)
  (fun cl C s₀ H₀ fp pn pins s σ H Q I ⟨F',q⟩=>ht F' cl C s₀ H₀ fp pn pins s σ H Q I q) (fun cl C s₀ H₀ fp pn pins s σ H Q I ⟨F',q⟩=>he F' cl C s₀ H₀ fp pn pins s σ H Q I q) hs) fun Dd σ H ⟨tv,h⟩=> ?_
 refine z8H hk ⟨tv,(z3P h).mono fun v H1 ⟨ρ1,s1,t,M1,W⟩=> ?_⟩
 simp only[asg] at W
 exact W ρ1 _ H1 (M1.setS i).m
end
mutual
noncomputable def z0w(l:Nat):D->Option D
 | .tup ds=>z0x l ds
 | .ro ds=>z0x l ds
 | .fdc _ vs=>z0x l vs
 | .lst k ds=>if k=l then some (.lst k ds) else z0x l ds
 | .dct k ks vs=>if k=l then some (.dct k ks vs) else z0x l vs
 | .obj k c ns vs=>if k=l then some (.obj k c ns vs) else z0x l vs
 | .non=>none| .bool _=>none| .int _=>none| .str _=>none| .exc _=>none| .fn _=>none
noncomputable def z0x(l:Nat):List D->Option D
 |[]=>none
 |d::ds=>match z0w l d with
  |some x=>some x
  |none=>z0x l ds
end
section
variable{G:Gx}{ρ:Nat->Addr}{H:Hp}
mutual
theorem zbN(l:Nat): ∀(t:D) (v:V) (d:D),RD G ρ H t v->z0w l t=some d->RD G ρ H d (.ref (ρ l))/\∀k∈labs d,k∈labs t
 | .non,v,d,h,e=>by simp only[z0w] at e;cases e
 | .bool b,v,d,h,e=>by simp only[z0w] at e;cases e
 | .int b,v,d,h,e=>by simp only[z0w] at e;cases e
 | .str b,v,d,h,e=>by simp only[z0w] at e;cases e
 | .exc b,v,d,h,e=>by simp only[z0w] at e;cases e
 | .fn b,v,d,h,e=>by simp only[z0w] at e;cases e
 | .tup ds,v,d,h,e=>by
  simp only[z0w,RD,labs] at h e⊢
  obtain⟨a,xs,_,_,r⟩:=h
  exact z0U l ds xs d r e
 | .ro ds,v,d,h,e=>by
  simp only[z0w,RD,labs] at h e⊢
  obtain⟨a,xs,_,_,r⟩:=h
  exact z0U l ds xs d r e
 | .fdc ks vs,v,d,h,e=>by
  simp only[z0w,RD,labs] at h e⊢
  obtain⟨a,o,kvs,_,_,_,r⟩:=h
  exact z0U l vs _ d r e
 | .lst k ds,v,d,h,e=>by
  simp only[z0w] at e
  by_cases hk:k=l
  ·rw[if_pos hk] at e;cases e
   subst hk
   have h':=h
   simp only[RD] at h'
   obtain⟨rfl,_⟩:=h'
   exact⟨h,fun _ q=>q⟩
  ·rw[if_neg hk] at e
   simp only[RD] at h
   obtain⟨_,xs,_,r⟩:=h
   obtain⟨q1,q2⟩:=z0U l ds xs d r e
   exact⟨q1,fun j hj=>by simp only[labs];exact List.mem_cons_of_mem _ (q2 j hj)⟩
 | .dct k ks vs,v,d,h,e=>by
  simp only[z0w] at e
  by_cases hk:k=l
  ·rw[if_pos hk] at e;cases e
   subst hk
   have h':=h
   simp only[RD] at h'
   obtain⟨rfl,_⟩:=h'
   exact⟨h,fun _ q=>q⟩
  ·rw[if_neg hk] at e
   simp only[RD] at h
   obtain⟨_,⟨kvs,_,_,r⟩|⟨kvs,_,_,r⟩⟩:=h
   ·obtain⟨q1,q2⟩:=z0U l vs _ d r e
    exact⟨q1,fun j hj=>by simp only[labs];exact List.mem_cons_of_mem _ (List.mem_append_right _ (q2 j hj))⟩
   ·obtain⟨q1,q2⟩:=z0U l vs _ d r e
    exact⟨q1,fun j hj=>by simp only[labs];exact List.mem_cons_of_mem _ (List.mem_append_right _ (q2 j hj))⟩
 | .obj k c ns vs,v,d,h,e=>by
  simp only[z0w] at e
  by_cases hk:k=l
  ·rw[if_pos hk] at e;cases e
   subst hk
   have h':=h
   simp only[RD] at h'
   obtain⟨rfl,_⟩:=h'
   exact⟨h,fun _ q=>q⟩
  ·rw[if_neg hk] at e
   simp only[RD] at h
   obtain⟨_,C,dx,fs,_,_,_,r⟩:=h
   obtain⟨q1,q2⟩:=z0U l vs _ d r e
   exact⟨q1,fun j hj=>by simp only[labs];exact List.mem_cons_of_mem _ (q2 j hj)⟩
theorem z0U(l:Nat): ∀(t:List D) (v:List V) (d:D),RDs G ρ H t v->z0x l t=some d->RD G ρ H d (.ref (ρ l))/\∀k∈labs d,k∈z02 t
 |[],v,d,h,e=>by simp only[z0x] at e;cases e
 |t::ts,v,d,h,e=>by
  simp only[z0x,RDs,z02] at h e⊢
  obtain⟨x,r,_,h1,h2⟩:=h
  cases e1:z0w l t with
  |some y=>
   rw[e1] at e;cases e
   obtain⟨q1,q2⟩:=zbN l t x _ h1 e1
   exact⟨q1,fun j hj=>List.mem_append_left _ (q2 j hj)⟩
  |none=>
   rw[e1] at e
   obtain⟨q1,q2⟩:=z0U l ts r d h2 e
   exact⟨q1,fun j hj=>List.mem_append_right _ (q2 j hj)⟩
end
theorem roL_two{K:W.Frag}{a:Addr}{xs ys:List V}(k:KD K H)(h:RoL K H a xs)(h':RoL K H a ys):xs=ys:=SqL.two k h.sq h'.sq
noncomputable def z8I(G:Gx)(H:Hp)(a:Addr):Nat->Prop
 |0=> ∃xs,SqT G.K H a xs
 |1=> ∃xs,RoL G.K H a xs
 |2=> ∃xs,H a=some (.lst xs)
 |3=>(∃kvs,H a=some (.dK kvs))\/∃kvs,H a=some (.dT kvs)
 |4=> ∃C dx fs,H a=some (.ins C dx fs)
 |5=> ∃o φ,H a=some (.frz o (.ext φ))
 |6=> ∃c,G.cl c=some a
 |_=> ∃o kvs,H a=some (.frz o (.dT kvs))
open Classical in
noncomputable def kd(K:W.Frag)(H:Hp)(a:Addr):Nat:=match H a with
 |some (.tup _)=>0|some (.frz _ (.tup _))=>0|some (.frz _ (.lst _))=>1|some (.lst _)=>2|some (.dK _)=>3|some (.dT _)=>3|some (.ins _ _ _)=>4|some (.frz _ (.ext _))=>5|some (.frz _ (.dT _))=>7
 |some _=>9
 |none=>match K.lookup a with
  |some o=>if(∃its n,o.data= .seq its n) then(if o.cls= .type "tuple" then 0 else 1) else 6
  |none=>8
theorem zfH{a:Addr}(k:KD G.K H): ∀{i:Nat},z8I G H a i->i<=7->kd G.K H a=i:=by
 have tl: ¬((.type "list" :Value)= .type "tuple"):=by intro h;injection h with h;exact absurd h (by decide)
 intro i hi li
 match i,hi,li with
 |0,⟨xs,h⟩,_=>
  rcases h with(h|⟨o,h⟩)|⟨o,its,n,h,hc,hd,_⟩
  ·unfold kd;rw[h]
  ·unfold kd;rw[h]
  ·unfold kd;rw[k _ _ h];dsimp only;rw[h];dsimp only;rw[if_pos ⟨its,n,hd⟩,if_pos hc]
 |1,⟨xs,h⟩,_=>
  rcases h with⟨o,h⟩|⟨o,its,n,h,hc,_,hd,_⟩
  ·unfold kd;rw[h]
  ·unfold kd;rw[k _ _ h];dsimp only;rw[h];dsimp only;rw[if_pos ⟨its,n,hd⟩,if_neg (by rw[hc];exact tl)]
 |2,⟨xs,h⟩,_=>unfold kd;rw[h]
 |3,h,_=>rcases h with⟨_,h⟩|⟨_,h⟩<;>(unfold kd;rw[h])
 |4,⟨_,_,_,h⟩,_=>unfold kd;rw[h]
 |5,⟨_,_,h⟩,_=>unfold kd;rw[h]
 |6,⟨c,h⟩,_=>
  obtain⟨o,h1,h2⟩:=G.ck c a h
  unfold kd;rw[k _ _ h1];dsimp only;rw[h1];dsimp only;rw[if_neg (fun⟨its,n,q⟩=>h2 its n q)]
 |7,⟨_,_,h⟩,_=>unfold kd;rw[h]
 |n+8,_,li=>lia
theorem zbO{a:Addr}(k:KD G.K H){i j:Nat}(hi:z8I G H a i)(hj:z8I G H a j)(li:i<=7)(lj:j<=7):i=j:=(zfH k hi li).symm.trans (zfH k hj lj)
noncomputable def ix:D->Nat
 | .tup _=>0| .ro _=>1| .lst _ _=>2| .dct _ _ _=>3| .obj _ _ _ _=>4| .exc _=>5| .fn _=>6| .fdc _ _=>7|_=>8
noncomputable def flD:V->D
 | .bl b=> .bool b| .int b=> .int b| .str b=> .str b|_=> .non
theorem RD.kind{t:D}{v:V}(h:RD G ρ H t v):(t=flD v/\∀a,v≠ .ref a)\/∃a,v= .ref a/\ix t<=7/\z8I G H a (ix t):=by
 cases t<;>simp only[RD] at h
 ·exact .inl (by rw[h];exact⟨rfl,nofun⟩)
 ·exact .inl (by rw[h];exact⟨rfl,nofun⟩)
 ·exact .inl (by rw[h];exact⟨rfl,nofun⟩)
 ·exact .inl (by rw[h];exact⟨rfl,nofun⟩)
 ·obtain⟨a',xs,e,s,r⟩:=h;exact .inr ⟨a',e,Nat.le_of_ble_eq_true rfl,xs,SqT.of s⟩
 ·obtain⟨a',xs,e,s,r⟩:=h;exact .inr ⟨a',e,Nat.le_of_ble_eq_true rfl,xs,s⟩
 ·obtain⟨e,xs,s,r⟩:=h;exact .inr ⟨_,e,Nat.le_of_ble_eq_true rfl,xs,s⟩
 ·obtain⟨e,⟨kvs,s,_⟩|⟨kvs,s,_⟩⟩:=h
  ·exact .inr ⟨_,e,Nat.le_of_ble_eq_true rfl, .inl ⟨kvs,s⟩⟩
  ·exact .inr ⟨_,e,Nat.le_of_ble_eq_true rfl, .inr ⟨kvs,s⟩⟩
 ·obtain⟨e,C,dx,fs,_,s,_⟩:=h;exact .inr ⟨_,e,Nat.le_of_ble_eq_true rfl,C,dx,fs,s⟩
 ·obtain⟨a',o,C,e,_,_,_,s⟩:=h;exact .inr ⟨a',e,Nat.le_of_ble_eq_true rfl,o,_,s⟩
 ·obtain⟨a',e,s⟩:=h;exact .inr ⟨a',e,Nat.le_of_ble_eq_true rfl,_,s⟩
 ·obtain⟨a',o,kvs,e,s,_⟩:=h;exact .inr ⟨a',e,Nat.le_of_ble_eq_true rfl,o,kvs,s⟩
theorem ix0{t:D}(h:ix t=0): ∃ds,t= .tup ds:=by cases t<;>first|exact⟨_,rfl⟩|cases h
theorem ix1{t:D}(h:ix t=1): ∃ds,t= .ro ds:=by cases t<;>first|exact⟨_,rfl⟩|cases h
theorem ix2{t:D}(h:ix t=2): ∃l ds,t= .lst l ds:=by cases t<;>first|exact⟨_,_,rfl⟩|cases h
theorem ix3{t:D}(h:ix t=3): ∃l ks vs,t= .dct l ks vs:=by cases t<;>first|exact⟨_,_,_,rfl⟩|cases h
theorem ix4{t:D}(h:ix t=4): ∃l c ns vs,t= .obj l c ns vs:=by cases t<;>first|exact⟨_,_,_,_,rfl⟩|cases h
theorem ix5{t:D}(h:ix t=5): ∃c,t= .exc c:=by cases t<;>first|exact⟨_,rfl⟩|cases h
theorem ix6{t:D}(h:ix t=6): ∃c,t= .fn c:=by cases t<;>first|exact⟨_,rfl⟩|cases h
theorem ix7{t:D}(h:ix t=7): ∃ks vs,t= .fdc ks vs:=by cases t<;>first|exact⟨_,_,rfl⟩|cases h
theorem RD.ixE{t t':D}{v:V}(k:KD G.K H)(h:RD G ρ H t v)(h':RD G ρ H t' v):t=t'\/ix t=ix t':=by
 rcases RD.kind h with⟨e,n⟩|⟨a,e,l,q⟩<;>rcases RD.kind h' with⟨e',n'⟩|⟨a',e',l',q'⟩
 ·exact .inl (e.trans e'.symm)
 ·exact absurd e' (n _)
 ·exact absurd e (n' _)
 ·cases e.symm.trans e';exact .inr (zbO k q q' l l')
section
variable(k:KD G.K H){n:Nat}(inj: ∀i j,i<n->j<n->ρ i=ρ j->i=j)
include k inj
mutual
theorem RD.uniq: ∀(t t':D) (v:V),RD G ρ H t v->RD G ρ H t' v->(∀l∈labs t,l<n)->(∀l∈labs t',l<n)->t=t'
 | .non,t',v,h,h',_,_=>(RD.kind h').elim (fun e=>by simp only[RD] at h;subst h;exact e.1.symm) fun⟨_,e,_⟩=>by simp only[RD] at h;subst h;cases e
 | .bool b,t',v,h,h',_,_=>(RD.kind h').elim (fun e=>by simp only[RD] at h;subst h;exact e.1.symm) fun⟨_,e,_⟩=>by simp only[RD] at h;subst h;cases e
 | .int b,t',v,h,h',_,_=>(RD.kind h').elim (fun e=>by simp only[RD] at h;subst h;exact e.1.symm) fun⟨_,e,_⟩=>by simp only[RD] at h;subst h;cases e
 | .str b,t',v,h,h',_,_=>(RD.kind h').elim (fun e=>by simp only[RD] at h;subst h;exact e.1.symm) fun⟨_,e,_⟩=>by simp only[RD] at h;subst h;cases e
 | .exc c,t',v,h,h',lb,lb'=>by
  rcases RD.ixE k h h' with e|e
  ·exact e
  obtain⟨c',rfl⟩:=ix5 e.symm
  simp only[RD] at h h'
  obtain⟨a,o,C,rfl,h1,h2,_,s⟩:=h
  obtain⟨a',o',C',e,h1',h2',_,s'⟩:=h'
  cases e
  rw[s] at s';cases s'
  rw[h2] at h2';cases h2'
  rw[G.ci c c' C h1 h1']
 | .fn c,t',v,h,h',lb,lb'=>by
  rcases RD.ixE k h h' with e|e
  ·exact e
  obtain⟨c',rfl⟩:=ix6 e.symm
  simp only[RD] at h h'
  obtain⟨a,rfl,h1⟩:=h
  obtain⟨a',e,h1'⟩:=h'
  cases e
  rw[G.ci c c' a h1 h1']
 | .tup ds,t',v,h,h',lb,lb'=>by
  rcases RD.ixE k h h' with e|e
  ·exact e
  obtain⟨es,rfl⟩:=ix0 e.symm
  obtain⟨a,xs,rfl,s,r⟩:=h.tupq
  obtain⟨a',ys,e,s',r'⟩:=h'.tupq
  cases e
  cases SqT.two k s s'
  rw[RDs.uniq ds es xs r r' lb lb']
 | .fdc ks vs,t',v,h,h',lb,lb'=>by
  rcases RD.ixE k h h' with e|e
  ·exact e
  obtain⟨ks',vs',rfl⟩:=ix7 e.symm
  simp only[RD] at h h'
  obtain⟨a,o,kvs,rfl,s,s2,r⟩:=h
  obtain⟨a',o',kvs',e,s',s2',r'⟩:=h'
  cases e
  rw[s] at s';cases s'
  rw[s2,s2',RDs.uniq vs vs' _ r r' lb lb']
 | .ro ds,t',v,h,h',lb,lb'=>by
  rcases RD.ixE k h h' with e|e
  ·exact e
  obtain⟨es,rfl⟩:=ix1 e.symm
  simp only[RD] at h h'
  obtain⟨a,xs,rfl,s,r⟩:=h
  obtain⟨a',ys,e,s',r'⟩:=h'
  cases e
  cases roL_two k s s'
  rw[RDs.uniq ds es xs r r' lb lb']
 | .lst l ds,t',v,h,h',lb,lb'=>by
  rcases RD.ixE k h h' with e|e
  ·exact e
  obtain⟨l',es,rfl⟩:=ix2 e.symm
  simp only[RD] at h h'
  obtain⟨rfl,xs,s,r⟩:=h
  obtain⟨e,ys,s',r'⟩:=h'
  cases inj l l' (lb l (.head _)) (lb' l' (.head _)) (V.ref.inj e)
  rw[s] at s';cases s'
  rw[RDs.uniq ds es xs r r' (fun j hj=>lb j (.tail _ hj)) fun j hj=>lb' j (.tail _ hj)]
 | .dct l ks vs,t',v,h,h',lb,lb'=>by
  rcases RD.ixE k h h' with e|e
  ·exact e
  obtain⟨l',ks',vs',rfl⟩:=ix3 e.symm
  simp only[RD] at h h'
  obtain⟨rfl,q⟩:=h
  obtain⟨e,q'⟩:=h'
  cases inj l l' (lb l (.head _)) (lb' l' (.head _)) (V.ref.inj e)
  have b1: ∀j∈z02 vs,j<n:=fun j hj=>lb j (.tail _ (List.mem_append_right _ hj))
  have b2: ∀j∈z02 vs',j<n:=fun j hj=>lb' j (.tail _ (List.mem_append_right _ hj))
  rcases q with⟨kvs,s,s2,r⟩|⟨kvs,s,s2,r⟩<;>rcases q' with⟨kvs',s',s2',r'⟩|⟨kvs',s',s2',r'⟩<;>rw[s] at s'<;>cases s'
  ·rw[s2,s2',RDs.uniq vs vs' _ r r' b1 b2]
  ·rw[s2,s2',RDs.uniq vs vs' _ r r' b1 b2]
 | .obj l c ns vs,t',v,h,h',lb,lb'=>by
  rcases RD.ixE k h h' with e|e
  ·exact e
  obtain⟨l',c',ns',vs',rfl⟩:=ix4 e.symm
  simp only[RD] at h h'
  obtain⟨rfl,C,dx,fs,hC,s,s2,r⟩:=h
  obtain⟨e,C',dx',fs',hC',s',s2',r'⟩:=h'
  cases inj l l' (lb l (.head _)) (lb' l' (.head _)) (V.ref.inj e)
  rw[s] at s';cases s'
  rw[s2,s2',G.ci c c' C hC hC',RDs.uniq vs vs' _ r r' (fun j hj=>lb j (.tail _ hj)) fun j hj=>lb' j (.tail _ hj)]
theorem RDs.uniq: ∀(t t':List D) (v:List V),RDs G ρ H t v->RDs G ρ H t' v->(∀l∈z02 t,l<n)->(∀l∈z02 t',l<n)->t=t'
 |[],t',v,h,h',_,_=>by
  simp only[RDs] at h;subst h
  cases t' with
  |nil=>rfl
  |cons d ds=>simp only[RDs] at h';obtain⟨_,_,e,_⟩:=h';cases e
 |d::ds,t',v,h,h',lb,lb'=>by
  simp only[RDs] at h
  obtain⟨x,q,rfl,h1,h2⟩:=h
  cases t' with
  |nil=>simp only[RDs] at h';cases h'
  |cons d' ds'=>
   simp only[RDs] at h'
   obtain⟨_,_,e,h1',h2'⟩:=h'
   cases e
   rw[RD.uniq d d' x h1 h1' (fun l hl=>lb l (by simp only[z02];exact List.mem_append_left _ hl)) fun l hl=>lb' l (by simp only[z02];exact List.mem_append_left _ hl),
    RDs.uniq ds ds' q h2 h2' (fun l hl=>lb l (by simp only[z02];exact List.mem_append_right _ hl)) fun l hl=>lb' l (by simp only[z02];exact List.mem_append_right _ hl)]
end
end
end
end Mi
namespace Mi
open PySem L2 PySem.Spec PyProof.Rows
inductive RF where
 |ok (t:D) (ts:List D) (n:Nat)|ex (d:D) (ts:List D) (n:Nat)|no
noncomputable abbrev FM:=List D->Nat->RF
structure z6I(G:Gx)(ρ:Nat->Addr)(n:Nat)(ts:List D)(vs:List V)(H:Hp)(ρ':Nat->Addr)(n':Nat)(ts':List D)(H':Hp):Prop where
 old: ∀l,l<n->ρ' l=ρ l
 le:n<=n'
 inj: ∀i j,i<n'->j<n'->ρ' i=ρ' j->i=j
 dom: ∀l,l<n'->∃o,H' (ρ' l)=some o
 rd:RDs G ρ' H' ts' vs
 lb: ∀l∈z02 ts',l<n'/\(l<n->l∈z02 ts)
 fr: ∀a o,H a=some o->(∃o',H' a=some o')/\((∀l∈z02 ts,a≠ρ l)->H' a=some o)
 new: ∀l,n<=l->l<n'->H (ρ' l)=none
 kd:KD G.K H'
section
variable{G:Gx}{ρ ρ':Nat->Addr}{H H':Hp}
mutual
theorem zdH: ∀(t:D) (v:V),RD G ρ H t v->∀l∈labs t,∃o,H (ρ l)=some o/\(∀xs,o≠ .tup xs)/\∀u w,o≠ .frz u w
 | .non,v,h,l,hl=>by simp only[labs] at hl;cases hl
 | .bool b,v,h,l,hl=>by simp only[labs] at hl;cases hl
 | .int b,v,h,l,hl=>by simp only[labs] at hl;cases hl
 | .str b,v,h,l,hl=>by simp only[labs] at hl;cases hl
 | .exc b,v,h,l,hl=>by simp only[labs] at hl;cases hl
 | .fn b,v,h,l,hl=>by simp only[labs] at hl;cases hl
 | .tup ds,v,h,l,hl=>by
  simp only[labs,RD] at h hl
  obtain⟨a,xs,_,_,r⟩:=h
  exact z1I ds xs r l hl
 | .fdc ks vs,v,h,l,hl=>by
  simp only[labs,RD] at h hl
  obtain⟨a,o,kvs,_,_,_,r⟩:=h
  exact z1I vs _ r l hl
 | .ro ds,v,h,l,hl=>by
  simp only[labs,RD] at h hl
  obtain⟨a,xs,_,_,r⟩:=h
  exact z1I ds xs r l hl
 | .lst k ds,v,h,l,hl=>by
  simp only[labs,RD] at h hl
  obtain⟨_,xs,s,r⟩:=h
  rcases List.mem_cons.mp hl with rfl|hl
  ·exact⟨_,s,(fun _ q=>nomatch q),(fun _ _ q=>nomatch q)⟩
  ·exact z1I ds xs r l hl
 | .dct k ks vs,v,h,l,hl=>by
  simp only[labs,RD] at h hl
  obtain⟨_,⟨kvs,s,s2,r⟩|⟨kvs,s,s2,r⟩⟩:=h
  ·rcases List.mem_cons.mp hl with rfl|hl
   ·exact⟨_,s,(fun _ q=>nomatch q),(fun _ _ q=>nomatch q)⟩
   ·rcases List.mem_append.mp hl with hl|hl
    ·rw[s2] at hl
     obtain⟨d,hd,hl⟩:=z2b hl
     rcases List.mem_cons.mp hd with rfl|hd
     ·simp only[labs] at hl;cases hl
     obtain⟨p,_,rfl⟩:=List.mem_map.mp hd
     obtain⟨kk,_⟩:=p
     cases kk<;>simp only[keyD,labs] at hl<;>cases hl
    ·exact z1I vs _ r l hl
  ·rcases List.mem_cons.mp hl with rfl|hl
   ·exact⟨_,s,(fun _ q=>nomatch q),(fun _ _ q=>nomatch q)⟩
   ·rcases List.mem_append.mp hl with hl|hl
    ·rw[s2] at hl
     obtain⟨d,hd,hl⟩:=z2b hl
     obtain⟨p,_,rfl⟩:=List.mem_map.mp hd
     simp only[dkD,labs] at hl
     obtain⟨d,hd,hl⟩:=z2b hl
     obtain⟨kk,_,rfl⟩:=List.mem_map.mp hd
     cases kk<;>simp only[keyD,labs] at hl<;>cases hl
    ·exact z1I vs _ r l hl
 | .obj k c ns vs,v,h,l,hl=>by
  simp only[labs,RD] at h hl
  obtain⟨_,C,dx,fs,_,s,_,r⟩:=h
  rcases List.mem_cons.mp hl with rfl|hl
  ·exact⟨_,s,(fun _ q=>nomatch q),(fun _ _ q=>nomatch q)⟩
  ·exact z1I vs _ r l hl
theorem z1I: ∀(t:List D) (v:List V),RDs G ρ H t v->∀l∈z02 t,∃o,H (ρ l)=some o/\(∀xs,o≠ .tup xs)/\∀u w,o≠ .frz u w
 |[],v,h,l,hl=>by simp only[z02] at hl;cases hl
 |d::ds,v,h,l,hl=>by
  simp only[z02,RDs] at h hl
  obtain⟨x,r,_,h1,h2⟩:=h
  rcases List.mem_append.mp hl with hl|hl
  ·exact zdH d x h1 l hl
  ·exact z1I ds r h2 l hl
end
theorem z9r{kvs:List (Key×V)}{l:Nat}(hl:l∈z02 (kvs.map fun p=>keyD p.1)):False:=by
 obtain⟨d,hd,hl⟩:=z2b hl
 obtain⟨p,_,rfl⟩:=List.mem_map.mp hd
 obtain⟨kk,_⟩:=p
 cases kk<;>simp only[keyD,labs] at hl<;>cases hl
theorem z81{kvs:List (List Key×V)}{l:Nat}(hl:l∈z02 (kvs.map fun p=>dkD p.1)):False:=by
 obtain⟨d,hd,hl⟩:=z2b hl
 obtain⟨p,_,rfl⟩:=List.mem_map.mp hd
 simp only[dkD,labs] at hl
 obtain⟨d,hd,hl⟩:=z2b hl
 obtain⟨kk,_,rfl⟩:=List.mem_map.mp hd
 cases kk<;>simp only[keyD,labs] at hl<;>cases hl
mutual
theorem z9s(l:Nat): ∀(t:D) (v:V),RD G ρ H t v->l∈labs t->(z0w l t).isSome=true
 | .non,v,h,hl=>by simp only[labs] at hl;cases hl
 | .bool b,v,h,hl=>by simp only[labs] at hl;cases hl
 | .int b,v,h,hl=>by simp only[labs] at hl;cases hl
 | .str b,v,h,hl=>by simp only[labs] at hl;cases hl
 | .exc b,v,h,hl=>by simp only[labs] at hl;cases hl
 | .fn b,v,h,hl=>by simp only[labs] at hl;cases hl
 | .tup ds,v,h,hl=>by
  simp only[labs,RD,z0w] at h hl⊢
  obtain⟨a,xs,_,_,r⟩:=h
  exact z0N l ds xs r hl
 | .fdc ks vs,v,h,hl=>by
  simp only[labs,RD,z0w] at h hl⊢
  obtain⟨a,o,kvs,_,_,_,r⟩:=h
  exact z0N l vs _ r hl
 | .ro ds,v,h,hl=>by
  simp only[labs,RD,z0w] at h hl⊢
  obtain⟨a,xs,_,_,r⟩:=h
  exact z0N l ds xs r hl
 | .lst k ds,v,h,hl=>by
  simp only[labs,RD,z0w] at h hl⊢
  obtain⟨_,xs,s,r⟩:=h
  by_cases e:k=l
  ·rw[if_pos e];rfl
  ·rw[if_neg e]
   rcases List.mem_cons.mp hl with q|q
   ·exact absurd q.symm e
   ·exact z0N l ds xs r q
 | .dct k ks vs,v,h,hl=>by
  simp only[labs,RD,z0w] at h hl⊢
  obtain⟨_,⟨kvs,s,s2,r⟩|⟨kvs,s,s2,r⟩⟩:=h
  ·by_cases e:k=l
   ·rw[if_pos e];rfl
   ·rw[if_neg e]
    rcases List.mem_cons.mp hl with q|q
    ·exact absurd q.symm e
    ·rcases List.mem_append.mp q with q|q
     ·rw[s2] at q;exact(z9r q).elim
     ·exact z0N l vs _ r q
  ·by_cases e:k=l
   ·rw[if_pos e];rfl
   ·rw[if_neg e]
    rcases List.mem_cons.mp hl with q|q
    ·exact absurd q.symm e
    ·rcases List.mem_append.mp q with q|q
     ·rw[s2] at q;exact(z81 q).elim
     ·exact z0N l vs _ r q
 | .obj k c ns vs,v,h,hl=>by
  simp only[labs,RD,z0w] at h hl⊢
  obtain⟨_,C,dx,fs,_,s,_,r⟩:=h
  by_cases e:k=l
  ·rw[if_pos e];rfl
  ·rw[if_neg e]
   rcases List.mem_cons.mp hl with q|q
   ·exact absurd q.symm e
   ·exact z0N l vs _ r q
theorem z0N(l:Nat): ∀(t:List D) (v:List V),RDs G ρ H t v->l∈z02 t->(z0x l t).isSome=true
 |[],v,h,hl=>by simp only[z02] at hl;cases hl
 |d::ds,v,h,hl=>by
  simp only[z02,RDs,z0x] at h hl⊢
  obtain⟨x,r,_,h1,h2⟩:=h
  cases e:z0w l d with
  |some y=>rfl
  |none=>
   rcases List.mem_append.mp hl with q|q
   ·have:=z9s l d x h1 q
    rw[e] at this;cases this
   ·exact z0N l ds r h2 q
end
theorem z6I.stays{n n':Nat}{ts ts':List D}{vs:List V}(P:z6I G ρ n ts vs H ρ' n' ts' H')(r:RDs G ρ H ts vs):z2a H H':=by
 refine⟨fun b xs e=>(P.fr b _ e).2 fun l hl z=> ?_,fun b o u e=>(P.fr b _ e).2 fun l hl z=> ?_⟩
 ·obtain⟨o,q,q1,_⟩:=z1I ts vs r l hl
  rw[<-z,e] at q;cases q;exact q1 _ rfl
 ·obtain⟨o,q,_,q1⟩:=z1I ts vs r l hl
  rw[<-z,e] at q;cases q;exact q1 _ _ rfl
section
variable(k:KD G.K H){n:Nat}(inj: ∀i j,i<n->j<n->ρ i=ρ j->i=j){ts:List D}{vs:List V}(r:RDs G ρ H ts vs)(lb: ∀l∈z02 ts,l<n)
include k inj r lb
mutual
theorem z6r: ∀(t:D) (v:V),RD G ρ H t v->(∀l∈labs t,l<n)->rp (fun l=>z0x l ts) t=t
 | .non,v,h,hl=>rfl
 | .bool b,v,h,hl=>rfl
 | .int b,v,h,hl=>rfl
 | .str b,v,h,hl=>rfl
 | .exc b,v,h,hl=>rfl
 | .fn b,v,h,hl=>rfl
 | .tup ds,v,h,hl=>by
  simp only[labs,RD,rp] at h hl⊢
  obtain⟨a,xs,_,_,r1⟩:=h
  rw[z0V ds xs r1 hl]
 | .fdc ks vs,v,h,hl=>by
  simp only[labs,RD,rp] at h hl⊢
  obtain⟨a,o,kvs,_,_,_,r1⟩:=h
  rw[z0V vs _ r1 hl]
 | .ro ds,v,h,hl=>by
  simp only[labs,RD,rp] at h hl⊢
  obtain⟨a,xs,_,_,r1⟩:=h
  rw[z0V ds xs r1 hl]
 | .lst l ds,v,h,hl=>by
  simp only[rp]
  cases e:z0x l ts with
  |some d=>
   dsimp only
   obtain⟨q1,q2⟩:=z0U l ts vs d r e
   have h':=h
   simp only[RD] at h'
   obtain⟨rfl,_⟩:=h'
   exact RD.uniq k inj _ _ _ q1 h (fun j hj=>lb j (q2 j hj)) hl
  |none=>
   dsimp only
   simp only[labs,RD] at h hl
   obtain⟨_,xs,s,r1⟩:=h
   rw[z0V ds xs r1 fun j hj=>hl j (List.mem_cons_of_mem _ hj)]
 | .dct l ks vs',v,h,hl=>by
  simp only[rp]
  cases e:z0x l ts with
  |some d=>
   dsimp only
   obtain⟨q1,q2⟩:=z0U l ts vs d r e
   have h':=h
   simp only[RD] at h'
   obtain⟨rfl,_⟩:=h'
   exact RD.uniq k inj _ _ _ q1 h (fun j hj=>lb j (q2 j hj)) hl
  |none=>
   dsimp only
   simp only[labs,RD] at h hl
   obtain⟨_,⟨kvs,s,s2,r1⟩|⟨kvs,s,s2,r1⟩⟩:=h
   ·rw[z0V vs' _ r1 fun j hj=>hl j (List.mem_cons_of_mem _ (List.mem_append_right _ hj))]
   ·rw[z0V vs' _ r1 fun j hj=>hl j (List.mem_cons_of_mem _ (List.mem_append_right _ hj))]
 | .obj l c ns vs',v,h,hl=>by
  simp only[rp]
  cases e:z0x l ts with
  |some d=>
   dsimp only
   obtain⟨q1,q2⟩:=z0U l ts vs d r e
   have h':=h
   simp only[RD] at h'
   obtain⟨rfl,_⟩:=h'
   exact RD.uniq k inj _ _ _ q1 h (fun j hj=>lb j (q2 j hj)) hl
  |none=>
   dsimp only
   simp only[labs,RD] at h hl
   obtain⟨_,C,dx,fs,_,s,_,r1⟩:=h
   rw[z0V vs' _ r1 fun j hj=>hl j (List.mem_cons_of_mem _ hj)]
theorem z0V: ∀(t:List D) (v:List V),RDs G ρ H t v->(∀l∈z02 t,l<n)->rpL (fun l=>z0x l ts) t=t
 |[],v,h,hl=>rfl
 |d::ds,v,h,hl=>by
  simp only[z02,RDs,rpL] at h hl⊢
  obtain⟨x,q,_,h1,h2⟩:=h
  rw[z6r d x h1 fun j hj=>hl j (List.mem_append_left _ hj),z0V ds q h2 fun j hj=>hl j (List.mem_append_right _ hj)]
end
theorem z2Z: ∀(t:List (Option D)) (v:List (Option V)),Sl G ρ H t v->(∀l∈z0b t,l<n)->rpO (fun l=>z0x l ts) t=t
 |[],v,h,hl=>rfl
 |none::r',v,h,hl=>by
  simp only[z0b,Sl,rpO] at h hl⊢
  obtain⟨o,q,_,h⟩:=h
  rw[z2Z r' q h hl]
 |some d::ds,v,h,hl=>by
  simp only[z0b,Sl,rpO] at h hl⊢
  obtain⟨x,q,_,h1,h2⟩:=h
  rw[z6r k inj r lb d x h1 fun j hj=>hl j (List.mem_append_left _ hj),z2Z ds q h2 fun j hj=>hl j (List.mem_append_right _ hj)]
end
variable{F:Fy}{σv tv:List (Option V)}{s:Stt}{np:Nat}
theorem MR.call{ts ts':List D}{vs:List V}{n':Nat}(M:MR G F.toFx ρ H σv tv s)(r:RDs G ρ H ts vs)(lb:LB F.toFx ρ s.n (z02 ts))(P:z6I G ρ s.n ts vs H ρ' n' ts' H')
 (hc: ∀l∈z1p s,l∈z02 ts->(z0x l ts').isSome=true):MR G F.toFx ρ' H' σv tv {σ:=rpO (fun l=>z0x l ts') s.σ,tm:=rpO (fun l=>z0x l ts') s.tm,n:=n'}:=by
 have st:=P.stays r
 have step: ∀l∈z1p s,ρ' l=ρ l/\(match z0x l ts' with|some d=>RD G ρ' H' d (.ref (ρ l))|none=> ∀o,H (ρ l)=some o->H' (ρ l)=some o):=fun l hl=>by
  have ol:=P.old l (M.lab l hl)
  refine⟨ol, ?_⟩
  cases e:z0x l ts' with
  |some d=>
   have q:=(z0U l ts' vs d P.rd e).1
   rw[ol] at q;exact q
  |none=>
   intro o e1
   refine(P.fr _ _ e1).2 fun j hj z=> ?_
   have:l=j:=M.inj l j (M.lab l hl) (lb j hj).1 z
   subst this
   have:=hc l hl hj
   rw[e] at this;cases this
 have hn: ∀l,l<n'->l<s.n\/H (ρ' l)=none:=fun l hl=>by
  by_cases h:l<s.n
  ·exact .inl h
  ·exact .inr (P.new l (Nat.not_lt.mp h) hl)
 have hlab: ∀(xs:List (Option D)),(∀l∈z0b xs,l∈z1p s)->∀l∈z0b (rpO (fun l=>z0x l ts') xs),l<n'/\(l<s.n->l∈z1p s\/l∈z02 ts):=fun xs hx l h=>by
  rcases z5g l xs h with q|⟨k,d,q1,q2,q3⟩
  ·exact⟨Nat.lt_of_lt_of_le (M.lab l (hx l q)) P.le,fun _=> .inl (hx l q)⟩
  ·obtain⟨b1,b2⟩:=P.lb l ((z0U k ts' vs d P.rd q2).2 l q3)
   exact⟨b1,fun z=> .inr (b2 z)⟩
 have all: ∀l∈z1p {σ:=rpO (fun l=>z0x l ts') s.σ,tm:=rpO (fun l=>z0x l ts') s.tm,n:=n'},l<n'/\(l<s.n->l∈z1p s\/l∈z02 ts):=fun l h=>by
  rcases List.mem_append.mp h with h|h
  ·exact hlab s.σ (fun l q=>List.mem_append_left _ q) l h
  ·exact hlab s.tm (fun l q=>List.mem_append_right _ q) l h
 refine⟨Sl.rp st M.sl fun l hl=>step l (List.mem_append_left _ hl),Sl.rp st M.tm fun l hl=>step l (List.mem_append_right _ hl),P.inj,P.dom,fun l h=>(all l h).1,fun l h=> ?_,fun a o e=> ?_,P.kd,fun l hl z=> ?_,⟨Nat.le_trans M.bas.1 P.le,fun l hl=> ?_⟩⟩
 ·rcases hn l (all l h).1 with q|q
  ·rw[P.old l q]
   rcases(all l h).2 q with z|z
   ·exact M.own l z
   ·exact(lb l z).2
  ·exact .inr (M.fresh0 q)
 ·obtain⟨⟨o1,e1⟩,e2⟩:=M.frm a o e
  obtain⟨e3,e4⟩:=P.fr a o1 e1
  refine⟨e3,fun nA=> ?_⟩
  have e5:=e2 nA
  rw[e1] at e5;cases e5
  refine e4 fun l hl z=> ?_
  rcases(lb l hl).2 with q|q
  ·exact nA (z▸q)
  ·rw[<-z,e] at q;cases q
 ·rcases hn l hl with q|q
  ·rw[P.old l q] at z;exact M.frb l q z
  ·obtain⟨⟨o,e⟩,_⟩:=F.zA _ z
   obtain⟨⟨o',e'⟩,_⟩:=M.frm _ o e
   rw[q] at e';cases e'
 ·rw[P.old l (Nat.lt_of_lt_of_le hl M.bas.1)];exact M.bas.2 l hl
theorem MR.call0{ts:List D}{vs:List V}{n':Nat}(M:MR G F.toFx ρ H σv tv s)(r:RDs G ρ H ts vs)(lb:LB F.toFx ρ s.n (z02 ts))(P:z6I G ρ s.n ts vs H ρ' n' ts H'):MR G F.toFx ρ' H' σv tv {s with n:=n'}:=by
 have hf: ∀l∈z02 ts,(z0x l ts).isSome=true:=fun l hl=>z0N l ts vs r hl
 have M2:=M.call r lb P fun l _ hl=>hf l hl
 rw[z2Z M.kd M.inj r (fun l hl=>(lb l hl).1) s.σ σv M.sl fun l hl=>M.lab l (List.mem_append_left _ hl),z2Z M.kd M.inj r (fun l hl=>(lb l hl).1) s.tm tv M.tm fun l hl=>M.lab l (List.mem_append_right _ hl)] at M2
 exact M2
open Classical in
noncomputable def z6J(r:RF)(ts:List D):M D:=fun s=>match r with
 | .ok t ts' n'=>if ts'=ts then .ok t {s with n:=n'} else
  if ∀l∈z1p s,l∈z02 ts->(z0x l ts').isSome=true then .ok t {σ:=rpO (fun l=>z0x l ts') s.σ,tm:=rpO (fun l=>z0x l ts') s.tm,n:=n'} else .no
 |_=> .no
noncomputable def z03(f:FM)(ms:List (M D)):M D:=bd (mArgs ms) fun ts s=>z6J (f ts s.n) ts s
noncomputable def spM(G:Gx)(np:Nat)(f:FM):Sp:=fun vs H Q _=>vs.length=np/\∃ρ n ts,RDs G ρ H ts vs/\(∀i j,i<n->j<n->ρ i=ρ j->i=j)/\(∀l,l<n->∃o,H (ρ l)=some o)/\(∀l∈z02 ts,l<n)/\KD G.K H/\match f ts n with
 | .ok t ts' n'=> ∀ρ' v H',z6I G ρ n ts vs H ρ' n' ts' H'->RD G ρ' H' t v->(∀l∈labs t,l<n'/\(l<n->l∈z02 ts))->Q v H'
 |_=>False
theorem z7s{ts:List D}{vs:List V}{f:FM}{Q:VK}{E:XK}(hl:vs.length=np)(M:MRL G F.toFx ρ H σv tv s ts vs)(W:wM G F σv tv (z6J (f ts s.n) ts s) Q):spM G np f vs H Q E:=by
 refine⟨hl,ρ,s.n,ts,M.rd,M.m.inj,M.m.dom,fun l h=>(M.lb l h).1,M.m.kd, ?_⟩
 cases e:f ts s.n with
 |no=>rw[e] at W;exact W
 |ex d ts' n'=>rw[e] at W;exact W
 |ok t ts' n'=>
  rw[e] at W
  intro ρ' v H' P rd lbt
  have own: ∀l∈labs t,F.A0 (ρ' l)\/F.H0 (ρ' l)=none:=fun l h=>by
   obtain⟨b1,b2⟩:=lbt l h
   by_cases hn:l<s.n
   ·rw[P.old l hn];exact(M.lb l (b2 hn)).2
   ·exact .inr (M.m.fresh0 (P.new l (Nat.not_lt.mp hn) b1))
  unfold z6J at W
  dsimp only at W
  split at W
  ·rename_i et
   subst et
   exact W.out (M.m.call0 M.rd M.lb P) rd fun l h=>⟨(lbt l h).1,own l h⟩
  ·split at W
   ·rename_i hc
    exact W.out (M.m.call M.rd M.lb P hc) rd fun l h=>⟨(lbt l h).1,own l h⟩
   ·exact False.elim W
theorem z5w: ∀(ms:List (M D)) (s:Stt) (ts:List D) (s':Stt),mArgs ms s= .ok ts s'->ts.length=ms.length:=by
 intro ms
 induction ms with
 |nil=>intro s ts s' e;simp only[mArgs,rt,Res.ok.injEq] at e;rw[<-e.1];rfl
 |cons m ms ih=>
  intro s ts s' e
  simp only[mArgs,bd,psh] at e
  cases e1:m s with
  |ok t s1=>
   simp only[e1] at e
   cases e2:mArgs ms (s1.psh t) with
   |ok ys s2=>
    simp only[e2,pop] at e
    cases e3:s2.tm with
    |nil=>simp only[e3] at e;cases e
    |cons o r=>
     cases o with
     |none=>simp only[e3] at e;cases e
     |some t'=>
      simp only[e3,rt,Res.ok.injEq] at e
      rw[<-e.1,List.length_cons,List.length_cons,ih _ _ _ e2]
   |ex d s2=>simp only[e2] at e;cases e
   |no=>simp only[e2] at e;cases e
  |ex d s1=>simp only[e1] at e;cases e
  |no=>simp only[e1] at e;cases e
theorem se_call{X:Cx}{e:Expr}{es:List Expr}{pos p:Pos}{CX:CXT}{k:Nat}{fa:Addr}{fd:FuncData}{ps:List Str}{x:Str}{E:XK}{f:FM}{ms:List (M D)}(hk:X.K=G.K)(Fn:FnOk X.prog X.w X.K X.mg X.base CX k fa fd ps (spM G ps.length f))(hr:Room k X.A)(hg:Gl X x)(hm:X.mg x=some (.ref fa))(hkp:W.keepIn X.K (.ref fa)=true)(hb:z3R X.K fd ps [])(hx:z3p CX X E)
 (ha:SA X G F (e::es) (mArgs ms)) (hln:ms.length=ps.length) (hdb:(x==("__debug__" :Str))=false:=by decide) (he:starEach (e::es) X.env=(false,eval e X.env)::starEach es X.env:=by rfl) (hpl:(backTo pos (starEach es X.env)).any (·.1)=false:=by rfl):
 SE X G F (.Call (.Name x p) (e::es) [] pos) (z03 f ms):=by
 refine PE.imp0 (zdc Fn hr hg hm hkp hb .nil hx ha hdb he hpl) fun σ H Q ⟨tv,hs,ρ,s,M,W⟩=>⟨tv,hs,ρ,s,M, ?_⟩
 unfold z03 bd at W
 cases e1:mArgs ms s with
 |ex d s1=>rw[e1] at W;exact W
 |no=>rw[e1] at W;exact W
 |ok ts s1=>
  rw[e1] at W
  intro ρ1 vs H1 M1
  rw[List.append_nil]
  exact z7s (by rw[<-M1.rd.length,z5w ms s ts s1 e1,hln]) M1 W
noncomputable def runF(nl:Nat)(mb:MS):FM:=fun ts n=>match mb {σ:=ts.map some++List.replicate (nl -ts.length) none,tm:=ts.map some,n:=n} with
 | .nx s'=>match z08 s'.tm with|some ts'=> .ok .non ts' s'.n|none=> .no
 | .rt t s'=>match z08 s'.tm with|some ts'=> .ok t ts' s'.n|none=> .no
 | .ex d s'=>match z08 s'.tm with|some ts'=> .ex d ts' s'.n|none=> .no
 |_=> .no
noncomputable def z82(G:Gx)(ρ:Nat->Addr)(n:Nat)(ts:List D)(vs:List V)(H:Hp)(lb: ∀l∈z02 ts,l<n)(dom: ∀l,l<n->∃o,H (ρ l)=some o):Fy where
 A0:=fun a=> ∃l∈z02 ts,a=ρ l
 H0:=H
 Z:=fun a=>(∃o,H a=some o)/\∀l,l<n->a≠ρ l
 zA:=fun a z=>⟨z.1,fun⟨l,hl,e⟩=>z.2 l (lb l hl) e⟩
 aH:=fun a ⟨l,hl,e⟩=>e▸dom l (lb l hl)
 n0:=n
 ρ0:=ρ
 tv0:=vs.map some
 xw:=fun _ _=>False
theorem RDs.sl: ∀{ts:List D} {vs:List V},RDs G ρ H ts vs->Sl G ρ H (ts.map some) (vs.map some)/\z0b (ts.map some)=z02 ts
 |[],vs,h=>by simp only[RDs] at h;subst h;simp[Sl,z0b,z02]
 |d::ds,vs,h=>by
  simp only[RDs] at h
  obtain⟨x,q,rfl,h1,h2⟩:=h
  obtain⟨q1,q2⟩:=RDs.sl h2
  refine⟨?_,by simp only[List.map_cons,z0b,z02,q2]⟩
  simp only[List.map_cons,Sl]
  exact⟨_,_,rfl,h1,q1⟩
theorem z30{ts ts':List D}{vs:List V}{n:Nat}{lb: ∀l∈z02 ts,l<n}{dom: ∀l,l<n->∃o,H (ρ l)=some o}(inj: ∀i j,i<n->j<n->ρ i=ρ j->i=j)(M:MR G (z82 G ρ n ts vs H lb dom).toFx ρ' H' σv (vs.map some) s)(e:z08 s.tm=some ts'):
 z6I G ρ n ts vs H ρ' s.n ts' H'/\∀l,l<s.n->((z82 G ρ n ts vs H lb dom).A0 (ρ' l)\/H (ρ' l)=none)->l<n->l∈z02 ts:=by
 have own: ∀l,l<s.n->((z82 G ρ n ts vs H lb dom).A0 (ρ' l)\/H (ρ' l)=none)->l<n->l∈z02 ts:=fun l hl q hn=>by
  have ol:=M.bas.2 l hn
  have ol:ρ' l=ρ l:=ol
  rcases q with⟨j,hj,q⟩|q
  ·rw[ol] at q
   rw[inj l j hn (lb j hj) q];exact hj
  ·rw[ol] at q
   obtain⟨o,z⟩:=dom l hn
   rw[z] at q;cases q
 obtain⟨r1,r2⟩:=Sl.all M.tm e
 refine⟨⟨M.bas.2,M.bas.1,M.inj,M.dom,r1,fun l hl=> ?_,fun a o e1=> ?_,fun l h1 h2=> ?_,M.kd⟩,own⟩
 ·rw[r2] at hl
  have m:l∈z1p s:=List.mem_append_right _ hl
  exact⟨M.lab l m,own l (M.lab l m) (M.own l m)⟩
 ·obtain⟨q1,q2⟩:=M.frm a o e1
  exact⟨q1,fun z=>q2 fun⟨l,hl,e⟩=>z l hl e⟩
 ·cases q:H (ρ' l) with
  |none=>rfl
  |some o=>
   refine absurd ⟨⟨o,q⟩,fun j hj e=> ?_⟩ (M.frb l h2)
   have oj:ρ' j=ρ j:=M.bas.2 j hj
   have:=M.inj l j h2 (Nat.lt_of_lt_of_le hj M.bas.1) (e.trans oj.symm)
   lia
theorem fn_M{P:Program}{w:World}{K:W.Frag}{mg:Str->Option Value}{base:Heap}{x qual:Str}{st:Stmt}{fa:Addr}{fd:FuncData}{N ps:List Str}{k:Nat}{mb:MS}(Fn:Fun K x qual st fa fd)(S:z05 N ps (z01 st))(hG:G.K=K)
 (hb: ∀(cdv:Value) (A:Around) (outer:List Env) (s:Shared) (H:Hp) (E:XK) (F:Fy),Room k (A.deeper (envOfC qual (z01 st) s.heap.objs.size fa cdv))->SSs (cxOf CX0 P w K mg base N qual (z01 st) fa cdv A outer s H E).nox G F (z0Q st) mb):
 FnOk P w K mg base CX0 (k+1) fa fd ps (spM G ps.length (runF N.length mb)):=by
 refine Fn.ok S (fun vs H Q E h=>h.1) fun cdv A outer s H vs Q E hr h=> ?_
 obtain⟨hl,ρ,n,ts,r,inj,dom,lb,kd,W⟩:=h
 refine⟨_,hb cdv A outer s H E (z82 G ρ n ts vs H lb dom) hr,vs.map some,List.suffix_refl _,ρ,{σ:=ts.map some++List.replicate (N.length -ts.length) none,tm:=ts.map some,n:=n}, ?_, ?_⟩
 ·obtain⟨r1,r2⟩:=RDs.sl r
  have hlen:=r.length
  have sub: ∀l∈z1p {σ:=ts.map some++List.replicate (N.length -ts.length) none,tm:=ts.map some,n:=n},l∈z02 ts:=fun l h=>by
   rcases List.mem_append.mp h with h|h
   ·have h:l∈z0b (ts.map some++List.replicate (N.length -ts.length) none):=h
    rw[z0f] at h
    rcases List.mem_append.mp h with h|h
    ·rw[<-r2];exact h
    ·exact absurd h (z3t _)
   ·rw[<-r2];exact h
  refine⟨?_,r1,inj,dom,fun l h=>lb l (sub l h),fun l h=> .inl ⟨l,sub l h,rfl⟩,fun a o e=>⟨⟨o,e⟩,fun _=>e⟩,kd,fun l hl z=>z.2 l hl rfl,⟨Nat.le_refl _,fun l _=>rfl⟩⟩
  show Sl G ρ H _ (vs.map some++List.replicate (N.length -vs.length) none)
  rw[<-hlen]
  exact r1.append (Sl.none_map _)
 ·unfold runF at W
  cases e:mb {σ:=ts.map some++List.replicate (N.length -ts.length) none,tm:=ts.map some,n:=n} with
  |nx s'=>
   simp only[e] at W
   cases ea:z08 s'.tm with
   |none=>simp only[ea] at W
   |some ts'=>
    simp only[ea] at W
    intro ρ' σv' H' M
    obtain⟨P,_⟩:=z30 inj M ea
    exact W ρ' .non H' P (by simp only[RD]) fun l h=>by simp[labs] at h
  |rt t s'=>
   simp only[e] at W
   cases ea:z08 s'.tm with
   |none=>simp only[ea] at W
   |some ts'=>
    simp only[ea] at W
    intro ρ' σv' v H' M
    obtain⟨P,own⟩:=z30 inj M.m ea
    exact W ρ' v H' P M.rd1 fun l h=>⟨(M.lb1 l h).1,own l (M.lb1 l h).1 (M.lb1 l h).2⟩
  |bk s'=>simp only[e] at W
  |ct s'=>simp only[e] at W
  |ex d s'=>
   simp only[e] at W
   cases ea:z08 s'.tm with
   |none=>simp only[ea] at W
   |some ts'=>simp only[ea] at W
  |no=>simp only[e] at W
end
mutual
noncomputable def sz:D->Nat
 | .tup ds=>szL ds+1
 | .ro ds=>szL ds+1
 | .fdc _ vs=>szL vs+1
 | .lst _ ds=>szL ds+1
 | .dct _ _ vs=>szL vs+1
 | .obj _ _ _ vs=>szL vs+1
 | .non=>1| .bool _=>1| .int _=>1| .str _=>1| .exc _=>1| .fn _=>1
noncomputable def szL:List D->Nat
 |[]=>0
 |d::ds=>sz d+szL ds
end
mutual
theorem zbP(l:Nat): ∀(t d:D),z0w l t=some d->sz d<=sz t
 | .non,d,e=>by simp only[z0w] at e;cases e
 | .bool b,d,e=>by simp only[z0w] at e;cases e
 | .int b,d,e=>by simp only[z0w] at e;cases e
 | .str b,d,e=>by simp only[z0w] at e;cases e
 | .exc b,d,e=>by simp only[z0w] at e;cases e
 | .fn b,d,e=>by simp only[z0w] at e;cases e
 | .tup ds,d,e=>by simp only[z0w,sz] at e⊢;have:=z2u l ds d e;lia
 | .ro ds,d,e=>by simp only[z0w,sz] at e⊢;have:=z2u l ds d e;lia
 | .fdc ks vs,d,e=>by simp only[z0w,sz] at e⊢;have:=z2u l vs d e;lia
 | .lst k ds,d,e=>by
  simp only[z0w] at e
  by_cases h:k=l
  ·rw[if_pos h] at e;cases e;exact Nat.le_refl _
  ·rw[if_neg h] at e;simp only[sz];have:=z2u l ds d e;lia
 | .dct k ks vs,d,e=>by
  simp only[z0w] at e
  by_cases h:k=l
  ·rw[if_pos h] at e;cases e;exact Nat.le_refl _
  ·rw[if_neg h] at e;simp only[sz];have:=z2u l vs d e;lia
 | .obj k c ns vs,d,e=>by
  simp only[z0w] at e
  by_cases h:k=l
  ·rw[if_pos h] at e;cases e;exact Nat.le_refl _
  ·rw[if_neg h] at e;simp only[sz];have:=z2u l vs d e;lia
theorem z2u(l:Nat): ∀(t:List D) (d:D),z0x l t=some d->sz d<=szL t
 |[],d,e=>by simp only[z0x] at e;cases e
 |t::ts,d,e=>by
  simp only[z0x] at e
  simp only[szL]
  cases e1:z0w l t with
  |some y=>rw[e1] at e;cases e;have:=zbP l t _ e1;lia
  |none=>rw[e1] at e;have:=z2u l ts d e;lia
end
section
variable{G:Gx}{F:Fy}{ρ:Nat->Addr}{H:Hp}{σv tv:List (Option V)}{s:Stt}{t:D}{ts ds es:List D}{v:V}{vs xs ys:List V}{l:Nat}{Q:VK}
theorem zao(M:MR G F.toFx ρ H σv tv s)(h:RD G ρ H (.lst l ds) v)(lb: ∀j∈labs (.lst l ds),j<s.n):l∉z02 ds:=fun hl=>by
 have h0:=h
 simp only[RD] at h0
 obtain⟨rfl,xs,q,r⟩:=h0
 have:=z0N l ds xs r hl
 cases e:z0x l ds with
 |none=>rw[e] at this;cases this
 |some d=>
  obtain⟨q1,q2⟩:=z0U l ds xs d r e
  have e2:=RD.uniq M.kd M.inj _ _ _ q1 h (fun j hj=>lb j (by simp only[labs];exact List.mem_cons_of_mem _ (q2 j hj))) lb
  have e3:=z2u l ds d e
  rw[e2] at e3
  simp only[sz] at e3
  lia
theorem MR.put2{o:HO}{d:D}(M:MR G F.toFx ρ H σv tv s)(ln:l<s.n)(ow:F.A0 (ρ l)\/F.H0 (ρ l)=none)(ts:z2a H (upd H (ρ l) o))(k:KD G.K (upd H (ρ l) o))(hd:RD G ρ (upd H (ρ l) o) d (.ref (ρ l)))(hb:LB F.toFx ρ s.n (labs d)):
 MR G F.toFx ρ (upd H (ρ l) o) σv tv (s.put l d):=by
 have step: ∀k,k∈z1p s->ρ k=ρ k/\(match (if k=l then some d else none:Option D) with|some d=>RD G ρ (upd H (ρ l) o) d (.ref (ρ k))|none=> ∀o',H (ρ k)=some o'->upd H (ρ l) o (ρ k)=some o'):=fun k hk=>by
  refine⟨rfl, ?_⟩
  by_cases e:k=l
  ·rw[if_pos e];subst e;exact hd
  ·rw[if_neg e]
   intro o' q
   rw[z0c (fun z=>e (M.inj k l (M.lab k hk) ln z))]
   exact q
 have sub: ∀(xs:List (Option D)) (j:Nat),j∈z0b (rpO (fun k=>if k=l then some d else none) xs)->(∀i∈z0b xs,i∈z1p s)->j<s.n/\(F.A0 (ρ j)\/F.H0 (ρ j)=none):=fun xs j h hx=>by
  rcases z5g j xs h with q|⟨k,d',q1,q2,q3⟩
  ·exact⟨M.lab j (hx j q),M.own j (hx j q)⟩
  ·by_cases e:k=l
   ·rw[if_pos e] at q2;cases q2;exact hb j q3
   ·rw[if_neg e] at q2;cases q2
 have all: ∀j∈z1p (s.put l d),j<s.n/\(F.A0 (ρ j)\/F.H0 (ρ j)=none):=fun j h=>by
  rcases List.mem_append.mp h with h|h
  ·exact sub s.σ j h fun i hi=>List.mem_append_left _ hi
  ·exact sub s.tm j h fun i hi=>List.mem_append_right _ hi
 refine⟨Sl.rp ts M.sl fun k hk=>step k (List.mem_append_left _ hk),Sl.rp ts M.tm fun k hk=>step k (List.mem_append_right _ hk),M.inj,fun k hk=> ?_,fun j h=>(all j h).1,fun j h=>(all j h).2,fun a o' e=> ?_,k,M.frb,M.bas⟩
 ·by_cases e:ρ k=ρ l
  ·rw[e];exact⟨o,z0h⟩
  ·rw[z0c e];exact M.dom k hk
 ·obtain⟨⟨o1,e1⟩,e2⟩:=M.frm a o' e
  by_cases ea:a=ρ l
  ·subst ea
   refine⟨⟨o,z0h⟩,fun n=> ?_⟩
   rcases ow with q|q
   ·exact absurd q n
   ·rw[e] at q;cases q
  ·rw[z0c ea]
   exact⟨⟨o1,e1⟩,e2⟩
theorem zfI{o o':HO}{a:Addr}(k:KD G.K H)(e:H a=some o):KD G.K (upd H a o'):=fun b ob q=>by
 by_cases h:b=a
 ·subst h;rw[k _ _ q] at e;cases e
 ·rw[z0c h];exact k _ _ q
theorem z7t{o':HO}{a:Addr}{xs:List V}(e:H a=some (.lst xs)):z2a H (upd H a o'):=
 ⟨fun b ys q=>by rw[z0c (zbo q e (by intro z;cases z))];exact q,fun b o u q=>by rw[z0c (zbo q e (by intro z;cases z))];exact q⟩
theorem RDs.upd{o:HO}{a:Addr}(st:z2a H (upd H (ρ l) o))(inj: ∀i j,i<s.n->j<s.n->ρ i=ρ j->i=j)(ln:l<s.n)(r:RDs G ρ H ds xs)(lb: ∀j∈z02 ds,j<s.n/\j≠l):RDs G ρ (L2.upd H (ρ l) o) ds xs:=
 RDs.stay st ds xs r fun j hj=>⟨rfl,fun o' e=>by rw[z0c (fun z=>(lb j hj).2 (inj j l (lb j hj).1 ln z))];exact e⟩
theorem MR.putL(M:MR G F.toFx ρ H σv tv s)(hl:H (ρ l)=some (.lst xs))(ln:l<s.n)(ow:F.A0 (ρ l)\/F.H0 (ρ l)=none)(r:RDs G ρ H es ys)(lb:LB F.toFx ρ s.n (z02 es))(ne:l∉z02 es):
 MR G F.toFx ρ (upd H (ρ l) (.lst ys)) σv tv (s.put l (.lst l es)):=by
 refine M.put2 ln ow (z7t hl) (zfI M.kd hl) ?_ fun j hj=> ?_
 ·simp only[RD]
  exact⟨trivial,ys,z0h,RDs.upd (a:=0) (z7t hl) M.inj ln r fun j hj=>⟨(lb j hj).1,fun z=>ne (z▸hj)⟩⟩
 ·simp only[labs] at hj
  rcases List.mem_cons.mp hj with q|q
  ·rw[q];exact⟨ln,ow⟩
  ·exact lb j q
end
noncomputable def appD:D->List D->M D
 | .lst l ds,[y]=>fun s=>if ds.length<sizeLine/\l∉labs y then .ok .non (s.put l (.lst l (ds++[y]))) else .no
 |_,_=>fl
noncomputable def isL(x:D):M Unit:=fun s=>match lstD x with|some _=> .ok () s|none=> .no
noncomputable def z5x(mo:M D)(ms:List (M D))(g:D->List D->M D):M D:=bd mo fun x=>bd (isL x) fun _=>bd (psh x) fun _=>bd (mArgs ms) fun ys=>bd pop fun x'=>g x' ys
section
variable{X:Cx}{G:Gx}{F:Fy}{e o:Expr}{es:List Expr}{apos cpos:Pos}
noncomputable def MtOK(G:Gx)(F:Fy)(r:V->List V->Hp->VK->Prop)(g:D->List D->M D):Prop:= ∀ρ s t ts v vs H σv tv Q,MRL G F.toFx ρ H σv tv s (t::ts) (v::vs)->wM G F σv tv (g t ts s) Q->r v vs H (fun w H'=>KD G.K H'->Q w H')
theorem MRL.hd{ρ:Nat->Addr}{H:Hp}{σv tv:List (Option V)}{s:Stt}{t:D}{ts:List D}{v:V}{vs:List V}(M:MRL G F.toFx ρ H σv tv s (t::ts) (v::vs)):RD G ρ H t v/\RDs G ρ H ts vs/\LB F.toFx ρ s.n (labs t)/\LB F.toFx ρ s.n (z02 ts):=by
 have h:=M.rd
 simp only[RDs] at h
 obtain⟨_,_,e,h1,h2⟩:=h
 cases e
 exact⟨h1,h2,fun l h=>M.lb l (by simp only[z02];exact List.mem_append_left _ h),fun l h=>M.lb l (by simp only[z02];exact List.mem_append_right _ h)⟩
theorem zfJ:MtOK G F za1 appD:=by
 intro ρ s t ts v vs H σv tv Q M W
 obtain⟨h1,h2,b1,b2⟩:=M.hd
 unfold appD at W
 split at W
 ·rename_i l ds y
  split at W
  ·rename_i hc
   have h1':=h1
   simp only[RD] at h1
   obtain⟨rfl,xs,hx,r⟩:=h1
   simp only[RDs] at h2
   obtain⟨u,q,rfl,h2,rfl⟩:=h2
   have ns:=zao M.m h1' fun j hj=>(b1 j hj).1
   have bl:=b1 l (by simp only[labs];exact List.mem_cons_self ..)
   refine⟨_,xs,u,rfl,rfl,hx,by rw[<-r.length];exact hc.1,fun _=>W.out (M.m.putL hx bl.1 bl.2 (r.append (RDs.one h2)) ?_ ?_) (by simp only[RD]) fun l h=>by simp[labs] at h⟩
   ·intro j hj
    rw[z1r] at hj
    rcases List.mem_append.mp hj with q|q
    ·exact b1 j (by simp only[labs];exact List.mem_cons_of_mem _ q)
    ·exact b2 j q
   ·intro hj
    rw[z1r] at hj
    rcases List.mem_append.mp hj with q|q
    ·exact ns q
    ·simp only[z02,List.append_nil] at q;exact hc.2 q
  ·exact False.elim W
 ·exact wfl W
theorem zbQ{T:String}{mo:M D}{ms:List (M D)}{g:D->List D->M D}{r:V->List V->Hp->VK->Prop}{σ:L2.St}{H:Hp}{Q:VK}(hT:T= "list")(hg:MtOK G F r g)(h:tM G F (z5x mo ms g) σ H Q):
 tM G F mo σ H fun x H1=>tyV G.K T x H1/\tML G F (mArgs ms) σ H1 fun xs H2=>r x xs H2 fun w H'=>KD G.K H'->Q w H':=by
 obtain⟨tv,h⟩:=h
 have hs:=h.1
 refine⟨tv,(z6F h).mono fun v H1 ⟨ρ1,s1,t,M1,W⟩=> ?_⟩
 simp only[bd,isL] at W
 cases e1:lstD t with
 |none=>simp only[e1] at W;exact False.elim W
 |some ds=>
  simp only[e1,psh] at W
  obtain⟨a,xs,rfl,sq,_⟩:=M1.rd1.lstq e1
  refine⟨.inl ⟨hT,xs,sq⟩,some (.ref a)::tv,suf1 hs,ρ1,s1.psh t,M1.push, ?_⟩
  cases e2:mArgs ms (s1.psh t) with
  |ex d s2=>simp only[e2] at W;exact W
  |no=>simp only[e2] at W;exact W
  |ok ys s2=>
   simp only[e2,pop] at W
   intro ρ2 us H2 M2
   cases e3:s2.tm with
   |nil=>simp only[e3] at W;exact False.elim W
   |cons o r=>
    cases o with
    |none=>simp only[e3] at W;exact False.elim W
    |some t'=>
     simp only[e3] at W
     exact hg _ _ _ _ _ _ _ _ _ _ (M2.down e3) W
theorem zdI{name:Str}{id:String}{r:V->List V->Hp->VK->Prop}{mo:M D}{ms:List (M D)}{g:D->List D->M D}(hk:X.K=G.K)(slot:Slot "list" name id)(hty:typeOf (.builtin id)=pure (.type "method_descriptor"))(hm:MtR X id r)(hg:MtOK G F r g)(ho:SE X G F o mo)(ha:SA X G F (e::es) (mArgs ms))
 (hbase:attributeBase o name X.env (eval o X.env)=eval o X.env:=by rfl)
 (hfew:((backTo cpos (starEach (e::es) X.env)).all (fun x=> !x.1)&&(backToKw cpos (keywordEach [] X.env)).all (fun x=>x.1.isSome)
  &&decide ((e::es).length+([]:List Keyword).length+(if([]:List Keyword).isEmpty then 0 else 1)<30))=true:=by rfl)
 (hline:(apos.endLine==cpos.line)=true:=by rfl) (hs:starEach (e::es) X.env=(false,eval e X.env)::starEach es X.env:=by rfl) (hplain:(backTo cpos (starEach es X.env)).any (·.1)=false:=by rfl):SE X G F (.Call (.Attribute o name apos) (e::es) [] cpos) (z5x mo ms g):=by
 refine PE.imp hk (zhw PySem.F.plainAttrs_list slot hty hm ho ha hbase hfew hline hs hplain) fun σ H Q h=> ?_
 rw[hk]
 exact zbQ rfl hg h
noncomputable def setD(o i v:D):MS:=fun s=>match o,i with
 | .lst l ds, .int k=>match ixN ds.length k with
  |some j=>if l∉labs v then .nx (s.put l (.lst l (ds.set j v))) else .no
  |none=> .no
 |_,_=> .no
noncomputable def mTri(me mo mi:M D)(g:D->D->D->MS):MS:=lift me fun v=>lift (psh v) fun _=>lift mo fun o=>lift (psh o) fun _=>lift mi fun i=>lift pop fun o'=>lift pop fun v'=>g o' i v'
theorem zbR{mo mi:M D}{g:D->D->D->MS}{tv:List (Option V)}{Dd:Ends}{σ:L2.St}{H1:Hp}{ρ1:Nat->Addr}{s1:Stt}{t:D}{v:V}(hs:F.tv0<:+tv)(M1:MRL G F.toFx ρ1 H1 σ tv s1 [t] [v])
 (W:wS G F tv ((lift (psh t) fun _=>lift mo fun o=>lift (psh o) fun _=>lift mi fun i=>lift pop fun o'=>lift pop fun v'=>g o' i v') s1) Dd):
 tM G F mo σ H1 fun o H2=>tM G F mi σ H2 fun i H3=> ∃ρ s t1 t2 t3,MRL G F.toFx ρ H3 σ tv s [t1,t2,t3] [v,o,i]/\wS G F tv (g t2 t3 t1 s) Dd:=by
 refine⟨some v::tv,suf1 hs,ρ1,s1.psh t,M1.push, ?_⟩
 simp only[lift,psh] at W
 cases e1:mo (s1.psh t) with
 |ex d s2=>simp only[e1] at W;exact W
 |no=>simp only[e1] at W;exact W
 |ok o s2=>
  simp only[e1] at W
  intro ρ2 u H2 M2
  refine⟨some u::some v::tv,suf1 (suf1 hs),ρ2,s2.psh o,M2.push, ?_⟩
  cases e2:mi (s2.psh o) with
  |ex d s3=>simp only[e2] at W;exact W
  |no=>simp only[e2] at W;exact W
  |ok i s3=>
   simp only[e2,pop] at W
   intro ρ3 w H3 M3
   cases e3:s3.tm with
   |nil=>simp only[e3] at W;exact False.elim W
   |cons o3 r3=>
    cases o3 with
    |none=>simp only[e3] at W;exact False.elim W
    |some x3=>
     simp only[e3] at W
     cases r3 with
     |nil=>exact False.elim W
     |cons o4 r4=>
      cases o4 with
      |none=>exact False.elim W
      |some x4=>
       have M4:=M3.down e3
       have M5:=M4.down (s':={s3 with tm:=some x4::r4}) rfl
       exact⟨ρ3,_,x4,x3,i,M5,W⟩
theorem zdJ{me mo mi:M D}{g:D->D->D->MS}{tv:List (Option V)}{Dd:Ends}{σ:L2.St}{H:Hp}(h:tSv G F (mTri me mo mi g) tv Dd σ H):
 tM G F me σ H fun v H1=>tM G F mo σ H1 fun o H2=>tM G F mi σ H2 fun i H3=> ∃ρ s t1 t2 t3,MRL G F.toFx ρ H3 σ tv s [t1,t2,t3] [v,o,i]/\wS G F tv (g t2 t3 t1 s) Dd:=
 ⟨tv,(z3P h).mono fun v H1 ⟨ρ1,s1,t,M1,W⟩=>zbR h.1 M1 W⟩
theorem zfK{ρ:Nat->Addr}{s:Stt}{t1 t2 t3:D}{v o i:V}{H:Hp}{σv tv:List (Option V)}{Dd:Ends}(M:MRL G F.toFx ρ H σv tv s [t1,t2,t3] [v,o,i])(W:wS G F tv (setD t2 t3 t1 s) Dd):zbz o i v H fun H'=>Dd.nx σv H':=by
 have h:=M.rd
 simp only[RDs] at h
 obtain⟨_,_,e,h1,_,_,e2,h2,_,_,e3,h3,_⟩:=h
 cases e;cases e2;cases e3
 have b1:LB F.toFx ρ s.n (labs t1):=fun l h=>M.lb l (by simp only[z02];exact List.mem_append_left _ h)
 have b2:LB F.toFx ρ s.n (labs t2):=fun l h=>M.lb l (by simp only[z02];exact List.mem_append_right _ (List.mem_append_left _ h))
 cases t2 with
 |lst l ds=>
  cases t3 with
  |int k=>
   simp only[setD] at W
   cases ek:ixN ds.length k with
   |none=>simp only[ek] at W;exact False.elim W
   |some j=>
    simp only[ek] at W
    by_cases hc:l∉labs t1
    ·rw[if_pos hc] at W
     have h2':=h2
     simp only[RD] at h2 h3
     obtain⟨rfl,xs,hx,r⟩:=h2
     subst h3
     have ns:=zao M.m h2' fun j hj=>(b2 j hj).1
     have bl:=b2 l (by simp only[labs];exact List.mem_cons_self ..)
     have mm: ∀q,q∈z02 (ds.set j t1)->q∈z02 ds\/q∈labs t1:=fun q hq=>by
      obtain⟨d,h1,h2⟩:=z2b hq
      rcases List.mem_or_eq_of_mem_set h1 with z|z
      ·exact .inl (labsL_mem z q h2)
      ·subst z;exact .inr h2
     refine⟨_,xs,k,j,rfl,rfl,hx,by rw[<-r.length];exact ek,W ρ σv _ (M.m.putL hx bl.1 bl.2 (r.set j h1) (fun q hq=> ?_) fun hq=> ?_)⟩
     ·rcases mm q hq with z|z
      ·exact b2 q (by simp only[labs];exact List.mem_cons_of_mem _ z)
      ·exact b1 q z
     ·rcases mm l hq with z|z
      ·exact ns z
      ·exact hc z
    ·rw[if_neg hc] at W;exact False.elim W
  |_=>exact False.elim W
 |_=>exact False.elim W
theorem ss_setI{ob ix:Expr}{pos tpos:Pos}{mo mi me:M D}(he:SE X G F e me)(ho:SE X G F ob mo)(hi:SE X G F ix mi)(hg: ∀{to ti:TE},PE X ob to->PE X ix ti->PG X (.Subscript ob ix tpos) (gSub to ti zbz))(hs:swapsWithSole [.Subscript ob ix tpos] e pos.line X.env=pure false:=by rfl)(hw:swappedStores [.Subscript ob ix tpos] e X.env=pure none:=by rfl)
 (h1:(assignEach [.Subscript ob ix tpos] X.env).map (·.2)=[assign (.Subscript ob ix tpos) X.env]:=by rfl):SS X G F (.Assign [.Subscript ob ix tpos] e pos) (mTri me mo mi setD):=by
 refine PS.imp0 (zcw he (hg ho hi) hs hw h1) fun Dd σ H ⟨tv,h⟩=> ?_
 exact(zdJ h).mono fun v H1 h1=>h1.mono fun o H2 h2=>h2.mono fun i H3 ⟨ρ,s,t1,t2,t3,M,W⟩=>zfK M W
end
end Mi
namespace Mi
open PySem L2
section
variable{X:Cx}{G:Gx}{F:Fy}{e a b c:Expr}{pos:Pos}{ma mb mc m:M D}
theorem se_add(hk:X.K=G.K)(ha:SE X G F a ma)(hb:SE X G F b mb):SE X G F (.BinOp a .Add b pos) (mBin ma mb addD):=
 z9o hk (r:=fun x y H Q=>rI0 (fun i j=> .int (i+j)) x y H Q\/zds G.K x y H Q\/rCat x y H Q\/∃i j,x= .str i/\y= .str j/\i.length+j.length<=sizeLine/\Q (.str (i++j)) H) (hk▸OpR.or zeR (OpR.or zdt (OpR.or zf9 z9h))) zfl ha hb
theorem se_sub(hk:X.K=G.K)(ha:SE X G F a ma)(hb:SE X G F b mb):SE X G F (.BinOp a .Sub b pos) (mBin ma mb subD):=z9o hk zeS zfm ha hb
theorem se_mul(hk:X.K=G.K)(ha:SE X G F a ma)(hb:SE X G F b mb):SE X G F (.BinOp a .Mult b pos) (mBin ma mb mulD):=z9o hk (r:=fun x y H Q=>rI CMul (fun i j=> .int (i*j)) x y H Q\/(rRep x y H Q\/zdu G.K x y H Q)) (OpR.or zeT (OpR.or zfa (hk▸zdv))) zft ha hb
theorem se_fdiv(hk:X.K=G.K)(ha:SE X G F a ma)(hb:SE X G F b mb):SE X G F (.BinOp a .FloorDiv b pos) (mBin ma mb z6a):=z9o hk zd8 zdz ha hb
theorem se_mod(hk:X.K=G.K)(ha:SE X G F a ma)(hb:SE X G F b mb):SE X G F (.BinOp a .Mod b pos) (mBin ma mb modD):=z9o hk zeU zfn ha hb
theorem se_pow(hk:X.K=G.K)(ha:SE X G F a ma)(hb:SE X G F b mb):SE X G F (.BinOp a .Pow b pos) (mBin ma mb powD):=z9o hk zeV zfo ha hb
theorem se_neg(hk:X.K=G.K)(ha:SE X G F a ma):SE X G F (.UnaryOp .USub a pos) (bd ma negD):=zhA hk zeW zfs ha
structure Cm(X:Cx)(G:Gx)(F:Fy)(op:CmpOp)(g:D->D->M D):Prop where
 h: ∃r,OpR X (compareOp op) r/\z2w G F r g
theorem z3U:Cm X G F .Lt ltD:=⟨_,zho,zhC⟩
theorem z3m:Cm X G F .LtE leD:=⟨_,zhp,zhD⟩
theorem z46:Cm X G F .Gt gtD:=⟨_,zhq,zhE⟩
theorem zfL:Cm X G F .GtE geD:=⟨_,zhr,zhF⟩
theorem z0W(hk:X.K=G.K)(hu:X.A.units+64<cLine):Cm X G F .Eq eqD:=⟨_,hk▸zff hu,zhG⟩
theorem z4I(hk:X.K=G.K)(hu:X.A.units+64<cLine):Cm X G F .NotEq neD:=⟨_,hk▸zfg hu,zhH⟩
theorem zap(hk:X.K=G.K)(hu:X.A.units+64<cLine):Cm X G F .In inD:=⟨_,hk▸zfh hu,zhI⟩
theorem zfM(hk:X.K=G.K)(hu:X.A.units+64<cLine):Cm X G F .NotIn ninD:=⟨_,hk▸za6 hu,zfp⟩
theorem z7u:Cm X G F .Is isN:=⟨_,zeX,zfq⟩
theorem z47:Cm X G F .IsNot notN:=⟨_,zd9,zdA⟩
theorem se_cmp{op:CmpOp}{g:D->D->M D}(hc:Cm X G F op g)(ha:SE X G F a ma)(hb:SE X G F b mb)(hm:behindInMarks op b=false):SE X G F (.Compare a [op] [b] pos) (mBin ma mb g):=by
 obtain⟨r,h1,h2⟩:=hc.h
 exact zdx h1 h2 ha hb hm
theorem sb_cmp{op:CmpOp}{g:D->D->M D}(hc:Cm X G F op g)(ha:SE X G F a ma)(hb:SE X G F b mb)(hm:behindInMarks op b=false):SB X G F (.Compare a [op] [b] pos) (mBoo (mBin ma mb g)):=by
 obtain⟨r,h1,h2⟩:=hc.h
 exact zdC h1 h2 ha hb hm
theorem se_cmp2{op op':CmpOp}{g g':D->D->M D}(hc:Cm X G F op g)(hc':Cm X G F op' g')(ha:SE X G F a ma)(hb:SE X G F b mb)(hcc:SE X G F c mc)(hm:lastMarks [op,op'] [b,c]=false:=by with_unfolding_all rfl):SE X G F (.Compare a [op,op'] [b,c] pos) (z0y ma mb mc g g'):=by
 obtain⟨r,h1,h2⟩:=hc.h
 obtain⟨r',h1',h2'⟩:=hc'.h
 exact zbI h1 h2 h1' h2' ha hb hcc hm
theorem sb_cmp2{op op':CmpOp}{g g':D->D->M D}(hc:Cm X G F op g)(hc':Cm X G F op' g')(ha:SE X G F a ma)(hb:SE X G F b mb)(hcc:SE X G F c mc)(hm:lastMarks [op,op'] [b,c]=false:=by with_unfolding_all rfl):SB X G F (.Compare a [op,op'] [b,c] pos) (mBoo (z0y ma mb mc g g')):=by
 obtain⟨r,h1,h2⟩:=hc.h
 obtain⟨r',h1',h2'⟩:=hc'.h
 exact zbJ h1 h2 h1' h2' ha hb hcc hm
theorem se_idx(hk:X.K=G.K)(ha:SE X G F a ma)(hb:SE X G F b mb)(hs:z3q b):SE X G F (.Subscript a b pos) (mBin ma mb ixD):=zhB hk (hk▸IxR.or zdh zf7) zhJ ha hb hs
structure Cb(X:Cx)(G:Gx)(F:Fy)(f:Value)(g:List D->M D):Prop where
 h: ∃r,CallR X f r/\z2R G F r g
theorem zfN(hk:X.K=G.K):Cb X G F (.builtin "len") lenD:=⟨_,hk▸z7k,zfx⟩
theorem zfO:Cb X G F (.builtin "abs") absD:=⟨_,zbw,zfy⟩
theorem zaq(hc:X.calm=true):Cb X G F (.builtin "min") minD:=⟨_,z9U hc,zfz⟩
theorem zar(hk:X.K=G.K)(hd:X.A.handled=none):Cb X G F (.builtin "all") allD:=⟨_,hk▸za7 hd,zfA⟩
theorem zfP(hk:X.K=G.K)(hd:X.A.handled=none):Cb X G F (.builtin "any") anyD:=⟨_,hk▸za8 hd,zfB⟩
theorem zfQ:Cb X G F (.type "int") intD:=⟨_,z9V,zfC⟩
theorem z5i(hk:X.K=G.K):Cb X G F (.type "tuple") tupF:=⟨_,hk▸za9,zdE⟩
theorem se_cb{x:Str}{p:Pos}{es:List Expr}{ms:List (M D)}{g:List D->M D}{id:String}(hk:X.K=G.K)(hc:Cb X G F (.builtin id) g)(hgl:Gl X x)(hm:X.mg x=none)(hv:bootBuiltins x=some (.builtin id))(ha:SA X G F (e::es) (mArgs ms))(hn:x≠ "__name__" :=by decide)(hdb:(x==("__debug__" :Str))=false:=by decide)
 (he:starEach (e::es) X.env=(false,eval e X.env)::starEach es X.env:=by rfl) (hpl:(backTo pos (starEach es X.env)).any (·.1)=false:=by rfl):SE X G F (.Call (.Name x p) (e::es) [] pos) (mCB ms g):=by
 obtain⟨r,h1,h2⟩:=hc.h
 exact zbG hk h1 h2 hgl hm hv ha hn hdb he hpl
theorem se_ct{x:Str}{p:Pos}{es:List Expr}{ms:List (M D)}{g:List D->M D}{T:String}(hk:X.K=G.K)(hc:Cb X G F (.type T) g)(hgl:Gl X x)(hm:X.mg x=none)(hv:bootBuiltins x=some (.type T))(ha:SA X G F (e::es) (mArgs ms))(hn:x≠ "__name__" :=by decide)(hdb:(x==("__debug__" :Str))=false:=by decide)
 (he:starEach (e::es) X.env=(false,eval e X.env)::starEach es X.env:=by rfl) (hpl:(backTo pos (starEach es X.env)).any (·.1)=false:=by rfl):SE X G F (.Call (.Name x p) (e::es) [] pos) (mCB ms g):=by
 obtain⟨r,h1,h2⟩:=hc.h
 exact zae hk h1 h2 hgl hm hv ha hn hdb he hpl
structure Cl(X:Cx)(G:Gx)(F:Fy)(id:String)(g:D->List D->M D):Prop where
 h: ∃r,MtR X id r/\MtOK G F r g
theorem z7v:Cl X G F "list.append" appD:=⟨_,z5o,zfJ⟩
end
end Mi
namespace Mi
open PySem L2 PySem.Spec PyProof.Rows
end Mi
namespace Mi
open PySem L2
section
variable{X:Cx}{G:Gx}{F:Fy}{e o:Expr}{es:List Expr}{apos cpos:Pos}
theorem se_cl{name:Str}{id:String}{mo:M D}{ms:List (M D)}{g:D->List D->M D}(hk:X.K=G.K)(slot:Slot "list" name id)(hty:typeOf (.builtin id)=pure (.type "method_descriptor"))(hm:Cl X G F id g)(ho:SE X G F o mo)(ha:SA X G F (e::es) (mArgs ms))
 (hbase:attributeBase o name X.env (eval o X.env)=eval o X.env:=by rfl)
 (hfew:((backTo cpos (starEach (e::es) X.env)).all (fun x=> !x.1)&&(backToKw cpos (keywordEach [] X.env)).all (fun x=>x.1.isSome)
  &&decide ((e::es).length+([]:List Keyword).length+(if([]:List Keyword).isEmpty then 0 else 1)<30))=true:=by rfl)
 (hline:(apos.endLine==cpos.line)=true:=by rfl) (hs:starEach (e::es) X.env=(false,eval e X.env)::starEach es X.env:=by rfl) (hplain:(backTo cpos (starEach es X.env)).any (·.1)=false:=by rfl):SE X G F (.Call (.Attribute o name apos) (e::es) [] cpos) (z5x mo ms g):=by
 obtain⟨r,h1,h2⟩:=hm.h
 exact zdI hk slot hty h1 h2 ho ha hbase hfew hline hs hplain
end
inductive SEs(X:Cx)(G:Gx)(F:Fy):List Expr->List (M D)->Prop
 |nil:SEs X G F [] []
 |cons {e:Expr} {m:M D} {es:List Expr} {ms:List (M D)}:SE X G F e m->nst e=true->SEs X G F es ms->SEs X G F (e::es) (m::ms)
theorem sa_of{X:Cx}{G:Gx}{F:Fy}{es:List Expr}{ms:List (M D)}(hk:X.K=G.K)(h:SEs X G F es ms):SA X G F es (mArgs ms):=by
 induction h with
 |nil=>exact zfk hk
 |cons h1 h2 _ ih=>exact zdy hk h1 ih h2
section
variable{X:Cx}{G:Gx}{F:Fy}{a b tg:Expr}{pos:Pos}
noncomputable def zfR(i:Nat):List (Option D)->Option (Option D)
 |some c::_=>(lstD c).map fun ds=>(ds[i]?).map fun d=> .tup [.int i,d]
 |_=>none
noncomputable def kEnm:ItK:=⟨1,zfR,z7r⟩
theorem z8J{a:Addr}:ItOK G (Ite G.K a) kEnm [some (.ref a)]:=by
 intro F ρ H σv tvp tv s i M
 dsimp only[kEnm]
 cases e:s.tm.drop tvp.length with
 |nil=>trivial
 |cons o r=>
  cases o with
  |none=>trivial
  |some c=>
   simp only[zfR]
   obtain⟨h,lb⟩:=MR.head (s:=s.popn tvp.length) M.popn e
   cases e1:lstD c with
   |none=>trivial
   |some ds=>
    simp only[Option.map_some]
    obtain⟨a',xs,ea,sq,rr,sub⟩:=h.lstq e1
    cases ea
    cases e2:ds[i]? with
    |none=>
     simp only[Option.map_none]
     refine⟨xs,sq, ?_⟩
     rw[<-rr.length]
     exact List.getElem?_eq_none_iff.mp e2
    |some d=>
     simp only[Option.map_some]
     obtain⟨x,ex,rx⟩:=rr.get i d e2
     refine⟨⟨xs,x,sq,ex⟩, ?_⟩
     rintro x' H' ⟨p,y,hp,rfl,rfl,hx,kd⟩
     rw[hx xs sq] at ex
     cases ex
     have sm:=Same.new (.tup [.int i,x]) hp
     refine⟨M.same sm kd,RDs.one ?_,fun l hl=>lb l (sub l (labsL_mem (List.mem_of_getElem? e2) l (by simpa only[z02,labs,List.append_nil,List.nil_append] using hl)))⟩
     simp only[RD]
     refine⟨p,_,rfl,z0h, ?_⟩
     have r1:=(RDs.one rx).same sm
     simp only[RDs] at r1⊢
     obtain⟨x,r,e,h1,h2⟩:=r1
     cases e
     exact⟨_,_,rfl,by simp only[RD],_,_,rfl,h1,rfl⟩
noncomputable def zcB(i:Nat):List (Option D)->Option (Option D)
 |some (.tup ds)::_=>some ((ds[i]?).map fun d=> .tup [.int i,d])
 |_=>none
noncomputable def z6d:ItK:=⟨1,zcB,z7r⟩
theorem zas{a:Addr}:ItOK G (Itet G.K a) z6d [some (.ref a)]:=by
 intro F ρ H σv tvp tv s i M
 dsimp only[z6d]
 cases e:s.tm.drop tvp.length with
 |nil=>trivial
 |cons o r=>
  cases o with
  |none=>trivial
  |some c=>
   obtain⟨h,lb⟩:=MR.head (s:=s.popn tvp.length) M.popn e
   cases c with
   |tup ds=>
    simp only[zcB]
    obtain⟨a',xs,ea,sq,rr⟩:=h.tupq
    cases ea
    cases e2:ds[i]? with
    |none=>
     simp only[Option.map_none]
     refine⟨xs,sq, ?_⟩
     rw[<-rr.length]
     exact List.getElem?_eq_none_iff.mp e2
    |some d=>
     simp only[Option.map_some]
     obtain⟨x,ex,rx⟩:=rr.get i d e2
     refine⟨⟨xs,x,sq,ex⟩, ?_⟩
     rintro x' H' ⟨p,y,hp,rfl,rfl,hx,kd⟩
     rw[hx xs sq] at ex
     cases ex
     have sm:=Same.new (.tup [.int i,x]) hp
     refine⟨M.same sm kd,RDs.one ?_,fun l hl=>lb l (by simp only[labs];exact labsL_mem (List.mem_of_getElem? e2) l (by simpa only[z02,labs,List.append_nil,List.nil_append] using hl))⟩
     simp only[RD]
     refine⟨p,_,rfl,z0h, ?_⟩
     have r1:=(RDs.one rx).same sm
     simp only[RDs] at r1⊢
     obtain⟨x,r,e,h1,h2⟩:=r1
     cases e
     exact⟨_,_,rfl,by simp only[RD],_,_,rfl,h1,rfl⟩
   |_=>trivial
noncomputable def enmI(ts:List D):M ItK:=fun s=>match ts with
 |[.lst l ds]=> .ok kEnm (s.psh (.lst l ds))
 |[.ro ds]=> .ok kEnm (s.psh (.ro ds))
 |[.tup ds]=> .ok z6d (s.psh (.tup ds))
 |_=> .no
noncomputable def mEnm(ms:List (M D)):M ItK:=bd (mArgs ms) enmI
theorem si_enm{p tpos:Pos}{elts:List Expr}{x1:Nat}{ms:List (M D)}(hk:X.K=G.K)(hg:Gl X "enumerate")(hm:X.mg "enumerate" =none)(ha:SA X G F [a] (mArgs ms))(hs:starEach [a] X.env=[(false,eval a X.env)]:=by rfl):SI X G F (.Tuple elts x1 tpos) (.Call (.Name "enumerate" p) [a] [] pos) (mEnm ms):=by
 refine PI.imp0 (zbK hg hm ha hs) fun σ H R ⟨tv,hs,ρ,s,M,W⟩=>⟨tv,hs,ρ,s,M, ?_⟩
 unfold mEnm bd at W
 cases e:mArgs ms s with
 |ex d s1=>rw[e] at W;exact W
 |no=>rw[e] at W;exact W
 |ok ts s1=>
  rw[e] at W
  intro ρ1 vs H1 M1
  rw[hk]
  unfold enmI at W
  dsimp only at W
  split at W
  ·rename_i ts' K s' hh
   split at hh
   ·cases hh
    obtain⟨v,rfl,h,_⟩:=M1.one
    obtain⟨a,xs,rfl,sq,r,_⟩:=h.lstq (ds:=_) rfl
    exact⟨a,rfl, .inl ⟨⟨xs,sq⟩,W ρ1 H1 [some (.ref a)] _ rfl M1.push z8J⟩⟩
   ·cases hh
    obtain⟨v,rfl,h,_⟩:=M1.one
    obtain⟨a,xs,rfl,sq,r,_⟩:=h.lstq (ds:=_) rfl
    exact⟨a,rfl, .inl ⟨⟨xs,sq⟩,W ρ1 H1 [some (.ref a)] _ rfl M1.push z8J⟩⟩
   ·cases hh
    obtain⟨v,rfl,h,_⟩:=M1.one
    obtain⟨a,xs,rfl,sq,r⟩:=h.tupq
    exact⟨a,rfl, .inr ⟨⟨xs,sq⟩,W ρ1 H1 [some (.ref a)] _ rfl M1.push zas⟩⟩
   ·cases hh
  ·rename_i hh
   split at hh<;>cases hh
  ·exact False.elim W
noncomputable def z1h(lo:Int)(n:Nat):List D:=(List.range n).map fun(k:Nat)=>D.int (lo+(k:Int))
noncomputable def mOrX(m m':M D):M D:=bd m fun d=>bd (truD d) fun b=>iteM b (rt d) m'
theorem se_orX{rest:List Expr}{m m':M D}(hk:X.K=G.K)(ha:SE X G F a m)(hb:SE X G F (.BoolOp .Or (b::rest) pos) m'):SE X G F (.BoolOp .Or (a::b::rest) pos) (mOrX m m'):=by
 refine PE.imp0 (zfE ha hb) fun σ H Q ⟨tv,h⟩=>⟨tv, ?_⟩
 have hs:=h.1
 refine(z6F h).mono fun v H1 ⟨ρ1,s1,t,M1,W⟩=> ?_
 rw[hk]
 have ht: ∃k,truD t s1= .ok k s1:=by
  unfold bd at W
  unfold truD at W⊢
  cases t with
  |str x=>
   dsimp only at W⊢
   by_cases hz:x.length<=sizeLine
   ·rw[if_pos hz];exact⟨_,rfl⟩
   ·rw[if_neg hz] at W;exact False.elim W
  |dct _ _ _=>exact False.elim W
  |fdc _ _=>exact False.elim W
  |obj _ _ _ _=>exact False.elim W
  |exc _=>exact False.elim W
  |fn _=>exact False.elim W
  |_=>exact⟨_,rfl⟩
 obtain⟨k,hk1⟩:=ht
 have W1:wM G F σ tv (iteM k (rt t) m' s1) Q:=by
  have:bd (truD t) (fun b=>iteM b (rt t) m') s1=iteM k (rt t) m' s1:=by unfold bd;rw[hk1]
  rw[<-this];exact W
 obtain⟨k',q1,q2⟩:=zcz (Q:=fun c _=>c=k) M1 (by rw[hk1];exact fun ρ' H' M'=>rfl)
 subst q2
 refine⟨k',q1, ?_⟩
 cases k' with
 |true=>rw[if_pos rfl];exact W1 ρ1 v H1 M1
 |false=>rw[if_neg Bool.false_ne_true];exact⟨tv,hs,ρ1,s1,M1.m,W1⟩
theorem ss_par{i j:Nat}{x y:Str}{px py pt:Pos}{kt k2 pt2}{ms:List (M D)}(hc:X.calm=true)(hN:X.N.Nodup)(hi:X.N[i]? =some x)(hj:X.N[j]? =some y)(hij:i≠j)
 (hx:X.env.scope.names.lookup x=some .local) (hy:X.env.scope.names.lookup y=some .local) (ha:SA X G F [a,b] (mArgs ms))
 (hw:swappedStores [.Tuple [.Name x px, .Name y py] kt pt] (.Tuple [a,b] k2 pt2) X.env=pure (some [x,y]):=by rfl)
 (hs:swapsWithSole [.Tuple [.Name x px, .Name y py] kt pt] (.Tuple [a,b] k2 pt2) pos.line X.env=pure false:=by rfl):
 SS X G F (.Assign [.Tuple [.Name x px, .Name y py] kt pt] (.Tuple [a,b] k2 pt2) pos) (sAsg (.tp [.nm i, .nm j]) (mCB ms tupD)):=by
 refine PS.imp0 (zeP hc hN hi hj hij hx hy ha hw hs) fun Dd σ H ⟨tv,hs,ρ,s,M,W⟩=>⟨tv,hs,ρ,s,M, ?_⟩
 unfold sAsg lift mCB bd at W
 cases e:mArgs ms s with
 |ex d s1=>rw[e] at W;exact W
 |no=>rw[e] at W;exact W
 |ok ts s1=>
  rw[e] at W
  intro ρ1 vs H1 M1
  by_cases hz:ts.length<=sizeLine
  ·have e2:tupD ts s1= .ok (.tup ts) s1:=by unfold tupD;rw[if_pos hz];rfl
   dsimp only at W
   rw[e2] at W
   dsimp only at W
   match ts,W with
   |[],W=>simp only[asg,asgL] at W;exact False.elim W
   |[_],W=>simp only[asg,asgL] at W;exact False.elim W
   |[t,t'],W=>
    obtain⟨v,u,rfl,h,h'⟩:=M1.two
    simp only[asg,asgL] at W
    exact⟨v,u,rfl,W ρ1 _ H1 ((M1.setS i).setS j).m⟩
   |_::_::_::_,W=>simp only[asg,asgL] at W;exact False.elim W
  ·have e2:tupD ts s1= .no:=by unfold tupD;rw[if_neg hz];rfl
   dsimp only at W
   rw[e2] at W
   exact False.elim W
end
end Mi
namespace L2
open PySem PySem.Spec PyProof.Rows
section
variable{P:Program}{w:World}{H H':Hp}{h h':Heap}{a:Addr}{o:HO}
theorem z2i.here(x:z2i P w H h a o): ∃u,h.get? a=some u:=by
 cases o with
 |lst xs=>obtain⟨_,_,_,_,e⟩:=x;exact⟨_,e⟩
 |tup xs=>obtain⟨_,_,_,ob,e,_⟩:=x;exact⟨_,e⟩
 |dK kvs=>obtain⟨_,_,_,_,o,_,_,e,_⟩:=x;exact⟨_,e⟩
 |dT kvs=>obtain⟨_,_,_,_,o,_,_,e,_⟩:=x;exact⟨_,e⟩
 |set S n=>obtain⟨o,_,_,_,e,_⟩:=x;exact⟨_,e⟩
 |ins C dx fs=>obtain⟨_,_,_,e,_⟩:=x;exact⟨_,e⟩
 |own y=>obtain⟨_,e⟩:=x;exact⟨_,e⟩
 |xd fs=>obtain⟨_,⟨_,_,_,e,_⟩,_⟩:=x;exact⟨_,e⟩
 |rng lo hi=>obtain⟨_,_,_,e⟩:=x;exact⟨_,e⟩
 |frz o u=>exact⟨_,x.1⟩
 |tbl ps=>exact⟨_,x⟩
 |met f y=>exact⟨_,x⟩
 |ext φ=>obtain⟨_,⟨_,e⟩,_⟩:=x;exact⟨_,e⟩
theorem HOk.none_of(x:HOk P w H h)(e:h.get? a=none):H a=none:=by
 cases q:H a with
 |none=>rfl
 |some u=>obtain⟨v,z⟩:=(x a u q).here;rw[e] at z;cases z
end
structure Fly(P:Program)(w:World)(outer:List Env)(H:Hp)(s:Shared)(H':Hp)(C:Value)(e:Addr)(s':Shared):Prop where
 os:s'.os=s.os
 bare:AllBare s'.gens
 un:Un (frs outer) [] H H' s.heap s'.heap
 hok:HOk P w H' s'.heap
 he:H' e=none
 se:s.heap.get? e=none
 tr: ∃oe vs a0 T oT ts,s'.heap.get? e=some oe/\(oe.cls=C/\vs[0]? =some a0)/\oe.data= .fields vs/\vs[1]? =some (.ref T)/\T≠e/\s'.heap.get? T=some oT/\oT.data= .fields ts/\ts[3]? =some .none/\H' T=none/\s.heap.get? T=none
noncomputable def CX1(P:Program)(w:World):CXT:=fun outer H s E e s'=> ∃a C H',e= .ref a/\Fly P w outer H s H' C a s'/\E C none H'
section
variable{X:Cx}{pins:List (Addr×Obj)}{σ:St}{H:Hp}{s:Shared}{h':Heap}
theorem Inv.frmem(I:Inv X pins σ H s): ∀env∈X.stack,∀a,env.frame=some a->a∈frs X.stack:=fun env he a e=>List.mem_filterMap.mpr ⟨env,he,e⟩
theorem z8K{ex:List Addr}(I:Inv X pins σ H s)(hx: ∀x∈ex,H x=none)(st:(W.hideAll s.heap (frs X.stack++ex)).StaysIn h'): ∀b u o,H b=some u->s.heap.get? b=some o->h'.get? b=some o:=fun b u o e q=>
 st b o (W.hideAll_get _ q fun hm=>by
  rcases List.mem_append.mp hm with z|z
  ·rw[I.stkFree b z] at e;cases e
  ·rw[hx b z] at e;cases e)
theorem z83{ex:List Addr}(I:Inv X pins σ H s)(hx: ∀x∈ex,H x=none)(st:(W.hideAll s.heap (frs X.stack++ex)).StaysIn h'):HOk X.prog X.w H h':=fun a o e=>
 (I.hok a o e).stay (fun b u hb q=>by
  rcases hb with rfl|hb
  ·exact z8K I hx st _ _ _ e q
  ·exact z8K I hx st _ _ _ hb q) (fun _ q=>q) fun _ _ q=>q
theorem z84{ex:List Addr}(I:Inv X pins σ H s)(hex:X.ex=[])(hx: ∀x∈ex,H x=none)(hx0: ∀x∈ex,X.s₀.heap.get? x=none)(st:(W.hideAll s.heap (frs X.stack++ex)).StaysIn h')(up:s.heap.UpToSlots h'):Un (frs X.outer) [] X.H₀ H X.s₀.heap h':=by
 have nx: ∀b:Addr,b∉X.ex:=fun b z=>by rw[hex] at z;cases z
 have nst: ∀b o,X.s₀.heap.get? b=some o->b∉frs X.outer->b∉frs X.stack++ex:=fun b o q hb hm=>by
  rcases List.mem_append.mp hm with z|z
  ·rcases List.mem_cons.mp (I.stkSub b z) with z|z
   ·subst z;exact absurd (Heap.lt_size q) (Nat.not_lt.mpr I.ok.above)
   ·exact hb z
  ·rw[hx0 b z] at q;cases q
 have sl: ∀b o,X.s₀.heap.get? b=some o->b∈frs X.outer->∃sl,h'.get? b=some {o with slots:=sl}:=fun b o q hb=>by
  obtain⟨sl,z⟩:=I.base.slot b o q (I.ok.frf b hb) hb (nx b)
  obtain⟨_,o',ho',hd⟩:=I.ok.funs.mem hb
  rw[q] at ho';cases ho'
  obtain⟨sl2,z2⟩:=up b {o with slots:=sl} z hd
  exact⟨sl2,z2⟩
 refine⟨fun b o q n hb _=> ?_,fun b o q n hb _=>sl b o q hb,fun b o q n _=>I.base.free b o q n (nx b),fun b o q _=> ?_,I.base.tups,I.base.frzs,I.base.tbls⟩
 ·exact st b o (W.hideAll_get _ (I.base.keep b o q n hb (nx b)) (nst b o q hb))
 ·by_cases hb:b∈frs X.outer
  ·obtain⟨sl,z⟩:=sl b o q hb;exact⟨_,z⟩
  ·obtain⟨o',z⟩:=I.base.there b o q (nx b)
   exact⟨o',st b o' (W.hideAll_get _ z (nst b o q hb))⟩
theorem z5y(I:Inv X pins σ H s)(hex:X.ex=[]){b:Addr}(e:s.heap.get? b=none):X.s₀.heap.get? b=none:=by
 cases q:X.s₀.heap.get? b with
 |none=>rfl
 |some o=>obtain⟨o',z⟩:=I.base.there b o q (by rw[hex];simp);rw[e] at z;cases z
theorem z8L{ex:List Addr}{e:Addr}{cls a0:Value}(I:Inv X pins σ H s)(hex:X.ex=[])(hx: ∀x∈ex,H x=none)(hx0: ∀x∈ex,X.s₀.heap.get? x=none)(up:s.heap.UpToSlots h')(tr:h'.TracedW (W.hideAll s.heap (frs X.stack++ex)) e cls a0):
 ∃oe vs a0 T oT ts,h'.get? e=some oe/\(oe.cls=cls/\vs[0]? =some a0)/\oe.data= .fields vs/\vs[1]? =some (.ref T)/\T≠e/\h'.get? T=some oT/\oT.data= .fields ts/\ts[3]? =some .none/\H T=none/\X.s₀.heap.get? T=none:=by
 obtain⟨oe,vs,T,oT,ts,h1,h2,h3,h4,h5,h6,h7,h8,h9⟩:=tr
 have nm: ∀o,s.heap.get? T=some o->T∈ex:=fun o q=>by
  by_cases hm:T∈frs X.stack++ex
  ·rcases List.mem_append.mp hm with z|z
   ·obtain⟨_,o',ho',hd⟩:=I.stack.mem z
    obtain⟨sl,z'⟩:=up T o' ho' hd
    rw[h7] at z';cases z'
    exact absurd h8 (hd ts)
   ·exact z
  ·rw[W.hideAll_get _ q hm] at h5;cases h5
 have hT:H T=none:=by
  cases q:s.heap.get? T with
  |none=>exact I.hok.none_of q
  |some o=>exact hx T (nm o q)
 have hS:X.s₀.heap.get? T=none:=by
  cases q:s.heap.get? T with
  |none=>exact z5y I hex q
  |some o=>exact hx0 T (nm o q)
 exact⟨oe,vs,a0,T,oT,ts,h1,h2,h3,h4,h6,h7,h8,h9,hT,hS⟩
end
section
variable{P:Program}{w:World}{K:W.Frag}{mg:Str->Option Value}{base:Heap}{N:List Str}{qual:Str}{scope:Scope}{f:Addr}{cd:Value}{A:Around}{outer:List Env}{s:Shared}{H:Hp}{E:XK}
theorem z85:z3p (CX1 P w) (cxOf (CX1 P w) P w K mg base N qual scope f cd A outer s H E) E:=by
 intro pins σ H1 s1 e s2 I ⟨a,C,H2,e1,F,hE⟩
 subst e1
 have I2:Inv (cxOf (CX1 P w) P w K mg base N qual scope f cd A outer s H E) pins σ H2 s2:=I.call' (ch:=[]) F.os F.un F.hok F.bare (fun b z=>absurd z (by simp))
 obtain⟨oe,vs,a0,T,oT,ts,h1,h2,h3,h4,h5,h6,h7,h8,h9,h10⟩:=F.tr
 have hx: ∀x∈[a,T],H2 x=none:=fun x hx=>by
  rcases List.mem_cons.mp hx with rfl|hx
  ·exact F.he
  ·rcases List.mem_cons.mp hx with rfl|hx
   ·exact h9
   ·cases hx
 have hx0: ∀x∈[a,T],s.heap.get? x=none:=fun x hx=>by
  rcases List.mem_cons.mp hx with rfl|hx
  ·exact z5y I rfl F.se
  ·rcases List.mem_cons.mp hx with rfl|hx
   ·exact z5y I rfl h10
   ·cases hx
 refine wpAny_leaves_onW (base:=W.hideAll s2.heap (frs (cxOf (CX1 P w) P w K mg base N qual scope f cd A outer s H E).stack++[a,T])) (L:=s.heap.objs.size) (cls:=C) (a0:=a0) I2.ok.frames rfl ⟨fun b o q=>W.of_hideAll _ q,W.hideAll_none _ (by simp),W.funFrames_hide I2.stack fun env he b hb=>List.mem_append_left _ (I2.frmem env he b hb),oe,vs,T,oT,ts,h1,h2,h3,h4,W.hideAll_none _ (by simp),h5,h6,h7,h8⟩ fun h' fl up=> ?_
 obtain⟨k1,k2,k3,k4⟩:=fl
 exact⟨a,C,H2,rfl,⟨F.os.trans I.os,F.bare,z84 I2 rfl hx hx0 k1 up,z83 I2 hx k1,F.he,hx0 a (by simp),z8L I2 rfl hx hx0 up k4⟩,hE⟩
theorem zfS{pins:List (Addr×Obj)}{σ:St}{H1:Hp}{s1:Shared}{h':Heap}{e:Addr}{C:Value}{args:List Value}(I:Inv (cxOf (CX1 P w) P w K mg base N qual scope f cd A outer s H E) pins σ H1 s1)(hx:Heap.MadeExcOf s1.heap h' e C args)(hE:E C none H1):
 (cxOf (CX1 P w) P w K mg base N qual scope f cd A outer s H E).xe (.ref e) {s1 with heap:=h'}:=by
 have nn: ∀x∈([]:List Addr),H1 x=none:=fun x z=>absurd z (by simp)
 have nn0: ∀x∈([]:List Addr),s.heap.get? x=none:=fun x z=>absurd z (by simp)
 refine wpAny_leaves_madeW (base:=W.hideAll s1.heap (frs (cxOf (CX1 P w) P w K mg base N qual scope f cd A outer s H E).stack++[])) (h:=s1.heap) (L:=s.heap.objs.size) I.ok.frames rfl (fun b o q=>W.of_hideAll _ q) (W.funFrames_hide I.stack fun env he b hb=>List.mem_append_left _ (I.frmem env he b hb)) hx fun h2 t fl tp bt up=> ?_
 obtain⟨k1,k2,k3,k4⟩:=fl
 have up2:s1.heap.UpToSlots h2:=(Heap.UpToSlots.of_keeps hx.keeps).trans up
 exact⟨e,C,H1,rfl,⟨I.os,I.bare,z84 I rfl nn nn0 k1 up2,z83 I nn k1,I.hok.none_of hx.new,z5y I rfl hx.new,z8L I rfl nn nn0 up2 k4⟩,hE⟩
end
section
variable{X:Cx}{pins:List (Addr×Obj)}{σ:St}{H:Hp}{s:Shared}{h':Heap}
theorem zat{ex:List Addr}{t':Nat}(I:Inv X pins σ H s)(hex:X.ex=[])(hx: ∀x∈ex,H x=none)(hx0: ∀x∈ex,X.s₀.heap.get? x=none)(hxp: ∀p∈X.pn++pins,p.1∉ex)(st:(W.hideAll s.heap (frs X.stack++ex)).StaysIn h')(up:s.heap.UpToSlots h'):Inv X pins σ H {s with heap:=h',toks:=t'}:=by
 have cellK: ∀c v,s.heap.IsCell c v->h'.IsCell c v:=fun c v ⟨o,ho,hd⟩=>by
  obtain⟨sl,q⟩:=up c o ho (fun vs z=>by rw[hd] at z;cases z)
  exact⟨_,q,hd⟩
 have un:=z84 I hex hx hx0 st up
 refine⟨I.ok,I.os,I.bare,by rw[hex];exact un, ?_,fun y c e=> ?_,I.free,I.freeC,fun p hp=> ?_,z83 I hx st,I.len⟩
 ·obtain⟨m,hn,hl⟩:=I.loc
  refine⟨m,up.ns hn,fun i x v e1 e2 e3=> ?_⟩
  obtain⟨u,r,l⟩:=hl i x v e1 e2 e3
  refine⟨u,r, ?_⟩
  rcases l with l|⟨k,c,e,z⟩
  ·exact .inl l
  ·exact .inr ⟨k,c,e,cellK c _ z⟩
 ·obtain⟨v,z⟩:=I.cell y c e
  exact⟨v,cellK c v z⟩
 ·obtain⟨e,n,ne,nf,d⟩:=I.pin p hp
  refine⟨st p.1 p.2 (W.hideAll_get _ e fun hm=> ?_),n,ne,nf,d⟩
  rcases List.mem_append.mp hm with z|z
  ·rcases List.mem_cons.mp (I.stkSub p.1 z) with z|z
   ·exact ne z
   ·exact nf z
  ·exact hxp p hp z
theorem Inv.track{a:Addr}{o:HO}(I:Inv X pins σ H s)(hn:H a=none)(h0:X.s₀.heap.get? a=none)(hL:a≠X.env.locals)(hC: ∀x c,X.env.cells.lookup x=some c->c≠a)(hp: ∀p∈X.pn++pins,p.1≠a)(ok:z2i X.prog X.w (upd H a o) s.heap a o):Inv X pins σ (upd H a o) s:=by
 have ne: ∀b u,H b=some u->upd H a o b=some u:=fun b u e=>by
  by_cases hb:b=a
  ·subst hb;rw[hn] at e;cases e
  ·rw[z0c hb];exact e
 refine⟨I.ok,I.os,I.bare,⟨I.base.keep,I.base.slot,fun b ob q n hx=> ?_,I.base.there,fun b xs e=>ne _ _ (I.base.tups b xs e),fun b u xs e=>ne _ _ (I.base.frzs b u xs e),fun b ps e=> ?_⟩,I.loc,I.cell, ?_,fun x c e=> ?_,fun p q=> ?_,fun b u e=> ?_,I.len⟩
 ·rw[z0c (fun z=>by rw[z,h0] at q;cases q)];exact I.base.free b ob q n hx
 ·obtain⟨m,z⟩:=I.base.tbls b ps e
  exact⟨m,ne _ _ z⟩
 ·rw[z0c (Ne.symm hL)];exact I.free
 ·rw[z0c (hC x c e)];exact I.freeC x c e
 ·obtain⟨e,n,r⟩:=I.pin p q
  exact⟨e,by rw[z0c (hp p q)];exact n,r⟩
 ·by_cases hb:b=a
  ·subst hb;rw[z0h] at e;cases e;exact ok
  ·rw[z0c hb] at e
   exact(I.hok b u e).stay (fun _ _ _ q=>q) (fun c q=>ne _ _ q) fun c xs q=>ne _ _ q
noncomputable def zdK(N:List Str):St:=List.replicate N.length none
theorem Inv.forget{m':Str->Option Value}{t':Nat}(I:Inv X pins σ H s)(hn:h'.Ns X.env.locals m')(hs:Heap.SameBut X.env.locals s.heap h'):Inv X pins (zdK X.N) H {s with heap:=h',toks:=t'}:=by
 have neL: ∀b o,X.s₀.heap.get? b=some o->b≠X.env.locals:=fun b o e=>Nat.ne_of_lt (Nat.lt_of_lt_of_le (Heap.lt_size e) I.ok.above)
 refine⟨I.ok,I.os,I.bare,⟨fun b o e n hb hx=> ?_,fun b o e n hb hx=> ?_,I.base.free,fun b o e hx=> ?_,I.base.tups,I.base.frzs,I.base.tbls⟩,⟨m',hn,fun i x v _ e=> ?_⟩,fun y c e=> ?_,I.free,I.freeC,fun p hp=> ?_,fun b ob e=> ?_,by simp[zdK]⟩
 ·exact(hs.2 b (neL b o e)).trans (I.base.keep b o e n hb hx)
 ·obtain⟨sl,e1⟩:=I.base.slot b o e n hb hx
  exact⟨sl,(hs.2 b (neL b o e)).trans e1⟩
 ·obtain⟨o',e1⟩:=I.base.there b o e hx
  exact⟨o',(hs.2 b (neL b o e)).trans e1⟩
 ·unfold zdK at e
  rw[List.getElem?_replicate] at e
  split at e<;>cases e
 ·obtain⟨w',z⟩:=I.cell y c e
  exact⟨w',z.sameBut hs (I.cne y c e)⟩
 ·obtain⟨e,n,ne,nf,d⟩:=I.pin p hp
  exact⟨(hs.2 p.1 ne).trans e,n,ne,nf,d⟩
 ·refine(I.hok b ob e).stay (fun c w' hc q=>(hs.2 c ?_).trans q) (fun _ q=>q) fun _ _ q=>q
  rintro rfl
  rcases hc with rfl|hc
  ·rw[I.free] at e;cases e
  ·rw[I.free] at hc;cases hc
end
noncomputable def bmV:List Value:=[.type "ValueError", .type "Exception", .type "BaseException", .type "object"]
theorem zfT{K:W.Frag}{h:Heap}{C:Addr}{bmB:List Value}{newId:String}(X:K.In h)(q:W.excIn K C bmB newId=true):
 ∃bm N nm qn bs hd sn sub ab col dd k0 k1 k2 k3 k5 mN,h.get? C=some (excClassObj nm qn C N bs bm hd sn sub ab col dd k0 k1 k2 k3 k5 newId)/\h.Ns N mN/\mN "__init__" =none/\OwnTail h bmB bm:=by
 unfold W.excIn at q
 split at q
 ·rename_i dd cd sl ho
  split at q
  ·rename_i C' bm k0 k1 k2 k3 n k5 hm hs
   simp only[Bool.and_eq_true,beq_iff_eq,Bool.not_eq_true'] at q
   obtain⟨⟨⟨⟨⟨rfl,rfl⟩,hdel⟩,ht⟩,hok⟩,hni⟩:=q
   obtain⟨nm,bs,mro,ns,qn,hd,sn,sub,ab,col,del⟩:=cd
   dsimp only at hm hdel hok hni
   subst hm hdel
   have hsl:sl= #[k0,k1,k2,k3,some (.builtin n),k5]:=by
    obtain⟨l⟩:=sl
    simp only at hs
    rw[hs]
   subst hsl
   exact⟨bm,ns,nm,qn,bs,hd,sn,sub,ab,col,dd,k0,k1,k2,k3,k5,_,X _ _ ho, .of_isNs (W.isNs_of_in X hok),W.nsMap_none_of_in X hok hni,W.tail_of_in X ht⟩
  ·cases q
 ·cases q
noncomputable def z5z(X:Cx)(E:St->XK):Prop:= ∀(pins:List (Addr×Obj)) (σ:St) (H:Hp) (s:Shared) (h':Heap) (e:Addr) (C:Value) (args:List Value),Inv X pins σ H s->Heap.MadeExcOf s.heap h' e C args->E σ C none H->X.xe (.ref e) {s with heap:=h'}
noncomputable def zfU(X:Cx)(E:St->XK):Prop:= ∀(pins:List (Addr×Obj)) (σ:St) (H:Hp) (s:Shared) (e:Value) (s':Shared),Inv X pins σ H s->CX1 X.prog X.w X.stack H s (E σ) e s'->X.xe e s'
section
variable{X:Cx}{C:Addr}{x y:Str}{np cpos pos p:Pos}{j:Nat}{E:St->XK}
noncomputable def zfV(C:Addr)(E:St->XK):TS:=fun _ σ H=>E σ (.ref C) none H
theorem zbS(hh:X.A.handled=none)(hx:z5z X E)(hg:Gl X x)(hm:X.mg x=some (.ref C))(hq:W.excIn X.K C bmV "ValueError.__new__" =true)(hd:(x==("__debug__" :Str))=false:=by decide):
 PS X (.Raise (some (.Call (.Name x np) [.Constant (.str y) j p] [] cpos)) none pos) (zfV C E):=by
 intro pins s σ H D I h
 obtain⟨bm,N,nm,qn,bs,hdc,sn,sub,ab,col,dd,k0,k1,k2,k3,k5,mN,hC,hN,hni,T⟩:=zfT I.ok.mod.kin hq
 refine wpAny_Raise_call_subU (C:=C) (nm:=nm) (q:=qn) (N:=N) (bs:=bs) (bm:=bm) (hdct:=hdc) (sn:=sn) (sub:=sub) (ab:=ab) (col:=col) (dd:=dd) (k0:=k0) (k1:=k1) (k2:=k2) (k3:=k3) (k5:=k5)
  F.excBase_ValueError (by decide+kernel) F.excBase_ValueError (mN:=mN) (T.hasType (by decide+kernel)) hh rfl hni (z4B I hg hm ⟨rfl, ?_⟩ hd)
 have he:starEach [Expr.Constant (.str y) j p] X.env=(false,eval (.Constant (.str y) j p) X.env)::starEach [] X.env:=by rfl
 rw[he]
 refine Calls.evalArgs_plain ?_
 have ha:PA X [Expr.Constant (.str y) j p] _:=z0q z06 z5l he
 have hp:=ha cpos pins s σ H (fun vs H1=>vs.length<=sizeLine/\H1=H) I ⟨by show 1<=sizeLine;decide,rfl⟩
 rw[he] at hp
 refine wpAny_mono hp (fun us s2 ⟨vs,H1,I1,r,hl,e1⟩=> ?_) fun _ _ z=>z
 subst e1
 exact⟨rfl,by rw[<-r.length];exact hl,I1.bk _ _ hC,hN.keeps I1.bk,T.keeps I1.bk,fun h' e hm=>hx pins σ H1 s2 h' e (.ref C) us I1 hm h⟩
end
section
variable{X:Cx}{k:Nat}{f:Addr}{fd:FuncData}{ps:List Str}{sp:Sp}{E:St->XK}{x:Str}{p pos:Pos}{e:Expr}{es:List Expr}{t:TA}
noncomputable def zfW(sp:Sp)(E:St->XK)(t:TA):TE:=fun σ H Q=>t σ H fun vs H1=>sp vs H1 Q (E σ)
theorem zbT(F:FnOk X.prog X.w X.K X.mg X.base (CX1 X.prog X.w) k f fd ps sp)(hr:Room k X.A)(hg:Gl X x)(hm:X.mg x=some (.ref f))(hk:W.keepIn X.K (.ref f)=true)(hb:z3R X.K fd ps [])(hx:zfU X E)
 (ha:PA X (e::es) t) (hdb:(x==("__debug__" :Str))=false:=by decide) (he:starEach (e::es) X.env=(false,eval e X.env)::starEach es X.env:=by rfl) (hpl:(backTo pos (starEach es X.env)).any (·.1)=false:=by rfl):
 PE X (.Call (.Name x p) (e::es) [] pos) (zfW sp E t):=by
 intro pins s σ H Q I h
 refine wpAny_Call_Name_kw (z4B I hg hm ?_ hdb)
 refine W.callWith_K (h₀:=X.base) I.ok.mod.kin hk (thn (ha pos pins s σ H _ I h) fun us s1 ⟨vs,H1,I1,r,q⟩=>⟨I1.kIn, ?_⟩) he hpl
 have hl:us.length=ps.length:=by rw[<-r.length];exact F.len _ _ _ _ q
 have hb2:=hb s1 us I1.kIn (by rw[List.append_nil];exact hl)
 rw[List.append_nil] at hb2
 refine wpAny_call (codeAny_mono (F.run X.A X.stack s1 H1 ⟨us,[]⟩ us vs Q (E σ) hr I1.env0 hb2 r q) fun r s' hq=> ?_)
 cases r with
 |error e=>exact hx pins σ H1 s1 e s' I1 hq
 |ok fl=>
  cases fl with
  |ret u=>exact I1.after hq
  |next=>exact False.elim hq
  |brk=>exact False.elim hq
  |cont=>exact False.elim hq
end
noncomputable abbrev Xt(X:Cx)(pl:List (Addr×Obj))(E:Value->Shared->Prop):Cx:={X with pn:=pl,xe:=E}
theorem Cx.Ok.xt{X:Cx}(ok:X.Ok)(pl:List (Addr×Obj))(E:Value->Shared->Prop):(Xt X pl E).Ok:=
 ⟨ok.mod,ok.kind,ok.glob,ok.blt,ok.above,ok.inj,ok.has,ok.cab,ok.hd,ok.frames,ok.stk,ok.exf,ok.bs,ok.bsz,ok.noex,ok.exfs,ok.funs,ok.frf⟩
theorem Cx.Ok.unxt{X:Cx}{pl:List (Addr×Obj)}{E:Value->Shared->Prop}(ok:(Xt X pl E).Ok):X.Ok:=
 ⟨ok.mod,ok.kind,ok.glob,ok.blt,ok.above,ok.inj,ok.has,ok.cab,ok.hd,ok.frames,ok.stk,ok.exf,ok.bs,ok.bsz,ok.noex,ok.exfs,ok.funs,ok.frf⟩
theorem Inv.xt{X:Cx}{pins:List (Addr×Obj)}{σ:St}{H:Hp}{s:Shared}{E:Value->Shared->Prop}(I:Inv X pins σ H s):Inv (Xt X (X.pn++pins) E) [] σ H s:=⟨I.ok.xt _ _,I.os,I.bare,I.base,I.loc,I.cell,I.free,I.freeC,fun p hp=>I.pin p (by rw[List.append_nil] at hp;exact hp),I.hok,I.len⟩
theorem Inv.unxt{X:Cx}{pins pins':List (Addr×Obj)}{σ:St}{H:Hp}{s:Shared}{E:Value->Shared->Prop}(I:Inv (Xt X (X.pn++pins) E) pins' σ H s):Inv X pins σ H s:=⟨I.ok.unxt,I.os,I.bare,I.base,I.loc,I.cell,I.free,I.freeC,fun p hp=>I.pin p (List.mem_append_left _ hp),I.hok,I.len⟩
noncomputable abbrev Xm(X:Cx)(a:Addr):Cx:={X with A:=X.A.mark (some (.ref a)),calm:=false,xe:=fun _ _=>False}
theorem Cx.Ok.xm{X:Cx}(ok:X.Ok)(a:Addr):(Xm X a).Ok:=
 ⟨ok.mod,ok.kind,ok.glob,ok.blt,ok.above,ok.inj,ok.has,ok.cab,fun z=>Bool.noConfusion z,ok.frames,ok.stk,ok.exf,ok.bs,ok.bsz,ok.noex,ok.exfs,ok.funs,ok.frf⟩
section
variable{X:Cx}{pins:List (Addr×Obj)}{σ:St}{H:Hp}{s s':Shared}
theorem Inv.xm(I:Inv X pins σ H s)(a:Addr):Inv (Xm X a) pins σ H s:=⟨I.ok.xm a,I.os,I.bare,I.base,I.loc,I.cell,I.free,I.freeC,I.pin,I.hok,I.len⟩
theorem Inv.unxm{a:Addr}(ok:X.Ok)(I:Inv (Xm X a) pins σ H s):Inv X pins σ H s:=⟨ok,I.os,I.bare,I.base,I.loc,I.cell,I.free,I.freeC,I.pin,I.hok,I.len⟩
noncomputable def z7w(o:Obj):HO:= .frz o (.ext fun _=>True)
noncomputable def zfX(K:W.Frag)(CB:Addr)(ie:Nat)(th:TS)(D:Ends):St->XK:=fun σ C _ H=>W.exmOne K C (.ref CB)=some true/\∀a o,H a=none->K.lookup a=none->o.cls=C->(∃vs,o.data= .fields vs)->th {nx:=fun _ _=>False,rt:=D.rt} (σ.set ie (some (.ref a))) (upd H a (z7w o))
noncomputable def zbU(X:Cx)(hs:List ExceptHandler)(Q:Flow->Shared->Prop):Value->Shared->Prop:=fun e s₁=>
 wpAny (model X.prog X.w) X.A (noteFrame e X.env) (fun _ s₂=>wpAny (model X.prog X.w) X.A (setFlight e none) (fun _ s₃=>wpAny (model X.prog X.w) X.A (handleBy e X.env hs) Q X.xe s₃) X.xe s₂) X.xe s₁
theorem zbV{CB:Addr}{x n:Str}{ie:Nat}{np hpos:Pos}{b₀:Stmt}{suite:List Stmt}{th:TS}{D:Ends}(hst:X.stack=X.env::X.outer)(hfr:X.env.frame=some X.env.locals)(hex:X.ex=[])(hg:Gl X x)(hm:X.mg x=some (.ref CB))(hN:X.N.Nodup)(hi:X.N[ie]? =some n)(hloc:X.env.scope.names.lookup n=some .local)
 (hb: ∀a,PSs (Xm X a) (b₀::suite) th) (hd:(x==("__debug__" :Str))=false:=by decide) {e:Value} (I:Inv X pins σ H s) (hc:CX1 X.prog X.w X.stack H s (zfX X.K CB ie th D σ) e s'):
 zbU X [.ExceptHandler (some (.Name x np)) (some n) (b₀::suite) hpos] (SP X pins D) e s':=by
 obtain⟨a,C,H2,e1,F,hE⟩:=hc
 subst e1
 have I2:Inv X pins σ H2 s':=I.call' (ch:=[]) F.os F.un F.hok F.bare (fun b z=>absurd z (by simp))
 obtain⟨oe,vs,a0,T,oT,ts,h1,h2,h3,h4,h5,h6,h7,h8,h9,h10⟩:=F.tr
 have hx: ∀x∈[a,T],H2 x=none:=fun x hx=>by
  rcases List.mem_cons.mp hx with rfl|hx
  ·exact F.he
  ·rcases List.mem_cons.mp hx with rfl|hx
   ·exact h9
   ·cases hx
 have hs0: ∀x∈[a,T],s.heap.get? x=none:=fun x hx=>by
  rcases List.mem_cons.mp hx with rfl|hx
  ·exact F.se
  ·rcases List.mem_cons.mp hx with rfl|hx
   ·exact h10
   ·cases hx
 have hx0: ∀x∈[a,T],X.s₀.heap.get? x=none:=fun x hx=>z5y I hex (hs0 x hx)
 have hxp: ∀p∈X.pn++pins,p.1∉[a,T]:=fun p hp z=>by
  have:=(I.pin p hp).1
  rw[hs0 _ z] at this;cases this
 have aL:a≠X.env.locals:=fun z=>by
  obtain⟨m,⟨o,_,_,ho,_⟩,_⟩:=I.loc
  have:=F.se
  rw[z,ho] at this;cases this
 have aC: ∀x c,X.env.cells.lookup x=some c->c≠a:=fun x c e z=>by
  obtain⟨v,o,ho,_⟩:=I.cell x c e
  have:=F.se
  rw[<-z,ho] at this;cases this
 have fl0:Heap.FlyingW (W.hideAll s'.heap (frs X.stack++[a,T])) (X.env::X.outer) a C a0 s'.heap:=⟨fun b o q=>W.of_hideAll _ q,W.hideAll_none _ (by simp),by rw[<-hst];exact W.funFrames_hide I2.stack fun env he b hb=>List.mem_append_left _ (I2.frmem env he b hb),oe,vs,T,oT,ts,h1,h2,h3,h4,W.hideAll_none _ (by simp),h5,h6,h7,h8⟩
 unfold zbU
 refine wpAny_looks_onW (by rw[<-hst];exact I2.ok.frames) hfr fl0 fun h4' held up4=> ?_
 refine wpAny_landsW held fun h5' fl5 up5=> ?_
 have up:=up4.trans up5
 have I5:Inv X pins σ H2 {s' with heap:=h5'}:=zat (t':=s'.toks) I2 hex hx hx0 hxp fl5.1 up
 obtain⟨ob,hob,hobc⟩:=fl5.there
 refine wpAny_handleBy_cons (codeAny_handlers_test (z4B (X:=Xm X a) (I5.xm a) hg hm ?_ hd)) (by intro q;cases q)
 have LT:W.Looks (model X.prog X.w) h5' (typeOf (.ref a)) C:=hobc▸(W.Looks.ld hob).andThen .now
 refine(W.exm_one I5.kIn LT hE.1).here ?_
 refine codeAny_handlers_suite_as ?_
 refine lands_againW fl5 fun h6' fl6 up6=> ?_
 have I6:Inv X pins σ H2 {s' with heap:=h6'}:=zat (t':=s'.toks) I2 hex hx hx0 hxp fl6.1 (up.trans up6)
 obtain⟨oe6,vs6,hoe6,hoec6,hoed6,_⟩:=fl6.first
 have I7:Inv X pins σ (upd H2 a (z7w oe6)) {s' with heap:=h6'}:=I6.track F.he (hx0 a (by simp)) aL aC (fun p hp z=>hxp p hp (by rw[z];simp)) ⟨hoe6,trivial,⟨_,hoe6⟩,fun _ _ _ _=>trivial⟩
 refine z3N (X:=Xm X a) (I7.xm a) hN hi (.inl hloc) (v:= .ref a) rfl (fun s8 I8=> ?_) (.inr hloc)
 refine wpAny_mono (hb a pins s8 _ _ _ I8 (hE.2 a oe6 F.he (by cases q:X.K.lookup a with|none=>rfl|some u=>have z:=I.kIn _ _ q;rw[F.se] at z;cases z) hoec6 ⟨_,hoed6⟩)) (fun fl s9 hq=> ?_) fun _ _ z=>z.elim
 have hkn:X.env.kindOf n=some .local:=hloc
 cases fl with
 |ret u=>
  obtain⟨v,σ',H',I9,r,q⟩:=hq
  have J:=I9.unxm I.ok
  obtain⟨m,hn,_⟩:=id J.loc
  refine wpAny_nameGoes hkn hn (by rw[I.ok.kind];rfl) fun h10 m' hn' hs=> ?_
  exact⟨v,_,H',J.forget (t':=s9.toks+1) hn' hs,r,q⟩
 |next=>obtain⟨_,_,_,q⟩:=hq;exact q.elim
 |brk=>obtain⟨_,_,_,q⟩:=hq;exact q.elim
 |cont=>obtain⟨_,_,_,q⟩:=hq;exact q.elim
end
end L2
namespace L2
open PySem PySem.Spec PySem.Calls PyProof.Rows Builtin Builtin.ObjectAttr Builtin.Getset_descriptor
section
variable{prog:Program}{w:World}{A:Around}{E:Value->Shared->Prop}{h:Heap}{g:Array GenState}{d:Drawn}{t:Nat}{os:OsState}{a C:Addr}{K:W.Frag}
theorem zfY{R:Result->Shared->Prop}{tp:Value}(X:K.In h)(L0:W.Looks (model prog w) h (typeOf (.ref a)) (.ref C))(hm:W.mroIn K C (.type "object")=some true)(hq:R (.ok (.ret (.ref C))) ⟨h,g,d,t,os⟩):
 codeAny (model prog w) A (.call (.builtin "getset_descriptor.__get__") ⟨[.builtin "object.__class__", .ref a,tp],[]⟩) R ⟨h,g,d,t,os⟩:=by
 have L1:=W.looks_mroIn (M:=model prog w) X hm
 refine codeAny_call_builtin W.KF.slot_gs.plain W.KF.entry_gs (W.KF.slot_gs.check _ _ _ _ _ _ _ _ W.KF.type_class (W.KF.args_gs _ _ _) ?_)
 unfold Builtin.«getset_descriptor.__get__» descrGet
 rw[W.dga_obj]
 refine wpAny_bind (wpAny_pure ?_)
 unfold descrGetter descrCheckInstance descrNameAndClass isInstance
 simp only[W.KF.owner_class]
 repeat lk
 refine⟨Code.quiet_builtin _ (by decide+kernel),codeAny_builtin W.KF.entry_class ?_⟩
 unfold Builtin.«object.__class__» shownTypeOf
 repeat lk
 exact hq
theorem zbW{tk:Tok}{Q:Fin->Shared->Prop}(X:K.In h)(L0:W.Looks (model prog w) h (typeOf (.ref a)) (.ref C))(hm:W.mroIn K C (.type "object")=some true)(f3:W.findIn K (.ref C) "__class__" =some (some (.builtin "object.__class__")))(hq:Q (.done (.ret (.ref C))) ⟨h,g,d,t,os⟩):
 wpAny (model prog w) A (Builtin.«object.__getattribute__» ⟨[.ref a, .str "__class__" tk],[]⟩) Q E ⟨h,g,d,t,os⟩:=by
 have L3:=W.looks_findIn (M:=model prog w) X f3
 have hT5:(⟨h,g,d,t,os⟩:Shared).TypeIs (.builtin "object.__class__") "getset_descriptor" :=F.typeOf_object_class
 have f5:=F.typeOf_object_class
 have f6:=F.slot_gs_get.lookup
 have f7:=F.slot_gs_set.lookup
 repeat (any_goals (first|assumption|with_reducible refine L0.at ?_|with_reducible refine L3.at ?_|wp_step))
 refine zfY X L0 hm ?_
 repeat (any_goals (first|assumption|wp_step))
theorem zbX{M:Model}{nameV:Value}{Q:Unit->Shared->Prop}(X:K.In h)(L0:W.Looks M h (typeOf (.ref a)) (.ref C))(hm:W.mroIn K C (.type "BaseException")=some true)(hq:Q () ⟨h,g,d,t,os⟩):
 wpAny M A (checkBuiltinCall "BaseException.__getattribute__" ⟨[.ref a,nameV],[]⟩) Q E ⟨h,g,d,t,os⟩:=by
 have hk:builtinKind "BaseException.__getattribute__" =some .slot:=by decide+kernel
 have hsplit:splitId "BaseException.__getattribute__" =some ("BaseException", "__getattribute__"):=by decide+kernel
 have ha:=F.args_bexc_ga (.ref a) nameV
 have L1:=W.looks_mroIn (M:=M) X hm
 simp only[checkBuiltinCall,hk,hsplit]
 refine wpAny_bind ?_
 ·unfold isInstance
  repeat (first|with_reducible refine L0.at ?_|with_reducible refine L1.at ?_|wp_step)
  exact hq
theorem zdL{tk:Tok}{R:Result->Shared->Prop}(X:K.In h)(L0:W.Looks (model prog w) h (typeOf (.ref a)) (.ref C))(hm:W.mroIn K C (.type "object")=some true)(hb:W.mroIn K C (.type "BaseException")=some true)(f3:W.findIn K (.ref C) "__class__" =some (some (.builtin "object.__class__")))(hq:R (.ok (.ret (.ref C))) ⟨h,g,d,t,os⟩):
 codeAny (model prog w) A (.call (.builtin "BaseException.__getattribute__") ⟨[.ref a, .str "__class__" tk],[]⟩) R ⟨h,g,d,t,os⟩:=
 codeAny_call_builtin F.excAttr_ValueError.ga.plain F.entry_bexc_ga (zbX X L0 hb (zbW X L0 hm f3 hq))
theorem zhM{tk:Tok}{fill expr:Bool}{Q:Value->Shared->Prop}(X:K.In h)(L0:W.Looks (model prog w) h (typeOf (.ref a)) (.ref C))(hm:W.mroIn K C (.type "object")=some true)(hb:W.mroIn K C (.type "BaseException")=some true)(f1:W.findIn K (.ref C) "__getattribute__" =some (some (.builtin "BaseException.__getattribute__")))(f2:W.findIn K (.ref C) "__getattr__" =some none)(f3:W.findIn K (.ref C) "__class__" =some (some (.builtin "object.__class__")))(hq:Q (.ref C) ⟨h,g,d,t,os⟩):
 wpAny (model prog w) A (getAttrBy (.ref a) (.str "__class__" tk) fill expr) Q E ⟨h,g,d,t,os⟩:=by
 have L1:=W.looks_findIn (M:=model prog w) X f1
 have L2:=W.looks_findIn (M:=model prog w) X f2
 have f3':=F.excAttr_ValueError.ga.bind (.ref a)
 have hx0:(expr&&onTheHeap (Value.builtin "BaseException.__getattribute__"))=false:=by cases expr<;>rfl
 have hx2:(Value.builtin "BaseException.__getattribute__" ==Value.builtin "object.__getattribute__")=false:=by decide+kernel
 have hx1:(onTheHeap (Value.ref C)&&Value.builtin "BaseException.__getattribute__" ==Value.builtin "object.__getattribute__")=false:=by rw[hx2];rfl
 repeat (any_goals (first|assumption|with_reducible refine L0.at ?_|with_reducible refine L1.at ?_|with_reducible refine L2.at ?_|wp_step))
 refine zdL X L0 hm hb f3 ?_
 repeat (any_goals (first|assumption|wp_step))
theorem zdM{Q:Option Value->Shared->Prop}(X:K.In h)(L0:W.Looks (model prog w) h (typeOf (.ref a)) (.ref C))(hm:W.mroIn K C (.type "object")=some true)(hb:W.mroIn K C (.type "BaseException")=some true)(f1:W.findIn K (.ref C) "__getattribute__" =some (some (.builtin "BaseException.__getattribute__")))(f2:W.findIn K (.ref C) "__getattr__" =some none)(f3:W.findIn K (.ref C) "__class__" =some (some (.builtin "object.__class__")))(hq:Q (some (.ref C)) ⟨h,g,d,t+1,os⟩):
 wpAny (model prog w) A (getAttr? (.ref a) "__class__") Q E ⟨h,g,d,t,os⟩:=by
 unfold getAttr? getAttrBy?
 repeat (any_goals (first|assumption|with_reducible apply zhM X L0 hm hb f1 f2 f3|wp_step))
end
structure XCls(K:W.Frag)(C:Addr):Prop where
 ob:W.mroIn K C (.type "object")=some true
 ba:W.mroIn K C (.type "BaseException")=some true
 f1:W.findIn K (.ref C) "__getattribute__" =some (some (.builtin "BaseException.__getattribute__"))
 f2:W.findIn K (.ref C) "__getattr__" =some none
 f3:W.findIn K (.ref C) "__class__" =some (some (.builtin "object.__class__"))
theorem z8M{K:W.Frag}{a C:Addr}(Z:XCls K C):W.KitX K (.ref a) (.ref C) (fun h=> ∃o,h.get? a=some o/\o.cls= .ref C) where
 ty:=fun M h _ ⟨o,e,c⟩=>c▸(W.Looks.ld e).andThen .now
 it:=fun M h X _=>by
  obtain⟨cd,hc,_⟩:=Option.bind_eq_some_iff.mp Z.ob
  unfold W.clsIn at hc
  split at hc
  ·rename_i c' d' cd' sl' ho
   intro A' Q' E' s' k q
   unfold isType loadHead
   exact wpAny_bind (wpAny_loadPart (k _ _ (X _ _ ho)) (wpAny_pure q))
  ·cases hc
 ne:=fun h tp dd its n sl X htp=>by
  obtain⟨cd,hc,_⟩:=Option.bind_eq_some_iff.mp Z.ob
  refine Bool.eq_false_iff.mpr fun q=> ?_
  have e:C=tp:=Value.ref.inj (beq_iff_eq.mp q)
  subst e
  unfold W.clsIn at hc
  split at hc
  ·rename_i c' d' cd' sl' ho
   have z:=(X _ _ ho).symm.trans htp
   cases z
  ·cases hc
 ca:=fun{prog w A E Q s} X ⟨o,e,c⟩ k=>by
  obtain⟨hh,g,d,t,os⟩:=s
  exact zdM X (c▸(W.Looks.ld e).andThen .now) Z.ob Z.ba Z.f1 Z.f2 Z.f3 k
end L2
namespace L2
open PySem PySem.Spec PySem.Calls PyProof.Rows
noncomputable def cvV:V->Value
 | .ref a=> .ref a| .ty n=> .type n|_=> .none
noncomputable def clsV:V->Bool
 | .ref _=>true| .ty _=>true|_=>false
theorem z6K: ∀{cs:List V} {us:List Value},(∀c∈cs,clsV c=true)->Vals cs us->us=cs.map cvV
 |[],_,_, .nil=>rfl
 |c::cs,_,h, .cons r rs=>by
  rw[List.map_cons,<-z6K (fun x hx=>h x (List.mem_cons_of_mem _ hx)) rs]
  have hc:=h c (List.mem_cons_self ..)
  cases c<;>first|(cases hc;done)|(have r:_=_:=r;rw[r];rfl)
noncomputable def clO(p:Addr)(us:List Value):HO:= .ext fun h=>h.get? p=some {cls:= .type "tuple",data:= .seq us.toArray}
section
variable{X:Cx}{pos:Pos}
noncomputable def tCls(us:List Value):TE:=fun _ H Q=> ∀p,H p=none->Q (.ref p) (upd H p (clO p us))
theorem z8N{es:List Expr}{k}{cs:List V}{t:TA}(h:PA X es t)(ht: ∀σ H Q,Q cs H->t σ H Q)(hca:cs.all clsV=true)(hl:Nat.ble cs.length 40=true):PE X (.Tuple es k pos) (tCls (cs.map cvV)):=by
 have hc: ∀c∈cs,clsV c=true:=List.all_eq_true.mp hca
 have hl:cs.length<=40:=Nat.le_of_ble_eq_true hl
 intro pins s σ H Q I hq
 refine wpAny_Tuple_spliced (thn (h pos pins s σ H (fun vs H1=>vs=cs/\H1=H) I (ht _ _ _ ⟨rfl,rfl⟩)) fun us s1 ⟨xs,H1,I1,r,e1,e2⟩=>⟨?_, ?_⟩)
 ·rw[<-r.length,e1,sizeLine_eq];lia
 ·subst e1 e2
  have hu:=z6K hc r
  subst hu
  have hf:H1 s1.heap.objs.size=none:=I1.hok.fresh (Nat.le_refl _)
  refine⟨.ref s1.heap.objs.size,upd H1 s1.heap.objs.size (clO s1.heap.objs.size (xs.map cvV)),I1.laid (t':=s1.toks) (fun b u e=>Heap.get?_push_of_some _ e) (Nat.le_refl _) ?_,rfl,hq _ hf⟩
  exact⟨Heap.get?_push_size _ rfl,⟨_,Heap.get?_push_size _ rfl⟩,fun h1 h2 q k=>k _ q⟩
noncomputable def zhN(K:W.Frag)(c:V):List V->Hp->VK->Prop:=fun xs H Q=> ∃a o C b,xs=[.ref a,c]/\H a=some (z7w o)/\o.cls= .ref C/\XCls K C/\W.kitOne K (.ref C) (cvV c)=some b/\Q (.bl b) H
theorem zau{c:V}(hc:clsV c=true):CallR X (.builtin "isinstance") (zhN X.K c):=by
 intro pins s σ H xs us Q I r ⟨a,o,C,b,e,hx,ho,Z,hk,q⟩
 subst e
 cases r with
 |cons r1 r2=>
  cases r2 with
  |cons r2 r3=>
   cases r3
   have e1:_=Value.ref a:=r1
   subst e1
   have e2:=z6K (cs:=[c]) (fun x hx=>by cases hx with|head=>exact hc|tail _ h=>cases h) (.cons r2 .nil)
   cases e2
   have hob:s.heap.get? a=some o:=(I.hok a _ hx).1
   exact W.kia_one (z8M Z) I.kIn ⟨o,hob,ho⟩ hk (by intro z;cases z) fun tk=>⟨.bl b,H,I.tok tk,rfl,q⟩
noncomputable def zhO(K:W.Frag)(us:List Value):List V->Hp->VK->Prop:=fun xs H Q=> ∃a o C p b,xs=[.ref a, .ref p]/\H a=some (z7w o)/\o.cls= .ref C/\XCls K C/\H p=some (clO p us)/\W.kitAny K (.ref C) us=some b/\Q (.bl b) H
theorem zav{us:List Value}:CallR X (.builtin "isinstance") (zhO X.K us):=by
 intro pins s σ H xs vs Q I r ⟨a,o,C,p,b,e,hx,ho,Z,hp,hk,q⟩
 subst e
 cases r with
 |cons r1 r2=>
  cases r2 with
  |cons r2 r3=>
   cases r3
   have e1:_=Value.ref a:=r1
   subst e1
   have e2:_=Value.ref p:=r2
   subst e2
   have hob:s.heap.get? a=some o:=(I.hok a _ hx).1
   have htp:s.heap.get? p=some {cls:= .type "tuple",data:= .seq us.toArray}:=(I.hok p _ hp).1
   exact W.kia_tup (z8M Z) I.kIn ⟨o,hob,ho⟩ htp hk (by intro z;cases z) fun tk=>⟨.bl b,H,I.tok tk,rfl,q⟩
end
end L2
namespace L2
open PySem PySem.Spec PySem.SeqAt PySem.Calls PyProof.Rows
theorem z86: ∀{bs:List Bool} {us:List Value},Vals (bs.map V.bl) us->us=bs.map Value.bool
 |[],_, .nil=>rfl
 |b::bs,_, .cons r rs=>by
  have r:_=_:=r
  rw[List.map_cons,<-z86 rs,r]
theorem zfZ(k:Bool)(bs:List Bool)(A:Around)(s:Shared): ∀y,y∈(bs.map Value.bool).toArray->EqAt A s y (.bool k) (isBoolOf k y):=fun y hy=>by
 simp only[List.mem_toArray,List.mem_map] at hy
 obtain⟨b,_,rfl⟩:=hy
 exact EqAt.bool_bool b k
theorem z7x(k:Bool): ∀bs:List Bool,(bs.map Value.bool).countP (isBoolOf k)=bs.count k
 |[]=>rfl
 |b::bs=>by rw[List.map_cons,List.countP_cons,z7x k bs,List.count_cons];rfl
section
variable{X:Cx}
noncomputable def zcC(K:W.Frag):V->List V->Hp->VK->Prop:=fun x vs H Q=> ∃(p:Addr) (bs:List Bool) (k:Bool),x= .ref p/\vs=[.bl k]/\SqL K H p (bs.map V.bl)/\Q (.int (bs.count k:Nat)) H
theorem zbY:MtM X "list.count" (zcC X.K):=by
 intro pins s σ H x vs v us Q I rx rv h
 obtain⟨p,bs,k,rfl,rfl,hs,q⟩:=h
 cases rx
 obtain⟨u,rfl,ru⟩:=rv.one
 have ru:_=_:=ru
 subst ru
 obtain⟨its,r,pl,_⟩:=I.list hs
 have e:=z86 r
 subst e
 obtain⟨⟨cls,dd,data,sl⟩,ho,hc,n,hd⟩:=pl.isList
 simp only at hc hd
 subst hc hd
 refine call_meets PySem.F.slot_list_count ⟨_,ho,rfl⟩ PySem.F.entry_list_count (PySem.F.args_list_count_2 _ _) (list_countAt p _ n dd sl (.bool k) (isBoolOf k)) ⟨ho,zfZ k bs _ _, ?_⟩
 exact⟨.int (bs.count k:Nat),H,I.tok _,⟨s.toks,by rw[<-z7x]⟩,q⟩
noncomputable def zcD(K:W.Frag):V->List V->Hp->VK->Prop:=fun x vs H Q=> ∃(p:Addr) (bs:List Bool) (k:Bool),x= .ref p/\vs=[.bl k]/\SqL K H p (bs.map V.bl)/\k∈bs/\Q (.int (bs.idxOf k:Nat)) H
theorem zbZ:MtM X "list.index" (zcD X.K):=by
 intro pins s σ H x vs v us Q I rx rv h
 obtain⟨p,bs,k,rfl,rfl,hs,hk,q⟩:=h
 cases rx
 obtain⟨u,rfl,ru⟩:=rv.one
 have ru:_=_:=ru
 subst ru
 obtain⟨its,r,pl,hz⟩:=I.list hs
 have e:=z86 r
 subst e
 obtain⟨⟨cls,dd,data,sl⟩,ho,hc,n,hd⟩:=pl.isList
 simp only at hc hd
 subst hc hd
 have hj:bs.idxOf k<bs.length:=List.idxOf_lt_length_iff.mpr hk
 have hn:=z6n
 have hz':bs.length<=sizeLine:=by simpa using hz
 refine call_meets PySem.F.slot_list_index ⟨_,ho,rfl⟩ PySem.F.entry_list_index (PySem.F.args_list_index_2 _ _)
  (list_indexAt p _ n dd sl (.bool k) (isBoolOf k) (bs.idxOf k) (by simpa using hj) (by lia) ?_ ?_) ⟨ho,zfZ k bs _ _,⟨.int (bs.idxOf k:Nat),H,I.tok _,⟨s.toks,rfl⟩,q⟩⟩
 ·simp[isBoolOf]
 ·intro j hjs hlt
  have:bs[j]'(by simpa using hjs)≠k:=fun h=>by
   have:=List.not_of_lt_findIdx (p:=(· ==k)) (xs:=bs) hlt
   simp[h] at this
  simp[isBoolOf,this]
end
end L2
namespace L2
open PySem PySem.Spec PySem.Calls PyProof.Rows
structure z2x(k:Nat)(A:Around):Prop where
 dp:A.depth+3*k+5<recursionLimit
 un:A.units+16*k+200<cLine
 gd:A.guards=some []
theorem z2x.mono{j k:Nat}{A:Around}(r:z2x k A)(h:j<=k):z2x j A:=⟨by have:=r.dp;lia,by have:=r.un;lia,r.gd⟩
theorem z2x.deeper{k:Nat}{A:Around}(r:z2x (k+1) A)(env:Env):z2x k (A.deeper env):=
 ⟨by have:=r.dp;show A.depth+1+3*k+5<_;lia,by have:=r.un;show A.units+3+16*k+200<_;lia,r.gd⟩
theorem Room.h{k:Nat}{A:Around}(r:Room k A)(o:Option Value):z2x k (A.mark o):=⟨r.dp,r.un,r.gd⟩
theorem z2x.units{k:Nat}{A:Around}(r:z2x k A):A.units+64<cLine:=by have:=r.un;lia
theorem z2x.depth{k:Nat}{A:Around}(r:z2x k A):A.depth<recursionLimit:=by have:=r.dp;lia
noncomputable abbrev cxH(CX:CXT)(P:Program)(w:World)(K:W.Frag)(mg:Str->Option Value)(base:Heap)(N:List Str)(qual:Str)(scope:Scope)(f:Addr)(cd:Value)(A:Around)(outer:List Env)(s:Shared)(H:Hp)(E:XK):Cx:=
 {cxOf CX P w K mg base N qual scope f cd A outer s H E with calm:=false}
structure z4J(P:Program)(w:World)(K:W.Frag)(mg:Str->Option Value)(base:Heap)(CX:CXT)(k:Nat)(f:Addr)(fd:FuncData)(ps:List Str)(sp:Sp):Prop where
 len: ∀vs H Q E,sp vs H Q E->vs.length=ps.length
 run: ∀(A:Around) (outer:List Env) (s:Shared) (H:Hp) (args:Args) (us:List Value) (vs:List V) (Q:VK) (E:XK),z2x k A->Env0 P w K mg base A outer s H->BindsTo s fd args (ps.zip us)->Vals vs us->sp vs H Q E->
  codeAny (model P w) A (.call (.ref f) args) (CR CX outer P w H s Q E) s
theorem z4J.mono{P:Program}{w:World}{K:W.Frag}{mg:Str->Option Value}{base:Heap}{CX:CXT}{j k:Nat}{f:Addr}{fd:FuncData}{ps:List Str}{sp:Sp}(F:z4J P w K mg base CX j f fd ps sp)(h:j<=k):
 z4J P w K mg base CX k f fd ps sp:=⟨F.len,fun A outer s H args us vs Q E hr=>F.run A outer s H args us vs Q E (hr.mono h)⟩
theorem Env0.nohd{P:Program}{w:World}{K:W.Frag}{mg:Str->Option Value}{base:Heap}{A:Around}{outer:List Env}{s:Shared}{H:Hp}(e:Env0 P w K mg base A outer s H):
 Env0 P w K mg base {A with handled:=none} outer s H:=⟨e.frames,e.mod,e.bs,e.bsz,e.funs,e.frf,e.hok,e.bare⟩
theorem z9t{CX:CXT}{P:Program}{w:World}{K:W.Frag}{mg:Str->Option Value}{base:Heap}{N ps:List Str}{qual:Str}{scope:Scope}{f:Addr}{cd:Value}{A:Around}{outer:List Env}{s s1:Shared}{H:Hp}{E:XK}{us:List Value}{vs:List V}
 (S:z05 N ps scope) (e0:Env0 P w K mg base A outer s H) (hl:vs.length=ps.length) (r:Vals vs us)
 (x:InCallC s s.heap.objs.size (bindL (envOfC qual scope s.heap.objs.size f cd).kindOf (ps.zip us) fun _=>none) (cellsFrom (s.heap.objs.size+1) scope.names []) (bindC (envOfC qual scope s.heap.objs.size f cd).kindOf (ps.zip us) fun _=>none) s1):
 Inv (cxH CX P w K mg base N qual scope f cd A outer s H E) [] (z4C N vs) H s1:=by
 have I:=z7i (A:={A with handled:=none}) (CX:=CX) (E:=E) S rfl e0.nohd hl r x
 have ok:=I.ok
 exact⟨⟨ok.mod,ok.kind,ok.glob,ok.blt,ok.above,ok.inj,ok.has,ok.cab,fun z=>Bool.noConfusion z,Around.frames_deeper e0.frames,ok.stk,ok.exf,ok.bs,ok.bsz,ok.noex,ok.exfs,ok.funs,ok.frf⟩,I.os,I.bare,I.base,I.loc,I.cell,I.free,I.freeC,I.pin,I.hok,I.len⟩
theorem zg0{CX:CXT}{P:Program}{w:World}{K:W.Frag}{mg:Str->Option Value}{base:Heap}{k:Nat}{f:Addr}{name qual:Str}{params:Arguments}{body:List Stmt}{scope:Scope}{dV kV doc pm cdv ct oc:Value}{an od:Option Addr}
 {osl:Array (Option Value)} {N ps:List Str} {sp:Sp} (lk:K.lookup f=some ⟨oc,od, .func (W.fnOf name qual params body scope dV kV doc pm an cdv ct),osl⟩) (hcd:W.codeIn K cdv qual=true) (S:z05 N ps scope)
 (len: ∀vs H Q E,sp vs H Q E->vs.length=ps.length)
 (hbody: ∀(A:Around) (outer:List Env) (s:Shared) (H:Hp) (vs:List V) (Q:VK) (E:XK),z2x k (A.deeper (envOfC qual scope s.heap.objs.size f cdv))->sp vs H Q E->
  ∃t,PSs (cxH CX P w K mg base N qual scope f cdv A outer s H E) body t/\t {nx:=fun _ H'=>Q .non H',rt:=Q} (z4C N vs) H):
 z4J P w K mg base CX (k+1) f (W.fnOf name qual params body scope dV kV doc pm an cdv ct) ps sp:=by
 refine⟨len,fun A outer s H args us vs Q E hr e0 hb r hsp=> ?_⟩
 have hl:=len _ _ _ _ hsp
 have KX:K.In s.heap:=e0.mod.kin.keeps fun b o e=>(e0.bs b o e).1
 have lim:s.heap.NoLimit:=e0.mod.nolimit.keeps fun b o e=>(e0.bs b o e).1
 have hkind: ∀y∈ps.zip us,scope.names.lookup y.1=some .local\/(scope.names.lookup y.1=some .cell/\((cellsFrom (s.heap.objs.size+1) scope.names []).lookup y.1).isSome=true):=fun⟨n,v⟩ hy=>by
  rcases S.par n (List.of_mem_zip hy).1 with q|q
  ·exact .inl q
  ·exact .inr ⟨q,W.cellsFrom_some _ _ _ (.inl q)⟩
 refine codeAny_call_function hr.depth (KX _ _ lk) rfl S.co S.gen rfl (W.codeRec_of KX hcd) (hb _ _ _ _ ?_)
 refine wpAny_newFunctionEnv_cells S.kind hkind fun env he s1 x=> ?_
 subst he
 refine⟨lim.keeps x.toInCall.keep,codeAny_func ?_⟩
 obtain⟨t,ht,hq⟩:=hbody A outer s H vs Q E (hr.deeper _) hsp
 have I:Inv (cxH CX P w K mg base N qual scope f cdv A outer s H E) [] (z4C N vs) H s1:=z9t S e0 hl r x
 refine wpAny_mono (ht [] s1 (z4C N vs) H _ I hq) (fun fl s' hs=> ?_) fun e s' hs=>hs
 have fin: ∀{σ':St} {H':Hp} {v:V} {u:Value},Inv (cxH CX P w K mg base N qual scope f cdv A outer s H E) [] σ' H' s'->RelV v u->Q v H'->CE outer P w H s Q u s':=
  fun{σ' H' v u} J rv q=>⟨v,H',J.os,J.bare,J.base,J.hok,rv,q⟩
 cases fl with
 |ret u=>
  obtain⟨v,σ',H',J,rv,q⟩:=hs
  exact fin J rv q
 |next=>
  obtain⟨σ',H',J,q⟩:=hs
  exact fin (v:=V.non) (u:=Value.none) J rfl q
 |brk=>
  obtain⟨_,_,_,q⟩:=hs
  exact False.elim q
 |cont=>
  obtain⟨_,_,_,q⟩:=hs
  exact False.elim q
section
variable{P:Program}{w:World}{K:W.Frag}{mg:Str->Option Value}{base:Heap}
theorem Fun.okH{x qual:Str}{st:Stmt}{f:Addr}{fd:FuncData}{N ps:List Str}{k:Nat}{sp:Sp}(F:Fun K x qual st f fd)(S:z05 N ps (z01 st))(len: ∀vs H Q E,sp vs H Q E->vs.length=ps.length)
 (hbody: ∀(cdv:Value) (A:Around) (outer:List Env) (s:Shared) (H:Hp) (vs:List V) (Q:VK) (E:XK),z2x k (A.deeper (envOfC qual (z01 st) s.heap.objs.size f cdv))->sp vs H Q E->
  ∃t,PSs (cxH CX0 P w K mg base N qual (z01 st) f cdv A outer s H E).nox (z0Q st) t/\t {nx:=fun _ H'=>Q .non H',rt:=Q} (z4C N vs) H):z4J P w K mg base CX0 (k+1) f fd ps sp:=by
 obtain⟨oc,od,kV,doc,pm,an,cdv,ct,osl,rfl,lk,hcd⟩:=F.ex
 refine zg0 lk hcd S len fun A outer s H vs Q E hr hsp=> ?_
 obtain⟨t,h,q⟩:=hbody cdv A outer s H vs Q E hr hsp
 exact⟨t,h.nox,q⟩
end
section
variable{X:Cx}{CX:CXT}{k:Nat}{f C:Addr}{fd:FuncData}{ps:List Str}{sp:Sp}{dvs:List V}{ds:List Value}{E:XK}{x m:Str}{p pos apos:Pos}{e o:Expr}{es:List Expr}{ta:TE}{t:TA}
theorem zdN{pins:List (Addr×Obj)}{σ:St}{H:Hp}{s:Shared}{Q:VK}{us:List Value}{vs:List V}(F:z4J X.prog X.w X.K X.mg X.base CX k f fd ps sp)(hr:z2x k X.A)(hb:z3R X.K fd ps ds)(hd:Vals dvs ds)(hx:z3p CX X E)
 (I:Inv X pins σ H s) (r:Vals vs us) (h:sp (vs++dvs) H Q E):wpAny (model X.prog X.w) X.A (call (.ref f) us) (EP X pins σ Q) X.xe s:=by
 have r2:Vals (vs++dvs) (us++ds):=r.append hd
 have hl:(us++ds).length=ps.length:=by rw[<-r2.length];exact F.len _ _ _ _ h
 refine wpAny_call (codeAny_mono (F.run X.A X.stack s H ⟨us,[]⟩ (us++ds) (vs++dvs) Q E hr I.env0 (hb s us I.kIn hl) r2 h) fun r s' hq=> ?_)
 cases r with
 |error e=>exact hx pins σ H s e s' I hq
 |ok fl=>
  cases fl with
  |ret u=>exact I.after hq
  |next=>exact False.elim hq
  |brk=>exact False.elim hq
  |cont=>exact False.elim hq
theorem zc0(F:z4J X.prog X.w X.K X.mg X.base CX k f fd ps sp)(hr:z2x k X.A)(hg:Gl X x)(hm:X.mg x=some (.ref f))(hk:W.keepIn X.K (.ref f)=true)(hb:z3R X.K fd ps ds)(hd:Vals dvs ds)(hx:z3p CX X E)
 (ha:PA X (e::es) t) (hdb:(x==("__debug__" :Str))=false:=by decide) (he:starEach (e::es) X.env=(false,eval e X.env)::starEach es X.env:=by rfl) (hpl:(backTo pos (starEach es X.env)).any (·.1)=false:=by rfl):
 PE X (.Call (.Name x p) (e::es) [] pos) (zf2 sp dvs E t):=by
 intro pins s σ H Q I h
 refine wpAny_Call_Name_kw (z4B I hg hm ?_ hdb)
 refine W.callWith_K (h₀:=X.base) I.ok.mod.kin hk (thn (ha pos pins s σ H _ I h) fun us s1 ⟨vs,H1,I1,r,q⟩=>⟨I1.kIn, ?_⟩) he hpl
 exact zdN F hr hb hd hx I1 r q
end
end L2
namespace L2
open PySem PySem.Spec PyProof.Rows
end L2
namespace Mi
open PySem L2 PySem.Spec
open PyProof.Rows (envOfC)
structure XP(X:Cx)(G:Gx)(F:Fy)(E:L2.St->XK):Prop where
 ps:zfU X E
 xw: ∀c s',F.xw (.exc c) s'->∀ρ σv tv H C,F.tv0<:+tv->MR G F.toFx ρ H σv tv s'->G.cl c=some C->E σv (.ref C) none H
 no: ∀d s',F.xw d s'->∃c,d= .exc c
noncomputable def z2S(c:Str):MS:=fun s=> .ex (.exc c) s
section
variable{X:Cx}{G:Gx}{F:Fy}{E:L2.St->XK}{C:Addr}{x y:Str}{np cpos pos p:Pos}{j:Nat}
theorem ss_raise(hh:X.A.handled=none)(hx:XP X G F E)(hr:z5z X E)(hcl:G.cl x=some C)(hg:Gl X x)(hm:X.mg x=some (.ref C))(hq:W.excIn X.K C bmV "ValueError.__new__" =true)(hd:(x==("__debug__" :Str))=false:=by decide):
 SS X G F (.Raise (some (.Call (.Name x np) [.Constant (.str y) j p] [] cpos)) none pos) (z2S x):=
 PS.imp0 (zbS hh hr hg hm hq hd) fun D σ H ⟨tv,hs,ρ,s,M,W⟩=>hx.xw x s W ρ σ tv H C hs M hcl
end
open Classical in
noncomputable def z4p(r:RF)(ts:List D):M D:=fun s=>match r with
 | .ok t ts' n'=>if ts'=ts then .ok t {s with n:=n'} else
  if ∀l∈z1p s,l∈z02 ts->(z0x l ts').isSome=true then .ok t {σ:=rpO (fun l=>z0x l ts') s.σ,tm:=rpO (fun l=>z0x l ts') s.tm,n:=n'} else .no
 | .ex d ts' n'=>if ts'=ts then .ex d {s with n:=n'} else
  if ∀l∈z1p s,l∈z02 ts->(z0x l ts').isSome=true then .ex d {σ:=rpO (fun l=>z0x l ts') s.σ,tm:=rpO (fun l=>z0x l ts') s.tm,n:=n'} else .no
 | .no=> .no
noncomputable def z2T(f:FM)(ms:List (M D)):M D:=bd (mArgs ms) fun ts s=>z4p (f ts s.n) ts s
noncomputable def spX(G:Gx)(np:Nat)(f:FM):Sp:=fun vs H Q E=>vs.length=np/\∃ρ n ts,RDs G ρ H ts vs/\(∀i j,i<n->j<n->ρ i=ρ j->i=j)/\(∀l,l<n->∃o,H (ρ l)=some o)/\(∀l∈z02 ts,l<n)/\KD G.K H/\match f ts n with
 | .ok t ts' n'=> ∀ρ' v H',z6I G ρ n ts vs H ρ' n' ts' H'->RD G ρ' H' t v->(∀l∈labs t,l<n'/\(l<n->l∈z02 ts))->Q v H'
 | .ex d ts' n'=> ∃c,d= .exc c/\∀ρ' H' C,z6I G ρ n ts vs H ρ' n' ts' H'->G.cl c=some C->E (.ref C) none H'
 | .no=>False
section
variable{X:Cx}{G:Gx}{F:Fy}{E:L2.St->XK}{ρ:Nat->Addr}{H:Hp}{σv tv:List (Option V)}{s:Stt}{np:Nat}
theorem z9u{ts:List D}{vs:List V}{f:FM}{Q:VK}(hx:XP X G F E)(hs:F.tv0<:+tv)(hl:vs.length=np)(M:MRL G F.toFx ρ H σv tv s ts vs)(W:wM G F σv tv (z4p (f ts s.n) ts s) Q):spX G np f vs H Q (E σv):=by
 refine⟨hl,ρ,s.n,ts,M.rd,M.m.inj,M.m.dom,fun l h=>(M.lb l h).1,M.m.kd, ?_⟩
 cases e:f ts s.n with
 |no=>rw[e] at W;exact W
 |ex d ts' n'=>
  rw[e] at W
  unfold z4p at W
  dsimp only at W
  split at W
  ·rename_i et
   subst et
   obtain⟨c,rfl⟩:=hx.no _ _ W
   exact⟨c,rfl,fun ρ' H' C P hc=>hx.xw c _ W ρ' σv tv H' C hs (M.m.call0 M.rd M.lb P) hc⟩
  ·split at W
   ·rename_i hc
    obtain⟨c,rfl⟩:=hx.no _ _ W
    exact⟨c,rfl,fun ρ' H' C P hcl=>hx.xw c _ W ρ' σv tv H' C hs (M.m.call M.rd M.lb P hc) hcl⟩
   ·exact False.elim W
 |ok t ts' n'=>
  rw[e] at W
  intro ρ' v H' P rd lbt
  have own: ∀l∈labs t,F.A0 (ρ' l)\/F.H0 (ρ' l)=none:=fun l h=>by
   obtain⟨b1,b2⟩:=lbt l h
   by_cases hn:l<s.n
   ·rw[P.old l hn];exact(M.lb l (b2 hn)).2
   ·exact .inr (M.m.fresh0 (P.new l (Nat.not_lt.mp hn) b1))
  unfold z4p at W
  dsimp only at W
  split at W
  ·rename_i et
   subst et
   exact W.out (M.m.call0 M.rd M.lb P) rd fun l h=>⟨(lbt l h).1,own l h⟩
  ·split at W
   ·rename_i hc
    exact W.out (M.m.call M.rd M.lb P hc) rd fun l h=>⟨(lbt l h).1,own l h⟩
   ·exact False.elim W
theorem se_callX{e:Expr}{es:List Expr}{pos p:Pos}{k:Nat}{fa:Addr}{fd:FuncData}{ps:List Str}{x:Str}{f:FM}{ms:List (M D)}(hx:XP X G F E)(Fn:FnOk X.prog X.w X.K X.mg X.base (CX1 X.prog X.w) k fa fd ps (spX G ps.length f))(hr:Room k X.A)(hg:Gl X x)(hm:X.mg x=some (.ref fa))(hkp:W.keepIn X.K (.ref fa)=true)(hb:z3R X.K fd ps [])
 (ha:SA X G F (e::es) (mArgs ms)) (hln:ms.length=ps.length) (hdb:(x==("__debug__" :Str))=false:=by decide) (he:starEach (e::es) X.env=(false,eval e X.env)::starEach es X.env:=by rfl) (hpl:(backTo pos (starEach es X.env)).any (·.1)=false:=by rfl):
 SE X G F (.Call (.Name x p) (e::es) [] pos) (z2T f ms):=by
 refine PE.imp0 (zbT Fn hr hg hm hkp hb hx.ps ha hdb he hpl) fun σ H Q ⟨tv,hs,ρ,s,M,W⟩=>⟨tv,hs,ρ,s,M, ?_⟩
 unfold z2T bd at W
 cases e1:mArgs ms s with
 |ex d s1=>rw[e1] at W;exact W
 |no=>rw[e1] at W;exact W
 |ok ts s1=>
  rw[e1] at W
  intro ρ1 vs H1 M1
  exact z9u hx hs (by rw[<-M1.rd.length,z5w ms s ts s1 e1,hln]) M1 W
end
noncomputable def z3n(k:Nat)(tm:List (Option D)):List (Option D):=tm.drop (tm.length -k)
noncomputable def runX(nl:Nat)(mb:MS):FM:=fun ts n=>match mb {σ:=ts.map some++List.replicate (nl -ts.length) none,tm:=ts.map some,n:=n} with
 | .nx s'=>match z08 s'.tm with|some ts'=> .ok .non ts' s'.n|none=> .no
 | .rt t s'=>match z08 s'.tm with|some ts'=> .ok t ts' s'.n|none=> .no
 | .ex d s'=>match z08 (z3n ts.length s'.tm) with|some ts'=> .ex d ts' s'.n|none=> .no
 |_=> .no
noncomputable def zg1(G:Gx)(ρ:Nat->Addr)(n:Nat)(ts:List D)(vs:List V)(H:Hp)(lb: ∀l∈z02 ts,l<n)(dom: ∀l,l<n->∃o,H (ρ l)=some o)(E:XK):Fy:=
 {(z82 G ρ n ts vs H lb dom) with xw:=fun d s'=> ∃c ts',d= .exc c/\z08 (z3n ts.length s'.tm)=some ts'/\∀ρ' H' C,z6I G ρ n ts vs H ρ' s'.n ts' H'->G.cl c=some C->E (.ref C) none H'}
theorem MR.last{G:Gx}{F:Fx}{ρ:Nat->Addr}{H:Hp}{σv tv t0:List (Option V)}{s:Stt}(M:MR G F ρ H σv tv s)(h:t0<:+tv):MR G F ρ H σv t0 {s with tm:=z3n t0.length s.tm}:=by
 obtain⟨t1,rfl⟩:=h
 have hl:=M.tm.length
 have e:z3n t0.length s.tm=s.tm.drop t1.length:=by
  unfold z3n
  rw[hl,List.length_append]
  congr 1
  lia
 have sub: ∀l∈z0b (s.tm.drop t1.length),l∈z0b s.tm:=fun l hm=>by
  rw[<-List.take_append_drop t1.length s.tm,z0f]
  exact List.mem_append_right _ hm
 rw[e]
 refine⟨M.sl,(Sl.split t1 M.tm).2,M.inj,M.dom,fun l h=>M.lab l ?_,fun l h=>M.own l ?_,M.frm,M.kd,M.frb,M.bas⟩
 ·rcases List.mem_append.mp h with h|h
  ·exact List.mem_append_left _ h
  ·exact List.mem_append_right _ (sub l h)
 ·rcases List.mem_append.mp h with h|h
  ·exact List.mem_append_left _ h
  ·exact List.mem_append_right _ (sub l h)
theorem fn_X{G:Gx}{P:Program}{w:World}{K:W.Frag}{mg:Str->Option Value}{base:Heap}{x qual:Str}{st:Stmt}{fa:Addr}{fd:FuncData}{N ps:List Str}{k:Nat}{mb:MS}(Fn:Fun K x qual st fa fd)(S:z05 N ps (z01 st))(hG:G.K=K)
 (hb: ∀(cdv:Value) (A:Around) (outer:List Env) (s:Shared) (H:Hp) (E:XK) (F:Fy),Room k (A.deeper (envOfC qual (z01 st) s.heap.objs.size fa cdv))->XP (cxOf (CX1 P w) P w K mg base N qual (z01 st) fa cdv A outer s H E) G F (fun _=>E)->z5z (cxOf (CX1 P w) P w K mg base N qual (z01 st) fa cdv A outer s H E) (fun _=>E)->SSs (cxOf (CX1 P w) P w K mg base N qual (z01 st) fa cdv A outer s H E) G F (z0Q st) mb):
 FnOk P w K mg base (CX1 P w) (k+1) fa fd ps (spX G ps.length (runX N.length mb)):=by
 obtain⟨oc,od,kV,doc,pm,an,cdv,ct,osl,rfl,lk,hcd⟩:=Fn.ex
 refine zf4 lk hcd S (fun vs H Q E h=>h.1) fun A outer s H vs Q E hr h=> ?_
 obtain⟨hl,ρ,n,ts,r,inj,dom,lb,kd,W⟩:=h
 have hlen:=r.length
 have hX:XP (cxOf (CX1 P w) P w K mg base N qual (z01 st) fa cdv A outer s H E) G (zg1 G ρ n ts vs H lb dom E) (fun _=>E):=by
  refine⟨fun pins σ H1 s1 e s2 I h=>z85 pins σ H1 s1 e s2 I h,fun c s' ⟨c',ts',e1,e2,q⟩ ρ' σv tv H' C hs M hc=> ?_,fun d s' ⟨c,ts',e1,_⟩=>⟨c,e1⟩⟩
  cases e1
  have M2:MR G (z82 G ρ n ts vs H lb dom).toFx ρ' H' σv (vs.map some) {s' with tm:=z3n ts.length s'.tm}:=by
   have:=MR.last (t0:=vs.map some) M hs
   rw[List.length_map,<-hlen] at this
   exact this
  obtain⟨P,_⟩:=z30 inj M2 e2
  exact q ρ' H' C P hc
 have hR:z5z (cxOf (CX1 P w) P w K mg base N qual (z01 st) fa cdv A outer s H E) (fun _=>E):=fun pins σ H1 s1 h' e C args I hm hE=>zfS I hm hE
 refine⟨_,hb cdv A outer s H E (zg1 G ρ n ts vs H lb dom E) hr hX hR,vs.map some,List.suffix_refl _,ρ,{σ:=ts.map some++List.replicate (N.length -ts.length) none,tm:=ts.map some,n:=n}, ?_, ?_⟩
 ·obtain⟨r1,r2⟩:=RDs.sl r
  have sub: ∀l∈z1p {σ:=ts.map some++List.replicate (N.length -ts.length) none,tm:=ts.map some,n:=n},l∈z02 ts:=fun l h=>by
   rcases List.mem_append.mp h with h|h
   ·have h:l∈z0b (ts.map some++List.replicate (N.length -ts.length) none):=h
    rw[z0f] at h
    rcases List.mem_append.mp h with h|h
    ·rw[<-r2];exact h
    ·exact absurd h (z3t _)
   ·rw[<-r2];exact h
  refine⟨?_,r1,inj,dom,fun l h=>lb l (sub l h),fun l h=> .inl ⟨l,sub l h,rfl⟩,fun a o e=>⟨⟨o,e⟩,fun _=>e⟩,kd,fun l hl z=>z.2 l hl rfl,⟨Nat.le_refl _,fun l _=>rfl⟩⟩
  show Sl G ρ H _ (vs.map some++List.replicate (N.length -vs.length) none)
  rw[<-hlen]
  exact r1.append (Sl.none_map _)
 ·unfold runX at W
  cases e:mb {σ:=ts.map some++List.replicate (N.length -ts.length) none,tm:=ts.map some,n:=n} with
  |nx s'=>
   simp only[e] at W
   cases ea:z08 s'.tm with
   |none=>simp only[ea] at W
   |some ts'=>
    simp only[ea] at W
    intro ρ' σv' H' M
    obtain⟨P,_⟩:=z30 (lb:=lb) (dom:=dom) inj M ea
    exact W ρ' .non H' P (by simp only[RD]) fun l h=>by simp[labs] at h
  |rt t s'=>
   simp only[e] at W
   cases ea:z08 s'.tm with
   |none=>simp only[ea] at W
   |some ts'=>
    simp only[ea] at W
    intro ρ' σv' v H' M
    obtain⟨P,own⟩:=z30 (lb:=lb) (dom:=dom) inj M.m ea
    exact W ρ' v H' P M.rd1 fun l h=>⟨(M.lb1 l h).1,own l (M.lb1 l h).1 (M.lb1 l h).2⟩
  |bk s'=>simp only[e] at W
  |ct s'=>simp only[e] at W
  |ex d s'=>
   simp only[e] at W
   cases ea:z08 (z3n ts.length s'.tm) with
   |none=>simp only[ea] at W
   |some ts'=>
    simp only[ea] at W
    obtain⟨c,e1,q⟩:=W
    exact⟨c,ts',e1,ea,q⟩
  |no=>simp only[e] at W
noncomputable def sTry(k:Str->Bool)(ie:Nat)(mb mh:MS):MS:=fun s=>match mb s with
 | .ex (.exc c) s'=>if k c then(match mh {σ:=s'.σ.set ie (some (.exc c)),tm:=z3n s.tm.length s'.tm,n:=s'.n} with
  | .rt d s''=> .rt d s''
  |_=> .no) else .no
 | .ex _ _=> .no
 |r=>r
noncomputable def tryF(G:Gx)(F:Fy)(k:Str->Bool)(ie:Nat)(mh:MS)(tv:List (Option V))(D:Ends):Fy:=
 {F with tv0:=tv,xw:=fun d s'=> ∃c,d= .exc c/\k c=true/\wS G F tv (match mh {σ:=s'.σ.set ie (some (.exc c)),tm:=z3n tv.length s'.tm,n:=s'.n} with| .rt d s''=> .rt d s''|_=> .no) D}
section
variable{X:Cx}{G:Gx}{F:Fy}{np hpos pos:Pos}{b₀:Stmt}{suite body:List Stmt}{x n:Str}{ie:Nat}{CB:Addr}{mb mh:MS}{k:Str->Bool}
theorem ss_try(hst:X.stack=X.env::X.outer)(hfr:X.env.frame=some X.env.locals)(hex:X.ex=[])(hK:X.K=G.K)(hg:Gl X x)(hm:X.mg x=some (.ref CB))(hN:X.N.Nodup)(hi:X.N[ie]? =some n)(hloc:X.env.scope.names.lookup n=some .local)
 (hk: ∀c C,G.cl c=some C->k c=true->W.exmOne X.K (.ref C) (.ref CB)=some true)
 (hb: ∀(pl:List (Addr×Obj)) (E':Value->Shared->Prop) (F':Fy) (E:L2.St->XK),XP (Xt X pl E') G F' E->SSs (Xt X pl E') G F' body mb) (hh: ∀a,SSs (Xm X a) G F (b₀::suite) mh) (hd:(x==("__debug__" :Str))=false:=by decide):
 SS X G F (.Try body [.ExceptHandler (some (.Name x np)) (some n) (b₀::suite) hpos] [] [] pos) (sTry k ie mb mh):=by
 intro pins s σ H D I ⟨tv,hs,ρ,ms,M,W⟩
 refine wpAny_Try_except ?_
 have hlt:ms.tm.length=tv.length:=M.tm.length
 have hX:XP (Xt X (X.pn++pins) (zbU X [.ExceptHandler (some (.Name x np)) (some n) (b₀::suite) hpos] (SP X pins D))) G (tryF G F k ie mh tv D) (zfX X.K CB ie (tS G F mh) D):=by
  refine⟨fun pins' σ' H' s' e s2 I' h=> ?_,fun c s' ⟨c',e1,hkc,q⟩ ρ' σv tv' H' C hs' M' hc=> ?_,fun d s' ⟨c,e1,_⟩=>⟨c,e1⟩⟩
  ·exact zbV hst hfr hex hg hm hN hi hloc hh hd I'.unxt h
  ·cases e1
   refine⟨hk c C hc hkc,fun a o hn hKn ho hf=>⟨tv,hs,ρ',{σ:=s'.σ.set ie (some (.exc c)),tm:=z3n tv.length s'.tm,n:=s'.n}, ?_, ?_⟩⟩
   ·have M1:MR G F.toFx ρ' H' σv tv {s' with tm:=z3n tv.length s'.tm}:=MR.last (t0:=tv) M' hs'
    have kd:KD G.K (upd H' a (z7w o)):=fun b ob q=>by
     by_cases hb:b=a
     ·subst hb;rw[<-hK,hKn] at q;cases q
     ·rw[z0c hb];exact M1.kd b ob q
    have M2:=M1.same (Same.new (z7w o) hn) kd
    have rd:RD G ρ' (upd H' a (z7w o)) (.exc c) (.ref a):=by
     simp only[RD]
     exact⟨a,o,C,rfl,hc,ho,hf,z0h⟩
    have M3:=MRL.setS ie (⟨M2,RDs.one rd,fun l hl=>by simp[z02,labs] at hl⟩:MRL G F.toFx ρ' (upd H' a (z7w o)) σv tv {s' with tm:=z3n tv.length s'.tm} [.exc c] [.ref a])
    exact M3.m
   ·revert q
    cases mh {σ:=s'.σ.set ie (some (.exc c)),tm:=z3n tv.length s'.tm,n:=s'.n} with
    |rt d s''=>exact fun q=>q
    |nx s''=>exact fun q=>q.elim
    |bk s''=>exact fun q=>q.elim
    |ct s''=>exact fun q=>q.elim
    |ex d s''=>exact fun q=>q.elim
    |no=>exact fun q=>q.elim
 have W':wS G (tryF G F k ie mh tv D) tv (mb ms) D:=by
  unfold sTry at W
  cases e:mb ms with
  |nx s'=>rw[e] at W;exact W
  |rt d s'=>rw[e] at W;exact W
  |bk s'=>rw[e] at W;exact W
  |ct s'=>rw[e] at W;exact W
  |no=>rw[e] at W;exact W
  |ex d s'=>
   rw[e] at W
   cases d with
   |exc c=>
    dsimp only at W
    by_cases hkc:k c=true
    ·rw[if_pos hkc,hlt] at W;exact⟨c,rfl,hkc,W⟩
    ·rw[if_neg hkc] at W;exact False.elim W
   |_=>exact False.elim W
 refine wpAny_mono (hb (X.pn++pins) (zbU X [.ExceptHandler (some (.Name x np)) (some n) (b₀::suite) hpos] (SP X pins D)) (tryF G F k ie mh tv D) _ hX [] s σ H D I.xt ⟨tv,List.suffix_refl _,ρ,ms,M,W'⟩) (fun f s1 q=> ?_) fun _ _ z=>z
 cases f with
 |next=>obtain⟨σ',H',I',q⟩:=q;exact wpAny_execs_nil ⟨σ',H',I'.unxt,q⟩
 |brk=>obtain⟨σ',H',I',q⟩:=q;exact⟨σ',H',I'.unxt,q⟩
 |cont=>obtain⟨σ',H',I',q⟩:=q;exact⟨σ',H',I'.unxt,q⟩
 |ret u=>obtain⟨v,σ',H',I',r,q⟩:=q;exact⟨v,σ',H',I'.unxt,r,q⟩
noncomputable def mIsX(tb:Str->Option Bool)(m:M D):M D:=bd m fun d=>match d with
 | .exc c=>(match tb c with|some b=>rt (.bool b)|none=>fl)
 |_=>fl
theorem se_isX1{p:Pos}{x y:Expr}{m:M D}{c:V}{tb:Str->Option Bool}(hK:X.K=G.K)(hc:clsV c=true)(ht: ∀r C b,G.cl r=some C->tb r=some b->XCls X.K C/\W.kitOne X.K (.ref C) (cvV c)=some b)(hgl:Gl X "isinstance")(hm:X.mg "isinstance" =none)(ha:SE X G F x m)(hy:PE X y (tC c))
 (he:starEach [x,y] X.env=(false,eval x X.env)::starEach [y] X.env:=by rfl) (he2:starEach [y] X.env=(false,eval y X.env)::starEach [] X.env:=by rfl) (hpl:(backTo pos (starEach [y] X.env)).any (·.1)=false:=by rfl):SE X G F (.Call (.Name "isinstance" p) [x,y] [] pos) (mIsX tb m):=by
 refine PE.imp hK (z5d (zau (c:=c) hc) hgl hm PyProof.Rows.Boot.«isinstance» (z0q ha (z0q hy z5l he2) he) (by decide) (by decide) he hpl) fun σ H Q ⟨tv,h⟩=>⟨tv,(z6F h).mono fun v H1 ⟨ρ1,s1,t,M1,W⟩=> ?_⟩
 cases t with
 |exc r=>
  have h1:=M1.rd1
  simp only[RD] at h1
  obtain⟨a,o,C,e,hcl,ho,hf,hH⟩:=h1
  cases e
  cases eb:tb r with
  |none=>simp only[eb] at W;exact False.elim W
  |some b=>
   simp only[eb] at W
   obtain⟨z1,z2⟩:=ht r C b hcl eb
   exact⟨a,o,C,b,rfl,hH,ho,z1,z2,fun _=>W.flat M1.m rfl⟩
 |_=>exact False.elim W
theorem se_isXT{p:Pos}{x y:Expr}{m:M D}{us:List Value}{tb:Str->Option Bool}(hK:X.K=G.K)(ht: ∀r C b,G.cl r=some C->tb r=some b->XCls X.K C/\W.kitAny X.K (.ref C) us=some b)(hgl:Gl X "isinstance")(hm:X.mg "isinstance" =none)(ha:SE X G F x m)(hy:PE X y (tCls us))
 (he:starEach [x,y] X.env=(false,eval x X.env)::starEach [y] X.env:=by rfl) (he2:starEach [y] X.env=(false,eval y X.env)::starEach [] X.env:=by rfl) (hpl:(backTo pos (starEach [y] X.env)).any (·.1)=false:=by rfl):SE X G F (.Call (.Name "isinstance" p) [x,y] [] pos) (mIsX tb m):=by
 refine PE.imp hK (z5d (zav (us:=us)) hgl hm PyProof.Rows.Boot.«isinstance» (z0q ha (z0q hy z5l he2) he) (by decide) (by decide) he hpl) fun σ H Q ⟨tv,h⟩=>⟨tv,(z6F h).mono fun v H1 ⟨ρ1,s1,t,M1,W⟩=> ?_⟩
 cases t with
 |exc r=>
  have h1:=M1.rd1
  simp only[RD] at h1
  obtain⟨a,o,C,e,hcl,ho,hf,hH⟩:=h1
  cases e
  cases eb:tb r with
  |none=>simp only[eb] at W;exact False.elim W
  |some b=>
   simp only[eb] at W
   obtain⟨z1,z2⟩:=ht r C b hcl eb
   intro q hq
   have sm:=Same.new (clO q us) hq
   exact⟨a,o,C,q,b,rfl,sm _ _ hH,ho,z1,z0h,z2,fun k=>W.flat (M1.m.same sm k) rfl⟩
 |_=>exact False.elim W
end
end Mi
namespace Mi
open PySem L2 PySem.Spec
inductive Al(Φ:Addr->Prop):List (Str×Addr)->Prop
 |nil:Al Φ []
 |cons {c:Str} {a:Addr} {l:List (Str×Addr)}:Φ a->Al Φ l->Al Φ ((c,a)::l)
theorem Al.at{Φ:Addr->Prop}{l:List (Str×Addr)}(h:Al Φ l){c:Str}{a:Addr}(e:l.lookup c=some a):Φ a:=by
 induction h with
 |nil=>cases e
 | @cons c' a' l h _ ih=>
  rw[List.lookup_cons] at e
  cases q:c==c' with
  |true=>rw[q] at e;cases e;exact h
  |false=>rw[q] at e;exact ih e
inductive Al2{β:Type}(Φ:Addr->β->Prop):List (Str×Addr)->List (Str×β)->Prop
 |nil:Al2 Φ [] []
 |cons {c:Str} {a:Addr} {b:β} {l:List (Str×Addr)} {r:List (Str×β)}:Φ a b->Al2 Φ l r->Al2 Φ ((c,a)::l) ((c,b)::r)
 |skip {c:Str} {a:Addr} {l:List (Str×Addr)} {r:List (Str×β)}:r.lookup c=none->Al2 Φ l r->Al2 Φ ((c,a)::l) r
theorem Al2.at{β:Type}{Φ:Addr->β->Prop}{l:List (Str×Addr)}{r:List (Str×β)}(h:Al2 Φ l r): ∀{c:Str} {a:Addr} {b:β},l.lookup c=some a->r.lookup c=some b->Φ a b:=by
 induction h with
 |nil=>intro c a b e;cases e
 | @cons c' a' b' l r h _ ih=>
  intro c a b e e2
  rw[List.lookup_cons] at e e2
  cases q:c==c' with
  |true=>rw[q] at e e2;cases e;cases e2;exact h
  |false=>rw[q] at e e2;exact ih e e2
 | @skip c' a' l r hn _ ih=>
  intro c a b e e2
  rw[List.lookup_cons] at e
  cases q:c==c' with
  |true=>rw[beq_iff_eq] at q;subst q;rw[hn] at e2;cases e2
  |false=>rw[q] at e;exact ih e e2
theorem z4K: ∀{l:List (Str×Addr)} {c:Str} {a:Addr},l.lookup c=some a->a∈l.map (·.2)
 |(c',a')::l,c,a,e=>by
  rw[List.lookup_cons] at e
  cases q:c==c' with
  |true=>rw[q] at e;cases e;exact List.mem_cons_self ..
  |false=>rw[q] at e;exact List.mem_cons_of_mem _ (z4K e)
theorem z6s: ∀{l:List (Str×Addr)},(l.map (·.2)).Nodup->∀{c c':Str} {a:Addr},l.lookup c=some a->l.lookup c'=some a->c=c'
 |(k,v)::l,nd,c,c',a,e,e'=>by
  rw[List.map_cons,List.nodup_cons] at nd
  rw[List.lookup_cons] at e e'
  cases q:c==k with
  |true=>
   rw[q] at e;cases e
   cases q':c'==k with
   |true=>rw[beq_iff_eq] at q q';rw[q,q']
   |false=>rw[q'] at e';exact absurd (z4K e') nd.1
  |false=>
   rw[q] at e
   cases q':c'==k with
   |true=>rw[q'] at e';cases e';exact absurd (z4K e) nd.1
   |false=>rw[q'] at e';exact z6s nd.2 e e'
noncomputable def NSq(K:W.Frag)(a:Addr):Prop:= ∃o,K.lookup a=some o/\∀its n,o.data≠ .seq its n
theorem z48{K:W.Frag}{C:Addr}{bm:List Value}{i:String}(q:W.excIn K C bm i=true):NSq K C:=by
 unfold W.excIn at q
 split at q
 ·rename_i dd cd sl ho
  exact⟨_,ho,fun its n z=>by cases z⟩
 ·cases q
noncomputable def mkG(K:W.Frag)(l:List (Str×Addr))(nd:(l.map (·.2)).Nodup)(ok:Al (NSq K) l):Gx:=⟨K,fun c=>l.lookup c,fun _ _ _ h h'=>z6s nd h h',fun _ _ h=>ok.at h⟩
section
variable{X:Cx}{G:Gx}{F:Fy}{E:L2.St->XK}
structure FnV(X:Cx)(G:Gx)(np:Nat)(a:Addr)(f:FM):Prop where
 ex: ∃k fd ps,ps.length=np/\FnOk X.prog X.w X.K X.mg X.base (CX1 X.prog X.w) k a fd ps (spX G np f)/\Room k X.A/\W.keepIn X.K (.ref a)=true/\z3R X.K fd ps []
end
end Mi
namespace Mi
open PySem L2 PySem.Spec
open PyProof.Rows (envOfC)
section
variable{G:Gx}{ρ ρ':Nat->Addr}{H H':Hp}
variable{F:Fy}{σv tv:List (Option V)}{s:Stt}{np:Nat}
theorem se_callH{X:Cx}{e:Expr}{es:List Expr}{pos p:Pos}{CX:CXT}{k:Nat}{fa:Addr}{fd:FuncData}{ps:List Str}{x:Str}{E:XK}{f:FM}{ms:List (M D)}(hk:X.K=G.K)(Fn:z4J X.prog X.w X.K X.mg X.base CX k fa fd ps (spM G ps.length f))(hr:z2x k X.A)(hg:Gl X x)(hm:X.mg x=some (.ref fa))(hkp:W.keepIn X.K (.ref fa)=true)(hb:z3R X.K fd ps [])(hx:z3p CX X E)
 (ha:SA X G F (e::es) (mArgs ms)) (hln:ms.length=ps.length) (hdb:(x==("__debug__" :Str))=false:=by decide) (he:starEach (e::es) X.env=(false,eval e X.env)::starEach es X.env:=by rfl) (hpl:(backTo pos (starEach es X.env)).any (·.1)=false:=by rfl):
 SE X G F (.Call (.Name x p) (e::es) [] pos) (z03 f ms):=by
 refine PE.imp0 (zc0 Fn hr hg hm hkp hb .nil hx ha hdb he hpl) fun σ H Q ⟨tv,hs,ρ,s,M,W⟩=>⟨tv,hs,ρ,s,M, ?_⟩
 unfold z03 bd at W
 cases e1:mArgs ms s with
 |ex d s1=>rw[e1] at W;exact W
 |no=>rw[e1] at W;exact W
 |ok ts s1=>
  rw[e1] at W
  intro ρ1 vs H1 M1
  rw[List.append_nil]
  exact z7s (by rw[<-M1.rd.length,z5w ms s ts s1 e1,hln]) M1 W
theorem fn_H{P:Program}{w:World}{K:W.Frag}{mg:Str->Option Value}{base:Heap}{x qual:Str}{st:Stmt}{fa:Addr}{fd:FuncData}{N ps:List Str}{k:Nat}{mb:MS}(Fn:Fun K x qual st fa fd)(S:z05 N ps (z01 st))(hG:G.K=K)
 (hb: ∀(cdv:Value) (A:Around) (outer:List Env) (s:Shared) (H:Hp) (E:XK) (F:Fy),z2x k (A.deeper (envOfC qual (z01 st) s.heap.objs.size fa cdv))->SSs (cxH CX0 P w K mg base N qual (z01 st) fa cdv A outer s H E).nox G F (z0Q st) mb):
 z4J P w K mg base CX0 (k+1) fa fd ps (spM G ps.length (runF N.length mb)):=by
 refine Fn.okH S (fun vs H Q E h=>h.1) fun cdv A outer s H vs Q E hr h=> ?_
 obtain⟨hl,ρ,n,ts,r,inj,dom,lb,kd,W⟩:=h
 refine⟨_,hb cdv A outer s H E (z82 G ρ n ts vs H lb dom) hr,vs.map some,List.suffix_refl _,ρ,{σ:=ts.map some++List.replicate (N.length -ts.length) none,tm:=ts.map some,n:=n}, ?_, ?_⟩
 ·obtain⟨r1,r2⟩:=RDs.sl r
  have hlen:=r.length
  have sub: ∀l∈z1p {σ:=ts.map some++List.replicate (N.length -ts.length) none,tm:=ts.map some,n:=n},l∈z02 ts:=fun l h=>by
   rcases List.mem_append.mp h with h|h
   ·have h:l∈z0b (ts.map some++List.replicate (N.length -ts.length) none):=h
    rw[z0f] at h
    rcases List.mem_append.mp h with h|h
    ·rw[<-r2];exact h
    ·exact absurd h (z3t _)
   ·rw[<-r2];exact h
  refine⟨?_,r1,inj,dom,fun l h=>lb l (sub l h),fun l h=> .inl ⟨l,sub l h,rfl⟩,fun a o e=>⟨⟨o,e⟩,fun _=>e⟩,kd,fun l hl z=>z.2 l hl rfl,⟨Nat.le_refl _,fun l _=>rfl⟩⟩
  show Sl G ρ H _ (vs.map some++List.replicate (N.length -vs.length) none)
  rw[<-hlen]
  exact r1.append (Sl.none_map _)
 ·unfold runF at W
  cases e:mb {σ:=ts.map some++List.replicate (N.length -ts.length) none,tm:=ts.map some,n:=n} with
  |nx s'=>
   simp only[e] at W
   cases ea:z08 s'.tm with
   |none=>simp only[ea] at W
   |some ts'=>
    simp only[ea] at W
    intro ρ' σv' H' M
    obtain⟨P,_⟩:=z30 inj M ea
    exact W ρ' .non H' P (by simp only[RD]) fun l h=>by simp[labs] at h
  |rt t s'=>
   simp only[e] at W
   cases ea:z08 s'.tm with
   |none=>simp only[ea] at W
   |some ts'=>
    simp only[ea] at W
    intro ρ' σv' v H' M
    obtain⟨P,own⟩:=z30 inj M.m ea
    exact W ρ' v H' P M.rd1 fun l h=>⟨(M.lb1 l h).1,own l (M.lb1 l h).1 (M.lb1 l h).2⟩
  |bk s'=>simp only[e] at W
  |ct s'=>simp only[e] at W
  |ex d s'=>
   simp only[e] at W
   cases ea:z08 s'.tm with
   |none=>simp only[ea] at W
   |some ts'=>simp only[ea] at W
  |no=>simp only[e] at W
end
section
variable{X:Cx}{G:Gx}{F:Fy}
noncomputable def cntD:D->List D->M D
 | .lst _ ds,[.bool k]=>match z1s ds with|some bs=>rt (.int (bs.count k:Nat))|none=>fl
 |_,_=>fl
noncomputable def idxD:D->List D->M D
 | .lst _ ds,[.bool k]=>match z1s ds with|some bs=>if k∈bs then rt (.int (bs.idxOf k:Nat)) else fl|none=>fl
 |_,_=>fl
theorem zg2:MtOK G F (zcC G.K) cntD:=by
 intro ρ s t ts v vs H σv tv Q M W
 obtain⟨h1,h2,b1,b2⟩:=M.hd
 unfold cntD at W
 split at W
 ·rename_i l ds k
  cases e1:z1s ds with
  |none=>rw[e1] at W;exact False.elim W
  |some bs=>
   rw[e1] at W
   obtain⟨p,xs,rfl,s1,r1,_⟩:=h1.lstq (ds:=ds) rfl
   rw[z4n r1 e1] at s1
   simp only[RDs,RD] at h2
   obtain⟨u,q,rfl,rfl,rfl⟩:=h2
   exact⟨p,bs,k,rfl,rfl,s1,fun _=>W.flat M.m rfl⟩
 ·exact wfl W
theorem zg3:MtOK G F (zcD G.K) idxD:=by
 intro ρ s t ts v vs H σv tv Q M W
 obtain⟨h1,h2,b1,b2⟩:=M.hd
 unfold idxD at W
 split at W
 ·rename_i l ds k
  cases e1:z1s ds with
  |none=>rw[e1] at W;exact False.elim W
  |some bs=>
   rw[e1] at W
   by_cases hk:k∈bs
   ·simp only[if_pos hk] at W
    obtain⟨p,xs,rfl,s1,r1,_⟩:=h1.lstq (ds:=ds) rfl
    rw[z4n r1 e1] at s1
    simp only[RDs,RD] at h2
    obtain⟨u,q,rfl,rfl,rfl⟩:=h2
    exact⟨p,bs,k,rfl,rfl,s1,hk,fun _=>W.flat M.m rfl⟩
   ·simp only[if_neg hk] at W;exact False.elim W
 ·exact wfl W
theorem zc1(hk:X.K=G.K):Cl X G F "list.count" cntD:=⟨_,hk▸zbY,zg2⟩
theorem zc2(hk:X.K=G.K):Cl X G F "list.index" idxD:=⟨_,hk▸zbZ,zg3⟩
end
end Mi
namespace Mi
open PySem L2 PySem.Spec
noncomputable def z7y:D->Option Key
 | .int i=>some (.inl i)
 | .str x=>some (.inr x)
 |_=>none
section
variable{G:Gx}{ρ:Nat->Addr}{H:Hp}
theorem z8O{d:D}{v:V}{k:Key}(h:RD G ρ H d v)(e:z7y d=some k):v=kV k/\d=keyD k:=by
 cases d<;>simp only[z7y] at e<;>cases e<;>(simp only[RD] at h;exact⟨h,rfl⟩)
end
section
variable{X:Cx}{G:Gx}{F:Fy}{a b e:Expr}{ma mb:M D}{pos:Pos}
theorem zdO(hu:X.A.units+64<cLine):OpR X (compareOp .NotIn) (fun y x H Q=> ∃a o,x= .ref a/\DGet H a y o/\Q (.bl (!o.isSome)) H):=by
 intro pins s σ H y x iv u Q I ry rx h
 obtain⟨a,o,rfl,g,q⟩:=h
 obtain rfl:u=Value.ref a:=rx
 exact zdk (show X.A.units+1<cLine by lia) I g ry fun s3 I3=>⟨.bl (!o.isSome),H,I3,rfl,q⟩
theorem z8P: ∀k:List Key,z02 (k.map keyD)=[]
 |[]=>rfl
 |k::ks=>by simp only[List.map_cons,z02,z8P ks];cases k<;>rfl
end
end Mi
namespace Mi
open PySem L2
end Mi
namespace PySem
end PySem
namespace L2
open PySem PySem.Spec PyProof.Rows
end L2
namespace Mi
open PySem L2 PySem.Spec
section
variable{G:Gx}{ρ:Nat->Addr}{H:Hp}
noncomputable def rdP:D->Option (List D×List D)
 | .dct _ (.non::ks) vs=>some (ks,vs)
 |_=>none
theorem RD.rdp{t:D}{ks vs:List D}{v:V}(h:RD G ρ H t v)(e:rdP t=some (ks,vs)): ∃a kvs,v= .ref a/\Rd H a (.dK kvs)/\ks=kvs.map (fun p:Key×V=>keyD p.1)/\RDs G ρ H vs (kvs.map (·.2))/\∀l∈z02 vs,l∈labs t:=by
 unfold rdP at e
 split at e
 ·rename_i l ks' vs'
  cases e
  simp only[RD] at h
  obtain⟨e,⟨kvs,s,s2,r⟩|⟨kvs,s,s2,r⟩⟩:=h
  ·cases s2
   exact⟨ρ l,kvs,e, .inl s,rfl,r,fun j hj=>by simp only[labs];exact List.mem_cons_of_mem _ (List.mem_append_right _ hj)⟩
  ·cases kvs with
   |nil=>cases s2
   |cons p q=>cases s2
 ·cases e
theorem z7z(k:Key):z7y (keyD k)=some k:=by cases k<;>rfl
noncomputable def z57:List D->List D->Key->Option D
 |d::ks,v::vs,k=>if z7y d=some k then some v else z57 ks vs k
 |_,_,_=>none
theorem z4L{k:Key}: ∀(kvs:List (Key×V)) (vs:List D) (t:D),RDs G ρ H vs (kvs.map (·.2))->z57 (kvs.map fun p=>keyD p.1) vs k=some t->∃v,valV kvs k=some v/\RD G ρ H t v/\t∈vs
 |[],_,_,_,e=>by simp only[List.map_nil,z57] at e;cases e
 |p::kvs,[],_,_,e=>by simp only[List.map_cons,z57] at e;cases e
 |p::kvs,w::vs,t,h,e=>by
  simp only[List.map_cons,RDs] at h
  obtain⟨x,r,e1,h1,h2⟩:=h
  cases e1
  simp only[List.map_cons,z57,z7z,Option.some.injEq] at e
  by_cases hk:p.1=k
  ·rw[if_pos hk] at e;cases e
   exact⟨_,z6E hk,h1,List.mem_cons_self ..⟩
  ·rw[if_neg hk] at e
   obtain⟨v,a,b,c⟩:=z4L kvs vs t h2 e
   exact⟨v,by rw[z5e hk];exact a,b,List.mem_cons_of_mem _ c⟩
theorem z6t{k:Key}: ∀(kvs:List (Key×V)) (vs:List D),RDs G ρ H vs (kvs.map (·.2))->z57 (kvs.map fun p=>keyD p.1) vs k=none->valV kvs k=none
 |[],_,_,_=>rfl
 |p::kvs,[],h,_=>by simp only[List.map_cons,RDs] at h;cases h
 |p::kvs,w::vs,h,e=>by
  simp only[List.map_cons,RDs] at h
  obtain⟨x,r,e1,h1,h2⟩:=h
  cases e1
  simp only[List.map_cons,z57,z7z,Option.some.injEq] at e
  by_cases hk:p.1=k
  ·rw[if_pos hk] at e;cases e
  ·rw[if_neg hk] at e
   rw[z5e hk];exact z6t kvs vs h2 e
theorem zhP{k:Key}{kvs:List (Key×V)}{vs:List D}(r:RDs G ρ H vs (kvs.map (·.2))):(z57 (kvs.map fun p=>keyD p.1) vs k).isSome=(valV kvs k).isSome:=by
 cases ef:z57 (kvs.map fun p=>keyD p.1) vs k with
 |none=>rw[z6t kvs vs r ef];rfl
 |some d=>obtain⟨w,hv,_⟩:=z4L kvs vs d r ef;rw[hv];rfl
end
section
variable{X:Cx}{G:Gx}{F:Fy}{a b e:Expr}{ma mb:M D}{pos:Pos}
noncomputable def dgtP(o t:D):M D:=match rdP o with
 |some (ks,vs)=>match z7y t with
  |some k=>(match z57 ks vs k with|some d=>rt d|none=>fl)
  |none=>fl
 |none=>fl
theorem zdP:OpOK G F (fun x y H Q=> ∃a v,x= .ref a/\DGet H a y (some v)/\Q v H) dgtP:=by
 intro ρ s t t' v u H σv tv Q M W
 obtain⟨h1,h2⟩:=M.rd2
 obtain⟨l1,l2⟩:=M.lb2
 unfold dgtP at W
 cases er:rdP t with
 |none=>rw[er] at W;exact False.elim W
 |some p=>
  obtain⟨ks,vs⟩:=p
  rw[er] at W
  dsimp only at W
  cases ek:z7y t' with
  |none=>rw[ek] at W;exact False.elim W
  |some k=>
   rw[ek] at W
   dsimp only at W
   obtain⟨a,kvs,rfl,hx,rfl,r,sub⟩:=h1.rdp er
   obtain⟨rfl,_⟩:=z8O h2 ek
   cases ef:z57 (kvs.map fun p=>keyD p.1) vs k with
   |none=>rw[ef] at W;exact False.elim W
   |some d=>
    rw[ef] at W
    obtain⟨w,hv,hd,hm⟩:=z4L kvs vs d r ef
    exact⟨a,w,rfl, .inl ⟨kvs,k,hx,rfl,hv.symm⟩,fun _=>W.out M.m hd fun j hj=>l1 j (sub j (labsL_mem hm j hj))⟩
theorem se_dgtP(hk:X.K=G.K)(hu:X.A.units+64<cLine)(ha:SE X G F a ma)(hb:SE X G F b mb)(hs:z3q b):SE X G F (.Subscript a b pos) (mBin ma mb dgtP):=
 PE.imp hk (zdn (show X.A.units+1<cLine by lia) ha hb hs) fun _ _ _ h=>zac zdP h
noncomputable def zaw(t o:D):M D:=match rdP o with
 |some (ks,vs)=>match z7y t with
  |some k=>rt (.bool (!(z57 ks vs k).isSome))
  |none=>fl
 |none=>fl
theorem zc3:z2w G F (fun y x H Q=> ∃a o,x= .ref a/\DGet H a y o/\Q (.bl (!o.isSome)) H) zaw:=by
 intro ρ s t t' v u H σv tv Q M W
 obtain⟨h1,h2⟩:=M.rd2
 unfold zaw at W
 cases er:rdP t' with
 |none=>rw[er] at W;exact False.elim W
 |some p=>
  obtain⟨ks,vs⟩:=p
  rw[er] at W
  dsimp only at W
  cases ek:z7y t with
  |none=>rw[ek] at W;exact False.elim W
  |some k=>
   rw[ek] at W
   dsimp only at W
   obtain⟨a,kvs,rfl,hx,rfl,r,sub⟩:=h2.rdp er
   obtain⟨rfl,_⟩:=z8O h1 ek
   refine⟨a,_,rfl, .inl ⟨kvs,k,hx,rfl,rfl⟩, ?_⟩
   rw[<-zhP r]
   exact W.flat M.m rfl
theorem zc4(hu:X.A.units+64<cLine):Cm X G F .NotIn zaw:=⟨_,zdO hu,zc3⟩
noncomputable def dcM(ks:List Key)(ds:List D):M D:=fun s=> .ok (.dct s.n (.non::ks.map keyD) ds) s.nxt
noncomputable def cVs:List D->Option (List V)
 |[]=>some []
 |d::ds=>match cV d,cVs ds with
  |some v,some vs=>some (v::vs)
  |_,_=>none
theorem zax{ρ:Nat->Addr}{H:Hp}: ∀{ds:List D} {vs:List V},cVs ds=some vs->RDs G ρ H ds vs/\z02 ds=[]
 |[],vs,e=>by simp only[cVs] at e;cases e;exact⟨by simp only[RDs],rfl⟩
 |d::ds,vs,e=>by
  simp only[cVs] at e
  cases e1:cV d with
  |none=>rw[e1] at e;cases e
  |some v=>
   rw[e1] at e
   cases e2:cVs ds with
   |none=>rw[e2] at e;cases e
   |some ws=>
    rw[e2] at e
    cases e
    obtain⟨a1,a2⟩:=z7Y (G:=G) (ρ:=ρ) (H:=H) e1
    obtain⟨b1,b2⟩:=zax (ρ:=ρ) (H:=H) e2
    exact⟨by simp only[RDs];exact⟨_,_,rfl,a1,b1⟩,by simp only[z02,a2,b2,List.append_nil]⟩
theorem z8Q{σ:L2.St}{H:Hp}: ∀(kvs:List (Key×V)) (Q:List (V×V)->Hp->Prop),Q (kvs.map fun kv=>(kV kv.1,kv.2)) H->z8z (kvs.map fun kv=>(tC (kV kv.1),tC kv.2)) σ H Q
 |[],Q,h=>h
 |kv::r,Q,h=>z8Q r (fun ps H3=>Q ((kV kv.1,kv.2)::ps) H3) h
theorem z8R: ∀(more kvs:List (Key×V)),(kvs.map (·.1)++more.map (·.1)).Nodup->z4Y kvs more=kvs++more
 |[],kvs,_=>by show kvs=kvs++[];rw[List.append_nil]
 |p::r,kvs,h=>by
  have h1:putK kvs p.1 p.2=kvs++[p]:=by
   unfold putK
   rw[if_neg]
   intro hz
   rw[List.any_eq_true] at hz
   obtain⟨q,hq,e⟩:=hz
   have e:=of_decide_eq_true e
   have hn:=(List.nodup_append.mp h).2.2
   exact hn q.1 (List.mem_map.mpr ⟨q,hq,rfl⟩) p.1 (by rw[List.map_cons];exact List.mem_cons_self ..) e
  have h2:=z8R r (kvs++[p]) (by simpa only[List.map_append,List.map_cons,List.map_nil,List.append_assoc,List.singleton_append] using h)
  show z4Y (putK kvs p.1 p.2) r=_
  rw[h1,h2,List.append_assoc,List.singleton_append]
theorem se_dispC{keys:List (Option Expr)}{values:List Expr}{ds:List D}(kvs:List (Key×V))(hk:X.K=G.K)(h:PPs X pos keys values (kvs.map fun kv=>(tC (kV kv.1),tC kv.2)))(hall:keys.all (·.isSome)=true)(hl:keys.length=values.length)(h0:keys≠[])
 (h15:keys.length<=15) (hl2:kvs.length<=15) (hn:(kvs.map (·.1)).Nodup) (hd:cVs ds=some (kvs.map (·.2))):SE X G F (.Dict keys values pos) (dcM (kvs.map (·.1)) ds):=
 PE.imp hk (zdp h hall hl h0 h15) fun σ H Q ⟨tv,hs,ρ,s,M,W⟩ p hp=>by
  refine z8Q kvs _ ⟨z0h,kvs,rfl,hl2, ?_⟩
  rw[show z4Y [] kvs=kvs from z8R kvs [] hn,zcZ]
  intro k
  refine wM.out (ρ:=ext ρ s.n p) W (M.new hp k) ?_ fun l hl=> ?_
  ·simp only[RD]
   rw[z1z]
   exact⟨rfl, .inl ⟨kvs,z0h,by rw[List.map_map];rfl,(zax hd).1⟩⟩
  ·have hz: ∀ks:List Key,z02 (ks.map keyD)=[]:=z8P
   simp only[labs,z02,hz,(zax (G:=G) (ρ:=ρ) (H:=H) hd).2,List.append_nil,List.mem_singleton] at hl
   rw[hl]
   exact⟨Nat.lt_succ_self _,by rw[z1z];exact .inr (M.fresh0 hp)⟩
theorem ss_setN{i:Nat}{x:Str}{p:Pos}{m:M D}(hN:X.N.Nodup)(hi:X.N[i]? =some x)(hx:Loc X.env.scope x)(hf:X.fn x=true\/X.env.scope.names.lookup x=some .local)(he:SE X G F e m)(hs:swapsWith e (some (.Name x p)) pos.line X.env=pure false:=by rfl):SS X G F (.Assign [.Name x p] e pos) (sAsg (.nm i) m):=
 ss_set (fun{te} h=>z7d hN hi hx h hs hf) he
end
end Mi
namespace My
open PySem L2 PySem.Spec PyProof.Rows Mi
@[irreducible] noncomputable def SE(X:Cx)(G:Gx)(F:Fy)(e:Expr)(m:M D):Prop:=Mi.SE X G F e m
theorem eSE(X:Cx)(G:Gx)(F:Fy)(e:Expr)(m:M D):SE X G F e m=Mi.SE X G F e m:=by unfold SE;rfl
@[irreducible] noncomputable def SA(X:Cx)(G:Gx)(F:Fy)(e:List Expr)(m:M (List D)):Prop:=Mi.SA X G F e m
theorem eSA(X:Cx)(G:Gx)(F:Fy)(e:List Expr)(m:M (List D)):SA X G F e m=Mi.SA X G F e m:=by unfold SA;rfl
@[irreducible] noncomputable def SB(X:Cx)(G:Gx)(F:Fy)(e:Expr)(m:M Bool):Prop:=Mi.SB X G F e m
theorem eSB(X:Cx)(G:Gx)(F:Fy)(e:Expr)(m:M Bool):SB X G F e m=Mi.SB X G F e m:=by unfold SB;rfl
@[irreducible] noncomputable def SW(X:Cx)(G:Gx)(F:Fy)(e:Expr)(m:M Bool):Prop:=Mi.SW X G F e m
theorem eSW(X:Cx)(G:Gx)(F:Fy)(e:Expr)(m:M Bool):SW X G F e m=Mi.SW X G F e m:=by unfold SW;rfl
@[irreducible] noncomputable def SS(X:Cx)(G:Gx)(F:Fy)(e:Stmt)(m:MS):Prop:=Mi.SS X G F e m
theorem eSS(X:Cx)(G:Gx)(F:Fy)(e:Stmt)(m:MS):SS X G F e m=Mi.SS X G F e m:=by unfold SS;rfl
@[irreducible] noncomputable def SSs(X:Cx)(G:Gx)(F:Fy)(e:List Stmt)(m:MS):Prop:=Mi.SSs X G F e m
theorem eSSs(X:Cx)(G:Gx)(F:Fy)(e:List Stmt)(m:MS):SSs X G F e m=Mi.SSs X G F e m:=by unfold SSs;rfl
@[irreducible] noncomputable def SG(X:Cx)(G:Gx)(F:Fy)(e:Expr)(m:Tg):Prop:=Mi.SG X G F e m
theorem eSG(X:Cx)(G:Gx)(F:Fy)(e:Expr)(m:Tg):SG X G F e m=Mi.SG X G F e m:=by unfold SG;rfl
@[irreducible] noncomputable def SGs(X:Cx)(G:Gx)(F:Fy)(e:List Expr)(m:List Tg):Prop:=Mi.SGs X G F e m
theorem eSGs(X:Cx)(G:Gx)(F:Fy)(e:List Expr)(m:List Tg):SGs X G F e m=Mi.SGs X G F e m:=by unfold SGs;rfl
@[irreducible] noncomputable def SI(X:Cx)(G:Gx)(F:Fy)(tg e:Expr)(m:M ItK):Prop:=Mi.SI X G F tg e m
theorem eSI(X:Cx)(G:Gx)(F:Fy)(tg e:Expr)(m:M ItK):SI X G F tg e m=Mi.SI X G F tg e m:=by unfold SI;rfl
@[irreducible] noncomputable def SO(X:Cx)(G:Gx)(F:Fy)(e:Option Expr)(m:Option (M D)):Prop:=Mi.SO X G F e m
theorem eSO(X:Cx)(G:Gx)(F:Fy)(e:Option Expr)(m:Option (M D)):SO X G F e m=Mi.SO X G F e m:=by unfold SO;rfl
@[irreducible] noncomputable def STs(X:Cx)(G:Gx)(F:Fy)(e:List Expr)(m:M Bool):Prop:=Mi.STs X G F e m
theorem eSTs(X:Cx)(G:Gx)(F:Fy)(e:List Expr)(m:M Bool):STs X G F e m=Mi.STs X G F e m:=by unfold STs;rfl
local macro_rules | `(tactic| walk_at "go") => `(tactic| (simp only [eSE, eSA, eSB, eSW, eSS, eSSs, eSG, eSGs, eSI, eSO, eSTs] at *))
section
variable{X:Cx}{G:Gx}{F:Fy}{e a b c:Expr}{pos:Pos}
theorem se_var(i:Nat){x:Str}(hk:X.K=G.K)(h:PE X (.Name x pos) (tVar i)):SE X G F (.Name x pos) (mVar i):=by
 walk_at "go"
 exact Mi.se_var i hk h
theorem se_c{d:D}{v:V}(hk:X.K=G.K)(h:PE X e (tC v))(hd:cV d=some v:=by rfl):SE X G F e (mC d):=by
 walk_at "go"
 exact Mi.se_c hk h hd
theorem so_none:SO X G F none none:=by
 walk_at "go"
 exact Mi.so_none
theorem so_some{m:M D}(h:SE X G F e m):SO X G F (some e) (some m):=by
 walk_at "go"
 exact Mi.so_some h
theorem se_slice{lo hi:Option Expr}{p2:Pos}{m:M D}{ml mh:Option (M D)}(hk:X.K=G.K)(he:SE X G F e m)(hl:SO X G F lo ml)(hh:SO X G F hi mh):SE X G F (.Subscript e (.Slice lo hi none p2) pos) (mSl m ml mh):=by
 walk_at "go"
 exact Mi.se_slice hk he hl hh
theorem se_tup{es:List Expr}{ms:List (M D)}{x1}(hk:X.K=G.K)(h:SA X G F es (mArgs ms)):SE X G F (.Tuple es x1 pos) (mCB ms tupD):=by
 walk_at "go"
 exact Mi.se_tup hk h
theorem se_lst{es:List Expr}{ms:List (M D)}(hk:X.K=G.K)(h:SA X G F es (mArgs ms)):SE X G F (.List es pos) (mCB ms lstM):=by
 walk_at "go"
 exact Mi.se_lst hk h
theorem sb_truth{m:M D}(hk:X.K=G.K)(ha:SE X G F a m)(he: ∀whole,isTrue a X.env whole=(do let v<-whole;standAt a.pos;holding [v] (truthy v)):=by intro _;rfl):SB X G F a (z0R m):=by
 walk_at "go"
 exact Mi.sb_truth hk ha he
theorem SW.sb{m:M Bool}(h:SW X G F e m):SB X G F e m:=by
 walk_at "go"
 exact Mi.SW.sb h
theorem sw_and1{m:M Bool}(h:SB X G F a m):SW X G F (.BoolOp .And [a] pos) m:=by
 walk_at "go"
 exact Mi.sw_and1 h
theorem sw_or1{m:M Bool}(h:SB X G F a m):SW X G F (.BoolOp .Or [a] pos) m:=by
 walk_at "go"
 exact Mi.sw_or1 h
theorem sw_and{rest:List Expr}{m m':M Bool}(ha:SB X G F a m)(hb:SW X G F (.BoolOp .And (b::rest) pos) m'):SW X G F (.BoolOp .And (a::b::rest) pos) (mAnd m m'):=by
 walk_at "go"
 exact Mi.sw_and ha hb
theorem sw_or{rest:List Expr}{m m':M Bool}(ha:SB X G F a m)(hb:SW X G F (.BoolOp .Or (b::rest) pos) m'):SW X G F (.BoolOp .Or (a::b::rest) pos) (mOr m m'):=by
 walk_at "go"
 exact Mi.sw_or ha hb
theorem sb_not{m:M Bool}(ha:SB X G F a m):SB X G F (.UnaryOp .Not a pos) (mNot m):=by
 walk_at "go"
 exact Mi.sb_not ha
theorem se_one{op}{m:M D}(h:SE X G F a m):SE X G F (.BoolOp op [a] pos) m:=by
 walk_at "go"
 exact Mi.se_one h
theorem se_and{rest:List Expr}{m m':M D}(ha:SE X G F a m)(hb:SE X G F (.BoolOp .And (b::rest) pos) m'):SE X G F (.BoolOp .And (a::b::rest) pos) (z3r m m'):=by
 walk_at "go"
 exact Mi.se_and ha hb
theorem se_not{m:M D}(ha:SE X G F a m):SE X G F (.UnaryOp .Not a pos) (z7p m):=by
 walk_at "go"
 exact Mi.se_not ha
theorem se_ifExp{mc:M Bool}{m m':M D}(hc:SB X G F c mc)(ha:SE X G F a m)(hb:SE X G F b m'):SE X G F (.IfExp c a b pos) (mIf mc m m'):=by
 walk_at "go"
 exact Mi.se_ifExp hc ha hb
theorem se_isi{p:Pos}{x y:Expr}{T:String}{m:M D}(hk:X.K=G.K)(hT:T= "int" \/T= "bool" \/T= "tuple" \/T= "list" \/T= "str")(hgl:Gl X "isinstance")(hm:X.mg "isinstance" =none)(ha:SE X G F x m)(hy:PE X y (tC (.ty T)))
 (he:starEach [x,y] X.env=(false,eval x X.env)::starEach [y] X.env:=by rfl) (he2:starEach [y] X.env=(false,eval y X.env)::starEach [] X.env:=by rfl) (hpl:(backTo pos (starEach [y] X.env)).any (·.1)=false:=by rfl):SE X G F (.Call (.Name "isinstance" p) [x,y] [] pos) (mIsi T m):=by
 walk_at "go"
 exact Mi.se_isi hk hT hgl hm ha hy he he2 hpl
end
section
variable{X:Cx}{G:Gx}{F:Fy}{e a b c:Expr}{st:Stmt}{sts rest:List Stmt}{pos:Pos}
theorem ss_nil:SSs X G F [] sNx:=by
 walk_at "go"
 exact Mi.ss_nil
theorem ss_cons{m m':MS}(h1:SS X G F st m)(h2:SSs X G F rest m'):SSs X G F (st::rest) (seqS m m'):=by
 walk_at "go"
 exact Mi.ss_cons h1 h2
theorem ss_one{m:MS}(h1:SS X G F st m):SSs X G F [st] m:=by
 walk_at "go"
 exact Mi.ss_one h1
theorem ss_expr{m:M D}(he:SE X G F e m)(hs:swapsWith e none pos.line X.env=pure false:=by rfl):SS X G F (.Expr e pos) (z6H m):=by
 walk_at "go"
 exact Mi.ss_expr he hs
theorem ss_ret{m:M D}(he:SE X G F e m):SS X G F (.Return (some e) pos) (sRet m):=by
 walk_at "go"
 exact Mi.ss_ret he
theorem ss_if{x y:List Stmt}{mc:M Bool}{m m':MS}(hc:SB X G F c mc)(ha:SSs X G F x m)(hb:SSs X G F y m'):SS X G F (.If c x y pos) (sIf mc m m'):=by
 walk_at "go"
 exact Mi.ss_if hc ha hb
theorem sg_name{i:Nat}{x:Str}{p:Pos}(h:PG X (.Name x p) (z9d i)):SG X G F (.Name x p) (.nm i):=by
 walk_at "go"
 exact Mi.sg_name h
theorem sgs_nil:SGs X G F [] []:=by
 walk_at "go"
 exact Mi.sgs_nil
theorem sgs_cons{es:List Expr}{g:Tg}{gs:List Tg}(h1:SG X G F e g)(h2:SGs X G F es gs)(hs:(assignEach (e::es) X.env).map (·.2)=assign e X.env::(assignEach es X.env).map (·.2):=by rfl):SGs X G F (e::es) (g::gs):=by
 walk_at "go"
 exact Mi.sgs_cons h1 h2 hs
theorem sg_tup{es:List Expr}{k:Nat}{gs:List Tg}(hk:X.K=G.K)(hc:X.calm=true)(h:SGs X G F es gs)(hn:(assignEach es X.env).length=gs.length:=by rfl)(hst:(assignEach es X.env).findIdx? (·.1)=none:=by rfl):SG X G F (.Tuple es k pos) (.tp gs):=by
 walk_at "go"
 exact Mi.sg_tup hk hc h hn hst
theorem ss_asg{tg:Expr}{g:Tg}{m:M D}(he:SE X G F e m)(hg:SG X G F tg g)(hs:swapsWithSole [tg] e pos.line X.env=pure false:=by rfl)(hw:swappedStores [tg] e X.env=pure none:=by rfl)
 (h1:(assignEach [tg] X.env).map (·.2)=[assign tg X.env]:=by rfl):SS X G F (.Assign [tg] e pos) (sAsg g m):=by
 walk_at "go"
 exact Mi.ss_asg he hg hs hw h1
theorem ss_set{i:Nat}{x:Str}{p:Pos}{m:M D}(h: ∀{te:TE},PE X e te->PS X (.Assign [.Name x p] e pos) (tAsg te (z9d i)))(he:SE X G F e m):SS X G F (.Assign [.Name x p] e pos) (sAsg (.nm i) m):=by
 walk_at "go"
 exact Mi.ss_set h he
end
section
variable{X:Cx}{G:Gx}{F:Fy}{e a b c tg iter:Expr}{pos:Pos}
theorem si_seq{m:M D}(hk:X.K=G.K)(h:SE X G F e m):SI X G F tg e (z1j m):=by
 walk_at "go"
 exact Mi.si_seq hk h
theorem si_rng1{p:Pos}{ms:List (M D)}(hg:Gl X "range")(hm:X.mg "range" =none)(ha:SA X G F [a] (mArgs ms))(hs:starEach [a] X.env=[(false,eval a X.env)]:=by rfl):SI X G F tg (.Call (.Name "range" p) [a] [] pos) (z3s ms):=by
 walk_at "go"
 exact Mi.si_rng1 hg hm ha hs
theorem si_rng2{p:Pos}{ms:List (M D)}(hg:Gl X "range")(hm:X.mg "range" =none)(ha:SA X G F [a,b] (mArgs ms))(hs:starEach [a,b] X.env=[(false,eval a X.env),(false,eval b X.env)]:=by rfl)(hs2:starEach [b] X.env=[(false,eval b X.env)]:=by rfl):SI X G F tg (.Call (.Name "range" p) [a,b] [] pos) (z80 ms):=by
 walk_at "go"
 exact Mi.si_rng2 hg hm ha hs hs2
theorem ss_for{body:List Stmt}{mi:M ItK}{g:Tg}{mb:MS}(hp:PassesOwn (model X.prog X.w) X.A X.env X.xe)(hc:X.calm=true)(hi:SI X G F tg iter mi)(hg:SG X G F tg g)(hb:SSs X G F body mb)(hst: ∀x,foldedSetIterable iter X.env x=pure x:=by intro _;rfl):SS X G F (.For tg iter body [] pos) (sFor mi g mb):=by
 walk_at "go"
 exact Mi.ss_for hp hc hi hg hb hst
end
section
variable{X:Cx}{G:Gx}{F:Fy}{e a b c tg iter elt:Expr}{pos:Pos}
theorem sts_nil:STs X G F [] (rt true):=by
 walk_at "go"
 exact Mi.sts_nil
theorem sts_one{m:M Bool}(h:SB X G F c m):STs X G F [c] m:=by
 walk_at "go"
 exact Mi.sts_one h
theorem se_comp{scope:Scope}{own frees:List Str}{ix:List Nat}{ifs:List Expr}{mi:M ItK}{g:Tg}{mt:M Bool}{me:M D}(hk:X.K=G.K)(hc:X.calm=true)(S:z1P X.env.scope scope own frees X.N ix)(hi:SI X G F tg iter mi)
 (hg: ∀(F:Fy) cl C s₀ H₀ fp pn,SG (z0T X scope own frees cl C s₀ H₀ fp pn) G F tg g) (ht: ∀(F:Fy) cl C s₀ H₀ fp pn,STs (z0T X scope own frees cl C s₀ H₀ fp pn) G F ifs mt) (he: ∀(F:Fy) cl C s₀ H₀ fp pn,SE (z0T X scope own frees cl C s₀ H₀ fp pn) G F elt me)
 (hs: ∀x,foldedSetIterable iter X.env x=pure x:=by intro _;rfl):SE X G F (.ListComp elt [⟨tg,iter,ifs,0⟩] scope pos) (z0t mi g mt me own.length ix):=by
 walk_at "go"
 exact Mi.se_comp hk hc S hi hg ht he hs
theorem ss_comp{y:Str}{py spos:Pos}{i:Nat}{scope:Scope}{own frees:List Str}{ix:List Nat}{ifs:List Expr}{mi:M ItK}{g:Tg}{mt:M Bool}{me:M D}(hk:X.K=G.K)(hN:X.N.Nodup)(hy:X.N[i]? =some y)(hx:Loc X.env.scope y)(hfn:X.fn y=true\/X.env.scope.names.lookup y=some .local)(hsw:swapsWith (.ListComp elt [⟨tg,iter,ifs,0⟩] scope pos) (some (.Name y py)) spos.line X.env=pure true)
 (hc:X.calm=true) (S:z1P X.env.scope scope own frees X.N ix) (hi:SI X G F tg iter mi)
 (hg: ∀(F:Fy) cl C s₀ H₀ fp pn,SG (z0T X scope own frees cl C s₀ H₀ fp pn) G F tg g) (ht: ∀(F:Fy) cl C s₀ H₀ fp pn,STs (z0T X scope own frees cl C s₀ H₀ fp pn) G F ifs mt) (he: ∀(F:Fy) cl C s₀ H₀ fp pn,SE (z0T X scope own frees cl C s₀ H₀ fp pn) G F elt me)
 (hs: ∀x,foldedSetIterable iter X.env x=pure x:=by intro _;rfl):SS X G F (.Assign [.Name y py] (.ListComp elt [⟨tg,iter,ifs,0⟩] scope pos) spos) (sAsg (.nm i) (z0t mi g mt me own.length ix)):=by
 walk_at "go"
 exact Mi.ss_comp hk hN hy hx hfn hsw hc S hi hg ht he hs
end
section
variable{G:Gx}{ρ:Nat->Addr}{H:Hp}
section
variable(k:KD G.K H){n:Nat}(inj: ∀i j,i<n->j<n->ρ i=ρ j->i=j)
include k inj
end
end
section
variable{G:Gx}{ρ ρ':Nat->Addr}{H H':Hp}
section
variable(k:KD G.K H){n:Nat}(inj: ∀i j,i<n->j<n->ρ i=ρ j->i=j){ts:List D}{vs:List V}(r:RDs G ρ H ts vs)(lb: ∀l∈z02 ts,l<n)
include k inj r lb
end
variable{F:Fy}{σv tv:List (Option V)}{s:Stt}{np:Nat}
theorem se_call{X:Cx}{e:Expr}{es:List Expr}{pos p:Pos}{CX:CXT}{k:Nat}{fa:Addr}{fd:FuncData}{ps:List Str}{x:Str}{E:XK}{f:FM}{ms:List (M D)}(hk:X.K=G.K)(Fn:FnOk X.prog X.w X.K X.mg X.base CX k fa fd ps (spM G ps.length f))(hr:Room k X.A)(hg:Gl X x)(hm:X.mg x=some (.ref fa))(hkp:W.keepIn X.K (.ref fa)=true)(hb:z3R X.K fd ps [])(hx:z3p CX X E)
 (ha:SA X G F (e::es) (mArgs ms)) (hln:ms.length=ps.length) (hdb:(x==("__debug__" :Str))=false:=by decide) (he:starEach (e::es) X.env=(false,eval e X.env)::starEach es X.env:=by rfl) (hpl:(backTo pos (starEach es X.env)).any (·.1)=false:=by rfl):
 SE X G F (.Call (.Name x p) (e::es) [] pos) (z03 f ms):=by
 walk_at "go"
 exact Mi.se_call hk Fn hr hg hm hkp hb hx ha hln hdb he hpl
theorem fn_M{P:Program}{w:World}{K:W.Frag}{mg:Str->Option Value}{base:Heap}{x qual:Str}{st:Stmt}{fa:Addr}{fd:FuncData}{N ps:List Str}{k:Nat}{mb:MS}(Fn:Fun K x qual st fa fd)(S:z05 N ps (z01 st))(hG:G.K=K)
 (hb: ∀(cdv:Value) (A:Around) (outer:List Env) (s:Shared) (H:Hp) (E:XK) (F:Fy),Room k (A.deeper (envOfC qual (z01 st) s.heap.objs.size fa cdv))->SSs (cxOf CX0 P w K mg base N qual (z01 st) fa cdv A outer s H E).nox G F (z0Q st) mb):
 FnOk P w K mg base CX0 (k+1) fa fd ps (spM G ps.length (runF N.length mb)):=by
 walk_at "go"
 exact Mi.fn_M Fn S hG hb
end
section
variable{X:Cx}{G:Gx}{F:Fy}{e o:Expr}{es:List Expr}{apos cpos:Pos}
theorem ss_setI{ob ix:Expr}{pos tpos:Pos}{mo mi me:M D}(he:SE X G F e me)(ho:SE X G F ob mo)(hi:SE X G F ix mi)(hg: ∀{to ti:TE},PE X ob to->PE X ix ti->PG X (.Subscript ob ix tpos) (gSub to ti zbz))(hs:swapsWithSole [.Subscript ob ix tpos] e pos.line X.env=pure false:=by rfl)(hw:swappedStores [.Subscript ob ix tpos] e X.env=pure none:=by rfl)
 (h1:(assignEach [.Subscript ob ix tpos] X.env).map (·.2)=[assign (.Subscript ob ix tpos) X.env]:=by rfl):SS X G F (.Assign [.Subscript ob ix tpos] e pos) (mTri me mo mi setD):=by
 walk_at "go"
 exact Mi.ss_setI he ho hi hg hs hw h1
end
section
variable{X:Cx}{G:Gx}{F:Fy}{e a b c:Expr}{pos:Pos}{ma mb mc m:M D}
theorem se_add(hk:X.K=G.K)(ha:SE X G F a ma)(hb:SE X G F b mb):SE X G F (.BinOp a .Add b pos) (mBin ma mb addD):=by
 walk_at "go"
 exact Mi.se_add hk ha hb
theorem se_sub(hk:X.K=G.K)(ha:SE X G F a ma)(hb:SE X G F b mb):SE X G F (.BinOp a .Sub b pos) (mBin ma mb subD):=by
 walk_at "go"
 exact Mi.se_sub hk ha hb
theorem se_mul(hk:X.K=G.K)(ha:SE X G F a ma)(hb:SE X G F b mb):SE X G F (.BinOp a .Mult b pos) (mBin ma mb mulD):=by
 walk_at "go"
 exact Mi.se_mul hk ha hb
theorem se_fdiv(hk:X.K=G.K)(ha:SE X G F a ma)(hb:SE X G F b mb):SE X G F (.BinOp a .FloorDiv b pos) (mBin ma mb z6a):=by
 walk_at "go"
 exact Mi.se_fdiv hk ha hb
theorem se_mod(hk:X.K=G.K)(ha:SE X G F a ma)(hb:SE X G F b mb):SE X G F (.BinOp a .Mod b pos) (mBin ma mb modD):=by
 walk_at "go"
 exact Mi.se_mod hk ha hb
theorem se_pow(hk:X.K=G.K)(ha:SE X G F a ma)(hb:SE X G F b mb):SE X G F (.BinOp a .Pow b pos) (mBin ma mb powD):=by
 walk_at "go"
 exact Mi.se_pow hk ha hb
theorem se_neg(hk:X.K=G.K)(ha:SE X G F a ma):SE X G F (.UnaryOp .USub a pos) (bd ma negD):=by
 walk_at "go"
 exact Mi.se_neg hk ha
theorem se_cmp{op:CmpOp}{g:D->D->M D}(hc:Cm X G F op g)(ha:SE X G F a ma)(hb:SE X G F b mb)(hm:behindInMarks op b=false):SE X G F (.Compare a [op] [b] pos) (mBin ma mb g):=by
 walk_at "go"
 exact Mi.se_cmp hc ha hb hm
theorem sb_cmp{op:CmpOp}{g:D->D->M D}(hc:Cm X G F op g)(ha:SE X G F a ma)(hb:SE X G F b mb)(hm:behindInMarks op b=false):SB X G F (.Compare a [op] [b] pos) (mBoo (mBin ma mb g)):=by
 walk_at "go"
 exact Mi.sb_cmp hc ha hb hm
theorem se_cmp2{op op':CmpOp}{g g':D->D->M D}(hc:Cm X G F op g)(hc':Cm X G F op' g')(ha:SE X G F a ma)(hb:SE X G F b mb)(hcc:SE X G F c mc)(hm:lastMarks [op,op'] [b,c]=false:=by with_unfolding_all rfl):SE X G F (.Compare a [op,op'] [b,c] pos) (z0y ma mb mc g g'):=by
 walk_at "go"
 exact Mi.se_cmp2 hc hc' ha hb hcc hm
theorem sb_cmp2{op op':CmpOp}{g g':D->D->M D}(hc:Cm X G F op g)(hc':Cm X G F op' g')(ha:SE X G F a ma)(hb:SE X G F b mb)(hcc:SE X G F c mc)(hm:lastMarks [op,op'] [b,c]=false:=by with_unfolding_all rfl):SB X G F (.Compare a [op,op'] [b,c] pos) (mBoo (z0y ma mb mc g g')):=by
 walk_at "go"
 exact Mi.sb_cmp2 hc hc' ha hb hcc hm
theorem se_idx(hk:X.K=G.K)(ha:SE X G F a ma)(hb:SE X G F b mb)(hs:z3q b):SE X G F (.Subscript a b pos) (mBin ma mb ixD):=by
 walk_at "go"
 exact Mi.se_idx hk ha hb hs
theorem se_cb{x:Str}{p:Pos}{es:List Expr}{ms:List (M D)}{g:List D->M D}{id:String}(hk:X.K=G.K)(hc:Cb X G F (.builtin id) g)(hgl:Gl X x)(hm:X.mg x=none)(hv:bootBuiltins x=some (.builtin id))(ha:SA X G F (e::es) (mArgs ms))(hn:x≠ "__name__" :=by decide)(hdb:(x==("__debug__" :Str))=false:=by decide)
 (he:starEach (e::es) X.env=(false,eval e X.env)::starEach es X.env:=by rfl) (hpl:(backTo pos (starEach es X.env)).any (·.1)=false:=by rfl):SE X G F (.Call (.Name x p) (e::es) [] pos) (mCB ms g):=by
 walk_at "go"
 exact Mi.se_cb hk hc hgl hm hv ha hn hdb he hpl
theorem se_ct{x:Str}{p:Pos}{es:List Expr}{ms:List (M D)}{g:List D->M D}{T:String}(hk:X.K=G.K)(hc:Cb X G F (.type T) g)(hgl:Gl X x)(hm:X.mg x=none)(hv:bootBuiltins x=some (.type T))(ha:SA X G F (e::es) (mArgs ms))(hn:x≠ "__name__" :=by decide)(hdb:(x==("__debug__" :Str))=false:=by decide)
 (he:starEach (e::es) X.env=(false,eval e X.env)::starEach es X.env:=by rfl) (hpl:(backTo pos (starEach es X.env)).any (·.1)=false:=by rfl):SE X G F (.Call (.Name x p) (e::es) [] pos) (mCB ms g):=by
 walk_at "go"
 exact Mi.se_ct hk hc hgl hm hv ha hn hdb he hpl
end
section
variable{X:Cx}{G:Gx}{F:Fy}{e o:Expr}{es:List Expr}{apos cpos:Pos}
theorem se_cl{name:Str}{id:String}{mo:M D}{ms:List (M D)}{g:D->List D->M D}(hk:X.K=G.K)(slot:Slot "list" name id)(hty:typeOf (.builtin id)=pure (.type "method_descriptor"))(hm:Cl X G F id g)(ho:SE X G F o mo)(ha:SA X G F (e::es) (mArgs ms))
 (hbase:attributeBase o name X.env (eval o X.env)=eval o X.env:=by rfl)
 (hfew:((backTo cpos (starEach (e::es) X.env)).all (fun x=> !x.1)&&(backToKw cpos (keywordEach [] X.env)).all (fun x=>x.1.isSome)
  &&decide ((e::es).length+([]:List Keyword).length+(if([]:List Keyword).isEmpty then 0 else 1)<30))=true:=by rfl)
 (hline:(apos.endLine==cpos.line)=true:=by rfl) (hs:starEach (e::es) X.env=(false,eval e X.env)::starEach es X.env:=by rfl) (hplain:(backTo cpos (starEach es X.env)).any (·.1)=false:=by rfl):SE X G F (.Call (.Attribute o name apos) (e::es) [] cpos) (z5x mo ms g):=by
 walk_at "go"
 exact Mi.se_cl hk slot hty hm ho ha hbase hfew hline hs hplain
end
section
variable{X:Cx}{G:Gx}{F:Fy}{a b tg:Expr}{pos:Pos}
theorem si_enm{p tpos:Pos}{elts:List Expr}{x1:Nat}{ms:List (M D)}(hk:X.K=G.K)(hg:Gl X "enumerate")(hm:X.mg "enumerate" =none)(ha:SA X G F [a] (mArgs ms))(hs:starEach [a] X.env=[(false,eval a X.env)]:=by rfl):SI X G F (.Tuple elts x1 tpos) (.Call (.Name "enumerate" p) [a] [] pos) (mEnm ms):=by
 walk_at "go"
 exact Mi.si_enm hk hg hm ha hs
theorem se_orX{rest:List Expr}{m m':M D}(hk:X.K=G.K)(ha:SE X G F a m)(hb:SE X G F (.BoolOp .Or (b::rest) pos) m'):SE X G F (.BoolOp .Or (a::b::rest) pos) (mOrX m m'):=by
 walk_at "go"
 exact Mi.se_orX hk ha hb
theorem ss_par{i j:Nat}{x y:Str}{px py pt:Pos}{kt k2 pt2}{ms:List (M D)}(hc:X.calm=true)(hN:X.N.Nodup)(hi:X.N[i]? =some x)(hj:X.N[j]? =some y)(hij:i≠j)
 (hx:X.env.scope.names.lookup x=some .local) (hy:X.env.scope.names.lookup y=some .local) (ha:SA X G F [a,b] (mArgs ms))
 (hw:swappedStores [.Tuple [.Name x px, .Name y py] kt pt] (.Tuple [a,b] k2 pt2) X.env=pure (some [x,y]):=by rfl)
 (hs:swapsWithSole [.Tuple [.Name x px, .Name y py] kt pt] (.Tuple [a,b] k2 pt2) pos.line X.env=pure false:=by rfl):
 SS X G F (.Assign [.Tuple [.Name x px, .Name y py] kt pt] (.Tuple [a,b] k2 pt2) pos) (sAsg (.tp [.nm i, .nm j]) (mCB ms tupD)):=by
 walk_at "go"
 exact Mi.ss_par hc hN hi hj hij hx hy ha hw hs
end
section
variable{X:Cx}{G:Gx}{F:Fy}{E:L2.St->XK}{C:Addr}{x y:Str}{np cpos pos p:Pos}{j:Nat}
theorem ss_raise(hh:X.A.handled=none)(hx:XP X G F E)(hr:z5z X E)(hcl:G.cl x=some C)(hg:Gl X x)(hm:X.mg x=some (.ref C))(hq:W.excIn X.K C bmV "ValueError.__new__" =true)(hd:(x==("__debug__" :Str))=false:=by decide):
 SS X G F (.Raise (some (.Call (.Name x np) [.Constant (.str y) j p] [] cpos)) none pos) (z2S x):=by
 walk_at "go"
 exact Mi.ss_raise hh hx hr hcl hg hm hq hd
end
section
variable{X:Cx}{G:Gx}{F:Fy}{E:L2.St->XK}{ρ:Nat->Addr}{H:Hp}{σv tv:List (Option V)}{s:Stt}{np:Nat}
theorem se_callX{e:Expr}{es:List Expr}{pos p:Pos}{k:Nat}{fa:Addr}{fd:FuncData}{ps:List Str}{x:Str}{f:FM}{ms:List (M D)}(hx:XP X G F E)(Fn:FnOk X.prog X.w X.K X.mg X.base (CX1 X.prog X.w) k fa fd ps (spX G ps.length f))(hr:Room k X.A)(hg:Gl X x)(hm:X.mg x=some (.ref fa))(hkp:W.keepIn X.K (.ref fa)=true)(hb:z3R X.K fd ps [])
 (ha:SA X G F (e::es) (mArgs ms)) (hln:ms.length=ps.length) (hdb:(x==("__debug__" :Str))=false:=by decide) (he:starEach (e::es) X.env=(false,eval e X.env)::starEach es X.env:=by rfl) (hpl:(backTo pos (starEach es X.env)).any (·.1)=false:=by rfl):
 SE X G F (.Call (.Name x p) (e::es) [] pos) (z2T f ms):=by
 walk_at "go"
 exact Mi.se_callX hx Fn hr hg hm hkp hb ha hln hdb he hpl
end
theorem fn_X{G:Gx}{P:Program}{w:World}{K:W.Frag}{mg:Str->Option Value}{base:Heap}{x qual:Str}{st:Stmt}{fa:Addr}{fd:FuncData}{N ps:List Str}{k:Nat}{mb:MS}(Fn:Fun K x qual st fa fd)(S:z05 N ps (z01 st))(hG:G.K=K)
 (hb: ∀(cdv:Value) (A:Around) (outer:List Env) (s:Shared) (H:Hp) (E:XK) (F:Fy),Room k (A.deeper (envOfC qual (z01 st) s.heap.objs.size fa cdv))->XP (cxOf (CX1 P w) P w K mg base N qual (z01 st) fa cdv A outer s H E) G F (fun _=>E)->z5z (cxOf (CX1 P w) P w K mg base N qual (z01 st) fa cdv A outer s H E) (fun _=>E)->SSs (cxOf (CX1 P w) P w K mg base N qual (z01 st) fa cdv A outer s H E) G F (z0Q st) mb):
 FnOk P w K mg base (CX1 P w) (k+1) fa fd ps (spX G ps.length (runX N.length mb)):=by
 walk_at "go"
 exact Mi.fn_X Fn S hG hb
section
variable{X:Cx}{G:Gx}{F:Fy}{np hpos pos:Pos}{b₀:Stmt}{suite body:List Stmt}{x n:Str}{ie:Nat}{CB:Addr}{mb mh:MS}{k:Str->Bool}
theorem ss_try(hst:X.stack=X.env::X.outer)(hfr:X.env.frame=some X.env.locals)(hex:X.ex=[])(hK:X.K=G.K)(hg:Gl X x)(hm:X.mg x=some (.ref CB))(hN:X.N.Nodup)(hi:X.N[ie]? =some n)(hloc:X.env.scope.names.lookup n=some .local)
 (hk: ∀c C,G.cl c=some C->k c=true->W.exmOne X.K (.ref C) (.ref CB)=some true)
 (hb: ∀(pl:List (Addr×Obj)) (E':Value->Shared->Prop) (F':Fy) (E:L2.St->XK),XP (Xt X pl E') G F' E->SSs (Xt X pl E') G F' body mb) (hh: ∀a,SSs (Xm X a) G F (b₀::suite) mh) (hd:(x==("__debug__" :Str))=false:=by decide):
 SS X G F (.Try body [.ExceptHandler (some (.Name x np)) (some n) (b₀::suite) hpos] [] [] pos) (sTry k ie mb mh):=by
 walk_at "go"
 exact Mi.ss_try hst hfr hex hK hg hm hN hi hloc hk hb hh hd
theorem se_isX1{p:Pos}{x y:Expr}{m:M D}{c:V}{tb:Str->Option Bool}(hK:X.K=G.K)(hc:clsV c=true)(ht: ∀r C b,G.cl r=some C->tb r=some b->XCls X.K C/\W.kitOne X.K (.ref C) (cvV c)=some b)(hgl:Gl X "isinstance")(hm:X.mg "isinstance" =none)(ha:SE X G F x m)(hy:PE X y (tC c))
 (he:starEach [x,y] X.env=(false,eval x X.env)::starEach [y] X.env:=by rfl) (he2:starEach [y] X.env=(false,eval y X.env)::starEach [] X.env:=by rfl) (hpl:(backTo pos (starEach [y] X.env)).any (·.1)=false:=by rfl):SE X G F (.Call (.Name "isinstance" p) [x,y] [] pos) (mIsX tb m):=by
 walk_at "go"
 exact Mi.se_isX1 hK hc ht hgl hm ha hy he he2 hpl
theorem se_isXT{p:Pos}{x y:Expr}{m:M D}{us:List Value}{tb:Str->Option Bool}(hK:X.K=G.K)(ht: ∀r C b,G.cl r=some C->tb r=some b->XCls X.K C/\W.kitAny X.K (.ref C) us=some b)(hgl:Gl X "isinstance")(hm:X.mg "isinstance" =none)(ha:SE X G F x m)(hy:PE X y (tCls us))
 (he:starEach [x,y] X.env=(false,eval x X.env)::starEach [y] X.env:=by rfl) (he2:starEach [y] X.env=(false,eval y X.env)::starEach [] X.env:=by rfl) (hpl:(backTo pos (starEach [y] X.env)).any (·.1)=false:=by rfl):SE X G F (.Call (.Name "isinstance" p) [x,y] [] pos) (mIsX tb m):=by
 walk_at "go"
 exact Mi.se_isXT hK ht hgl hm ha hy he he2 hpl
end
section
variable{G:Gx}{ρ ρ':Nat->Addr}{H H':Hp}
variable{F:Fy}{σv tv:List (Option V)}{s:Stt}{np:Nat}
theorem se_callH{X:Cx}{e:Expr}{es:List Expr}{pos p:Pos}{CX:CXT}{k:Nat}{fa:Addr}{fd:FuncData}{ps:List Str}{x:Str}{E:XK}{f:FM}{ms:List (M D)}(hk:X.K=G.K)(Fn:z4J X.prog X.w X.K X.mg X.base CX k fa fd ps (spM G ps.length f))(hr:z2x k X.A)(hg:Gl X x)(hm:X.mg x=some (.ref fa))(hkp:W.keepIn X.K (.ref fa)=true)(hb:z3R X.K fd ps [])(hx:z3p CX X E)
 (ha:SA X G F (e::es) (mArgs ms)) (hln:ms.length=ps.length) (hdb:(x==("__debug__" :Str))=false:=by decide) (he:starEach (e::es) X.env=(false,eval e X.env)::starEach es X.env:=by rfl) (hpl:(backTo pos (starEach es X.env)).any (·.1)=false:=by rfl):
 SE X G F (.Call (.Name x p) (e::es) [] pos) (z03 f ms):=by
 walk_at "go"
 exact Mi.se_callH hk Fn hr hg hm hkp hb hx ha hln hdb he hpl
theorem fn_H{P:Program}{w:World}{K:W.Frag}{mg:Str->Option Value}{base:Heap}{x qual:Str}{st:Stmt}{fa:Addr}{fd:FuncData}{N ps:List Str}{k:Nat}{mb:MS}(Fn:Fun K x qual st fa fd)(S:z05 N ps (z01 st))(hG:G.K=K)
 (hb: ∀(cdv:Value) (A:Around) (outer:List Env) (s:Shared) (H:Hp) (E:XK) (F:Fy),z2x k (A.deeper (envOfC qual (z01 st) s.heap.objs.size fa cdv))->SSs (cxH CX0 P w K mg base N qual (z01 st) fa cdv A outer s H E).nox G F (z0Q st) mb):
 z4J P w K mg base CX0 (k+1) fa fd ps (spM G ps.length (runF N.length mb)):=by
 walk_at "go"
 exact Mi.fn_H Fn S hG hb
end
section
variable{X:Cx}{G:Gx}{F:Fy}{a b e:Expr}{ma mb:M D}{pos:Pos}
theorem se_dgtP(hk:X.K=G.K)(hu:X.A.units+64<cLine)(ha:SE X G F a ma)(hb:SE X G F b mb)(hs:z3q b):SE X G F (.Subscript a b pos) (mBin ma mb dgtP):=by
 walk_at "go"
 exact Mi.se_dgtP hk hu ha hb hs
theorem se_dispC{keys:List (Option Expr)}{values:List Expr}{ds:List D}(kvs:List (Key×V))(hk:X.K=G.K)(h:PPs X pos keys values (kvs.map fun kv=>(tC (kV kv.1),tC kv.2)))(hall:keys.all (·.isSome)=true)(hl:keys.length=values.length)(h0:keys≠[])
 (h15:keys.length<=15) (hl2:kvs.length<=15) (hn:(kvs.map (·.1)).Nodup) (hd:cVs ds=some (kvs.map (·.2))):SE X G F (.Dict keys values pos) (dcM (kvs.map (·.1)) ds):=by
 walk_at "go"
 exact Mi.se_dispC kvs hk h hall hl h0 h15 hl2 hn hd
theorem ss_setN{i:Nat}{x:Str}{p:Pos}{m:M D}(hN:X.N.Nodup)(hi:X.N[i]? =some x)(hx:Loc X.env.scope x)(hf:X.fn x=true\/X.env.scope.names.lookup x=some .local)(he:SE X G F e m)(hs:swapsWith e (some (.Name x p)) pos.line X.env=pure false:=by rfl):SS X G F (.Assign [.Name x p] e pos) (sAsg (.nm i) m):=by
 walk_at "go"
 exact Mi.ss_setN hN hi hx hf he hs
end
inductive SEs(X:Cx)(G:Gx)(F:Fy):List Expr->List (M D)->Prop
 |nil:SEs X G F [] []
 |cons {e:Expr} {m:M D} {es:List Expr} {ms:List (M D)}:SE X G F e m->nst e=true->SEs X G F es ms->SEs X G F (e::es) (m::ms)
theorem eSEs{X:Cx}{G:Gx}{F:Fy}{es:List Expr}{ms:List (M D)}(h:SEs X G F es ms):Mi.SEs X G F es ms:=by
 induction h with
 |nil=>exact .nil
 |cons h n _ ih=>rw[eSE] at h;exact .cons h n ih
theorem sa_of{X:Cx}{G:Gx}{F:Fy}{es:List Expr}{ms:List (M D)}(hk:X.K=G.K)(h:SEs X G F es ms):SA X G F es (mArgs ms):=by
 rw[eSA];exact Mi.sa_of hk (eSEs h)
section
variable{X:Cx}{G:Gx}{F:Fy}{e a b c d:Expr}{pos p:Pos}{m ma mb mc md:M D}
theorem sv(i:Nat){x:Str}(hk:X.K=G.K:=by rfl)(hN:X.N[i]? =some x:=by rfl)(hv:Vis X.env.scope x:=by first|exact Or.inl rfl|exact Or.inr (Or.inl rfl)|exact Or.inr (Or.inr rfl))(hd:(x==("__debug__" :Str))=false:=by decide)(hcd:(x==("__classdict__" :Str))=false:=by decide):SE X G F (.Name x pos) (mVar i):=se_var i hk (pv i hN hv hd hcd)
theorem s1(h:SE X G F a ma)(n:nst a=true:=by rfl)(hk:X.K=G.K:=by rfl):SA X G F [a] (mArgs [ma]):=sa_of hk (.cons h n .nil)
theorem s2(h:SE X G F a ma)(h2:SE X G F b mb)(n:nst a=true:=by rfl)(n2:nst b=true:=by rfl)(hk:X.K=G.K:=by rfl):SA X G F [a,b] (mArgs [ma,mb]):=sa_of hk (.cons h n (.cons h2 n2 .nil))
theorem s3(h:SE X G F a ma)(h2:SE X G F b mb)(h3:SE X G F c mc)(n:nst a=true:=by rfl)(n2:nst b=true:=by rfl)(n3:nst c=true:=by rfl)(hk:X.K=G.K:=by rfl):SA X G F [a,b,c] (mArgs [ma,mb,mc]):=sa_of hk (.cons h n (.cons h2 n2 (.cons h3 n3 .nil)))
theorem s4(h:SE X G F a ma)(h2:SE X G F b mb)(h3:SE X G F c mc)(h4:SE X G F d md)(n:nst a=true:=by rfl)(n2:nst b=true:=by rfl)(n3:nst c=true:=by rfl)(n4:nst d=true:=by rfl)(hk:X.K=G.K:=by rfl):SA X G F [a,b,c,d] (mArgs [ma,mb,mc,md]):=sa_of hk (.cons h n (.cons h2 n2 (.cons h3 n3 (.cons h4 n4 .nil))))
theorem sst(i:Nat){x:Str}(hN:X.N.Nodup)(he:SE X G F e m)(hi:X.N[i]? =some x:=by rfl)(hx:Loc X.env.scope x:=by exact Or.inl rfl)(hs:swapsWith e (some (.Name x p)) pos.line X.env=pure false:=by rfl)(hf:X.fn x=true\/X.env.scope.names.lookup x=some .local:=by first|exact .inl rfl|exact .inr rfl|assumption):SS X G F (.Assign [.Name x p] e pos) (sAsg (.nm i) m):=
 ss_set (fun{te} h=>z7d hN hi hx h hs hf) he
theorem sgn(i:Nat){x:Str}(hN:X.N.Nodup)(hi:X.N[i]? =some x:=by rfl)(hx:Loc X.env.scope x:=by exact Or.inl rfl)(hf:X.fn x=true\/X.env.scope.names.lookup x=some .local:=by first|exact .inl rfl|exact .inr rfl|assumption):SG X G F (.Name x pos) (.nm i):=sg_name (z0u hN hi hx hf)
theorem sln{es:List Expr}{ms:List (M D)}(hm:X.mg "len" =none)(ha:SA X G F (e::es) (mArgs ms))(hgl:Gl X "len" :=by rfl)(he:starEach (e::es) X.env=(false,eval e X.env)::starEach es X.env:=by rfl)(hpl:(backTo pos (starEach es X.env)).any (·.1)=false:=by rfl)(hk:X.K=G.K:=by rfl):SE X G F (.Call (.Name "len" p) (e::es) [] pos) (mCB ms lenD):=
 se_cb hk (zfN hk) hgl hm PyProof.Rows.Boot.«len» ha (by decide) (by decide) he hpl
theorem sc0{v:V}{d:D}(h:PE X e (tC v))(hd:cV d=some v:=by rfl)(hk:X.K=G.K:=by rfl):SE X G F e (mC d):=se_c hk h hd
theorem sxc{v:V}{q:D}(ha:SE X G F a ma)(h:PE X b (tC v))(hd:cV q=some v:=by rfl)(hs:z3q b:=by exact fun _ _=>rfl)(hk:X.K=G.K:=by rfl):SE X G F (.Subscript a b pos) (mBin ma (mC q) ixD):=se_idx hk ha (se_c hk h hd) hs
theorem sxx(ha:SE X G F a ma)(hb:SE X G F b mb)(hs:z3q b:=by exact fun _ _=>rfl)(hk:X.K=G.K:=by rfl):SE X G F (.Subscript a b pos) (mBin ma mb ixD):=se_idx hk ha hb hs
end
section
variable{G:Gx}{P:Program}{w:World}{K:W.Frag}{mg:Str->Option Value}{base:Heap}{x qual:Str}{st:Stmt}{fa:Addr}{fd:FuncData}{N ps:List Str}{k np:Nat}{f:FM}
theorem okM(mb:MS)(Fn:Fun K x qual st fa fd)(S:z05 N ps (z01 st))(hb: ∀(cdv:Value) (A:Around) (outer:List Env) (s:Shared) (H:Hp) (E:XK) (F:Fy),Room k (A.deeper (envOfC qual (z01 st) s.heap.objs.size fa cdv))->SSs (cxOf CX0 P w K mg base N qual (z01 st) fa cdv A outer s H E).nox G F (z0Q st) mb)(hG:G.K=K:=by rfl)(hf:f=runF N.length mb:=by rfl)(hn:np=ps.length:=by rfl):
 FnOk P w K mg base CX0 (k+1) fa fd ps (spM G np f):=by
 subst hf hn;exact fn_M Fn S hG hb
theorem okX(mb:MS)(Fn:Fun K x qual st fa fd)(S:z05 N ps (z01 st))(hb: ∀(cdv:Value) (A:Around) (outer:List Env) (s:Shared) (H:Hp) (E:XK) (F:Fy),Room k (A.deeper (envOfC qual (z01 st) s.heap.objs.size fa cdv))->XP (cxOf (CX1 P w) P w K mg base N qual (z01 st) fa cdv A outer s H E) G F (fun _=>E)->z5z (cxOf (CX1 P w) P w K mg base N qual (z01 st) fa cdv A outer s H E) (fun _=>E)->SSs (cxOf (CX1 P w) P w K mg base N qual (z01 st) fa cdv A outer s H E) G F (z0Q st) mb)(hG:G.K=K:=by rfl)(hf:f=runX N.length mb:=by rfl)(hn:np=ps.length:=by rfl):
 FnOk P w K mg base (CX1 P w) (k+1) fa fd ps (spX G np f):=by
 subst hf hn;exact fn_X Fn S hG hb
theorem okH(mb:MS)(Fn:Fun K x qual st fa fd)(S:z05 N ps (z01 st))(hb: ∀(cdv:Value) (A:Around) (outer:List Env) (s:Shared) (H:Hp) (E:XK) (F:Fy),z2x k (A.deeper (envOfC qual (z01 st) s.heap.objs.size fa cdv))->SSs (cxH CX0 P w K mg base N qual (z01 st) fa cdv A outer s H E).nox G F (z0Q st) mb)(hG:G.K=K:=by rfl)(hf:f=runF N.length mb:=by rfl)(hn:np=ps.length:=by rfl):
 z4J P w K mg base CX0 (k+1) fa fd ps (spM G np f):=by
 subst hf hn;exact fn_H Fn S hG hb
end
end My
namespace My
open PySem L2 Mi
noncomputable def top(i:Nat):Stmt:=PySem.Challenge.pw_signbench_k48_whole_refused_changes_noth.main.body.getD i (.Pass ⟨0,0,0,0⟩)
noncomputable abbrev z31:Stmt:=top 27
noncomputable abbrev z3u:Stmt:=top 28
noncomputable abbrev z4M:Stmt:=top 29
noncomputable abbrev z2k:Stmt:=top 35
noncomputable abbrev z0X:Stmt:=top 36
noncomputable abbrev z2y:Stmt:=top 37
noncomputable abbrev z2z:Stmt:=top 38
noncomputable abbrev z49:Stmt:=top 39
noncomputable abbrev z5A:Stmt:=top 40
noncomputable abbrev z2A:Stmt:=top 41
noncomputable abbrev z1S:Stmt:=top 42
noncomputable abbrev z1T:Stmt:=top 43
noncomputable abbrev z3v:Stmt:=top 44
noncomputable abbrev z1U:Stmt:=top 45
noncomputable abbrev z1V:Stmt:=top 46
noncomputable abbrev z32:Stmt:=top 47
noncomputable abbrev z3w:Stmt:=top 48
noncomputable abbrev z33:Stmt:=top 49
noncomputable abbrev z2B:Stmt:=top 50
noncomputable abbrev z87:Stmt:=top 52
noncomputable abbrev z6L:Stmt:=top 53
noncomputable abbrev z6M:Stmt:=top 54
noncomputable abbrev z5B:Stmt:=top 55
noncomputable abbrev z5C:Stmt:=top 56
noncomputable abbrev z6N:Stmt:=top 57
noncomputable abbrev z3x:Stmt:=top 58
noncomputable abbrev z4a:Stmt:=top 59
noncomputable abbrev z34:Stmt:=top 60
noncomputable abbrev z2C:Stmt:=top 61
noncomputable abbrev z2l:Stmt:=top 62
noncomputable abbrev z6O:Stmt:=top 63
noncomputable abbrev z6P:Stmt:=top 64
noncomputable abbrev z88:Stmt:=top 65
noncomputable abbrev z6Q:Stmt:=top 66
noncomputable abbrev z89:Stmt:=top 67
noncomputable abbrev z8a:Stmt:=top 68
noncomputable abbrev z4b:Stmt:=top 69
noncomputable abbrev z5D:Stmt:=top 70
noncomputable abbrev z5E:Stmt:=top 71
noncomputable abbrev z5F:Stmt:=top 72
noncomputable abbrev zdQ:Stmt:=top 73
noncomputable abbrev z4q:List Str:=["thing"]
noncomputable abbrev z35:List Str:=z4q
noncomputable abbrev z50:List Str:=["thing", "low", "high"]
noncomputable abbrev z3y:List Str:=z50
noncomputable abbrev z6u:List Str:=["thing", "fewest", "most", "high"]
noncomputable abbrev z4N:List Str:=z6u
noncomputable abbrev z5G:List Str:=["field", "thing", "limit", "barred", "signs", "begin", "end", "marked", "free"]
noncomputable abbrev z2m:List Str:=["field", "thing"]
noncomputable abbrev z3z:List Str:=["thing", "many", "first", "behind"]
noncomputable abbrev z0Y:List Str:=["thing", "many"]
noncomputable abbrev z3W:List Str:=["signs", "marked"]
noncomputable abbrev z2D:List Str:=z3W
noncomputable abbrev z3X:List Str:=["barred", "signs"]
noncomputable abbrev z2E:List Str:=z3X
noncomputable abbrev z8b:List Str:=["thing", "word", "rest"]
noncomputable abbrev z4c:List Str:=["thing"]
noncomputable abbrev zay:List Str:=["field", "standing", "deed", "word"]
noncomputable abbrev z5H:List Str:=["field", "standing", "deed"]
noncomputable abbrev z6e:List Str:=["standing", "coming", "signs", "first", "behind"]
noncomputable abbrev z2F:List Str:=["standing", "coming"]
noncomputable abbrev z58:List Str:=["standing", "signs", "first", "behind"]
noncomputable abbrev z1W:List Str:=["standing"]
noncomputable abbrev z59:List Str:=["field", "standing", "coming", "signs", "first", "behind"]
noncomputable abbrev z1X:List Str:=["field", "standing", "coming"]
noncomputable abbrev z7A:List Str:=["standing", "coming", "signs", "begin", "end", "marked", "first", "behind"]
noncomputable abbrev z3A:List Str:=["standing", "coming"]
noncomputable abbrev z5a:List Str:=["field", "coming", "many_free", "limit", "barred"]
noncomputable abbrev z1Y:List Str:=["field", "coming", "many_free"]
noncomputable abbrev z5b:List Str:=["standing", "begin", "end", "signs", "marked"]
noncomputable abbrev z1Z:List Str:=["standing", "begin", "end"]
noncomputable abbrev z6R:List Str:=["field", "standing", "place", "coming", "signs", "begin", "end", "marked", "many", "grown"]
noncomputable abbrev z36:List Str:=["field", "standing", "place", "coming"]
noncomputable abbrev z51:List Str:=["at", "place", "many"]
noncomputable abbrev z3B:List Str:=z51
noncomputable abbrev z6S:List Str:=["standing", "place", "many", "signs", "begin", "end", "marked", "behind", "left"]
noncomputable abbrev z37:List Str:=["standing", "place", "many"]
noncomputable abbrev z3Y:List Str:=["at", "place", "many"]
noncomputable abbrev z2G:List Str:=z3Y
noncomputable abbrev zdR:List Str:=["_law_script", "_law_at", "_law_cell", "_law_mix", "_law_k"]
noncomputable abbrev z8c:List Str:=["_law_script", "_law_at"]
noncomputable abbrev zc5:List Str:=["_law_bag_here", "_law_many", "_law_digit"]
noncomputable abbrev z6T:List Str:=["_law_bag_here", "_law_many"]
noncomputable abbrev z8S:List Str:=["_law_bag_here", "_law_far"]
noncomputable abbrev z6U:List Str:=z8S
noncomputable abbrev z7B:List Str:=["_law_bag_here", "_law_far", "_law_many"]
noncomputable abbrev z5I:List Str:=z7B
noncomputable abbrev zaz:List Str:=["_law_bag_here", "_law_far", "_law_way", "_law_limit"]
noncomputable abbrev z5J:List Str:=["_law_bag_here", "_law_far"]
noncomputable abbrev z8T:List Str:=["_law_field_here", "_law_sign_here"]
noncomputable abbrev z6V:List Str:=z8T
noncomputable abbrev z7C:List Str:=["_law_bag_here", "_law_field_here", "_law_far", "_law_way", "_law_many", "_law_signs_here", "_law_marked", "_law_more", "_law_at", "_law_begin"]
noncomputable abbrev z3C:List Str:=["_law_bag_here", "_law_field_here", "_law_far"]
noncomputable abbrev z5K:List Str:=["_law_thing", "_law_least", "_law_most"]
noncomputable abbrev z4d:List Str:=z5K
noncomputable abbrev z4r:List Str:=["_law_thing", "_law_least", "_law_most"]
noncomputable abbrev z38:List Str:=z4r
noncomputable abbrev z3Z:List Str:=["_law_thing", "_law_many"]
noncomputable abbrev z2H:List Str:=z3Z
noncomputable abbrev z5L:List Str:=["_law_field_here", "_law_thing", "_law_signs_here", "_law_begin", "_law_end", "_law_marked", "_law_many", "_law_first", "_law_behind", "_law_left_here"]
noncomputable abbrev z2n:List Str:=["_law_field_here", "_law_thing"]
noncomputable abbrev zc6:List Str:=["_law_e", "_law_marks", "_law_others", "_law_more"]
noncomputable abbrev z6W:List Str:=["_law_e"]
noncomputable abbrev zc7:List Str:=["_law_field_here", "_law_standing_here", "_law_deed", "_law_found", "_law_e"]
noncomputable abbrev z6X:List Str:=["_law_field_here", "_law_standing_here", "_law_deed"]
noncomputable abbrev zdS:List Str:=["_law_field_here", "_law_standing_here", "_law_deed", "_law_signs_here", "_law_begin", "_law_end", "_law_marked", "_law_more", "_law_first", "_law_behind", "_law_found", "_law_place"]
noncomputable abbrev z8d:List Str:=["_law_field_here", "_law_standing_here", "_law_deed"]
noncomputable abbrev z8U:List Str:=["_law_at", "_law_place", "_law_behind"]
noncomputable abbrev z6Y:List Str:=z8U
noncomputable abbrev zdT:List Str:=["_law_standing_here", "_law_place", "_law_behind", "_law_signs_here", "_law_begin", "_law_end", "_law_marked", "_law_left_here"]
noncomputable abbrev z8e:List Str:=["_law_standing_here", "_law_place", "_law_behind"]
noncomputable abbrev zdU:List Str:=["_law_field_here", "_law_standing_here", "_law_place", "_law_more", "_law_signs_here", "_law_begin", "_law_end", "_law_marked", "_law_many", "_law_free_here"]
noncomputable abbrev z8f:List Str:=["_law_field_here", "_law_standing_here", "_law_place", "_law_more"]
noncomputable abbrev z8g:List Str:=["_law_thing", "_law_sizes"]
noncomputable abbrev z4e:List Str:=["_law_thing"]
noncomputable abbrev z7D:List Str:=["_law_field_here", "_law_standing_here", "_law_deed"]
noncomputable abbrev z5M:List Str:=z7D
noncomputable abbrev zaA:List Str:=["_law_bag_here", "_law_field_here", "_law_far", "_law_standing_here", "_law_kind", "_law_all_free", "_law_many", "_law_more", "_law_place"]
noncomputable abbrev z5N:List Str:=["_law_bag_here", "_law_field_here", "_law_far", "_law_standing_here"]
noncomputable abbrev zaB:List Str:=["_law_field_here", "_law_standing_here", "_law_deeds", "_law_deed"]
noncomputable abbrev z5O:List Str:=["_law_field_here", "_law_standing_here", "_law_deeds"]
noncomputable abbrev zhQ:List Str:=["_law_script", "_law_bag_here", "_law_far", "_law_fields", "_law_spots", "_law_deeds", "_law_turns", "_law_turn", "_law_at", "_law_deed", "_law_due", "_law_place", "_law_way"]
noncomputable abbrev zdV:List Str:=["_law_script"]
local macro_rules | `(tactic| walk_at "sc") => `(tactic| exact ⟨rfl, rfl, rfl, by decide +kernel, rfl, by decide +kernel, by decide +kernel⟩)
theorem z6f:z05 z4q z35 (z01 z31):=by walk_at "sc"
theorem z6Z:z05 z50 z3y (z01 z3u):=by walk_at "sc"
theorem z8h:z05 z6u z4N (z01 z4M):=by walk_at "sc"
theorem z0k:z05 z5G z2m (z01 z2k):=by walk_at "sc"
theorem z0S:z05 z3z z0Y (z01 z0X):=by walk_at "sc"
theorem z5P:z05 z3W z2D (z01 z2y):=by walk_at "sc"
theorem z5Q:z05 z3X z2E (z01 z2z):=by walk_at "sc"
theorem z52:z05 z8b z4c (z01 z49):=by walk_at "sc"
theorem z6v:z05 zay z5H (z01 z5A):=by walk_at "sc"
theorem z1A:z05 z6e z2F (z01 z2A):=by walk_at "sc"
theorem z1b:z05 z58 z1W (z01 z1S):=by walk_at "sc"
theorem z1c:z05 z59 z1X (z01 z1T):=by walk_at "sc"
theorem z0H:z05 z7A z3A (z01 z3v):=by walk_at "sc"
theorem z1F:z05 z5a z1Y (z01 z1U):=by walk_at "sc"
theorem z2U:z05 z5b z1Z (z01 z1V):=by walk_at "sc"
theorem z0r:z05 z6R z36 (z01 z32):=by walk_at "sc"
theorem z70:z05 z51 z3B (z01 z3w):=by walk_at "sc"
theorem z0s:z05 z6S z37 (z01 z33):=by walk_at "sc"
theorem z5R:z05 z3Y z2G (z01 z2B):=by walk_at "sc"
theorem z39:z05 zdR z8c (z01 z87):=by walk_at "sc"
theorem z7E:z05 zc5 z6T (z01 z6L):=by walk_at "sc"
theorem zaC:z05 z8S z6U (z01 z6M):=by walk_at "sc"
theorem z9v:z05 z7B z5I (z01 z5B):=by walk_at "sc"
theorem z4O:z05 zaz z5J (z01 z5C):=by walk_at "sc"
theorem zaD:z05 z8T z6V (z01 z6N):=by walk_at "sc"
theorem z0i:z05 z7C z3C (z01 z3x):=by walk_at "sc"
theorem z7F:z05 z5K z4d (z01 z4a):=by walk_at "sc"
theorem z6g:z05 z4r z38 (z01 z34):=by walk_at "sc"
theorem z5S:z05 z3Z z2H (z01 z2C):=by walk_at "sc"
theorem z0g:z05 z5L z2n (z01 z2l):=by walk_at "sc"
theorem z3D:z05 zc6 z6W (z01 z6O):=by walk_at "sc"
theorem z5T:z05 zc7 z6X (z01 z6P):=by walk_at "sc"
theorem z1J:z05 zdS z8d (z01 z88):=by walk_at "sc"
theorem zaE:z05 z8U z6Y (z01 z6Q):=by walk_at "sc"
theorem z3a:z05 zdT z8e (z01 z89):=by walk_at "sc"
theorem z1B:z05 zdU z8f (z01 z8a):=by walk_at "sc"
theorem z53:z05 z8g z4e (z01 z4b):=by walk_at "sc"
theorem z9w:z05 z7D z5M (z01 z5D):=by walk_at "sc"
theorem z1G:z05 zaA z5N (z01 z5E):=by walk_at "sc"
theorem z4P:z05 zaB z5O (z01 z5F):=by walk_at "sc"
theorem z28:z05 zhQ zdV (z01 zdQ):=by walk_at "sc"
structure Dx(K:W.Frag)(mg:Str->Option Value)(x:Str)(st:Stmt)(ps:List Str) where
 f:Addr
 d:FuncData
 F:Fun K x x st f d
 b:z3R K d ps []
 m:mg x=some (.ref f)
theorem scl{X:Cx}{G:Gx}{F:Fy}{e:Expr}{es:List Expr}{pos p:Pos}{CX:CXT}{k j:Nat}{x:Str}{st:Stmt}{ps:List Str}{E:XK}{f:FM}{ms:List (M D)}(d:Dx X.K X.mg x st ps)(Fn:FnOk X.prog X.w X.K X.mg X.base CX j d.f d.d ps (spM G ps.length f))(hr:Room k X.A)(ha:SA X G F (e::es) (mArgs ms))(hg:Gl X x:=by rfl)(hx:z3p CX X E:=by exact zfd)(hln:ms.length=ps.length:=by rfl)(hk:X.K=G.K:=by rfl)(hj:j<=k:=by lia)(hdb:(x==("__debug__" :Str))=false:=by decide)(he:starEach (e::es) X.env=(false,eval e X.env)::starEach es X.env:=by rfl)(hpl:(backTo pos (starEach es X.env)).any (·.1)=false:=by rfl):SE X G F (.Call (.Name x p) (e::es) [] pos) (z03 f ms):=se_call hk (Fn.mono hj) hr hg d.m d.F.kp d.b hx ha hln hdb he hpl
noncomputable abbrev kF(K:W.Frag)(a b:Addr)(r:Bool):Prop:=W.kitOne K (.ref a) (.ref b)=some r
noncomputable abbrev kN(K:W.Frag)(a:Addr)(l:List Addr):Prop:=W.kitAny K (.ref a) (l.map .ref)=some false
noncomputable abbrev kV(K:W.Frag)(a:Addr):Prop:=W.kitOne K (.ref a) (.type "ValueError")=some true
noncomputable abbrev fA(K:W.Frag)(a:Addr):Prop:=W.findIn K (.ref a) "__getattribute__" =some (some (.builtin "BaseException.__getattribute__"))
noncomputable abbrev fB(K:W.Frag)(a:Addr):Prop:=W.findIn K (.ref a) "__getattr__" =some none
noncomputable abbrev fC(K:W.Frag)(a:Addr):Prop:=W.findIn K (.ref a) "__class__" =some (some (.builtin "object.__class__"))
noncomputable abbrev xA(K:W.Frag)(a:Addr):Prop:=W.excIn K a bmV "ValueError.__new__" =true
noncomputable abbrev mO(K:W.Frag)(a:Addr)(s:String):Prop:=W.mroIn K a (.type s)=some true
noncomputable abbrev eB(K:W.Frag)(a b:Addr):Prop:=W.exmOne K (.ref a) (.ref b)=some true
noncomputable abbrev nI(K:W.Frag)(s:Str)(a:Addr):Prop:=W.nsIn K mainGlobals s=some (some (.ref a))
set_option genInjectivity false in
set_option genSizeOf false in
set_option genSizeOfSpec false in
structure Wd(K:W.Frag)(mg:Str->Option Value) where
 kaq:Dx K mg "is_number" z31 z35
 kax:Dx K mg "is_whole" z3u z3y
 kaK:Dx K mg "is_row" z4M z4N
 kag:Dx K mg "is_standing" z2k z2m
 kaa:Dx K mg "is_marked_stretch" z0X z0Y
 kak:Dx K mg "free_signs" z2y z2D
 kaj:Dx K mg "has_barred" z2z z2E
 kaB:Dx K mg "is_deed" z49 z4c
 kbf:Dx K mg "after" z5A z5H
 kal:Dx K mg "after_mark" z2A z2F
 kad:Dx K mg "after_unmark" z1S z1W
 kac:Dx K mg "after_commit" z1T z1X
 kaz:Dx K mg "replaced" z3v z3A
 kab:Dx K mg "refuse_signs" z1U z1Y
 kae:Dx K mg "after_choose" z1V z1Z
 kap:Dx K mg "after_put" z32 z36
 kaw:Dx K mg "moved_on" z3w z3B
 kas:Dx K mg "after_out" z33 z37
 kai:Dx K mg "moved_back" z2B z2G
 kbB:Dx K mg "_law_bag" z87 z8c
 kbh:Dx K mg "_law_take" z6L z6T
 kbt:Dx K mg "_law_sign" z6M z6U
 kaV:Dx K mg "_law_signs" z5B z5I
 kaS:Dx K mg "_law_field" z5C z5J
 kbs:Dx K mg "_law_free" z6N z6V
 kay:Dx K mg "_law_standing" z3x z3C
 kaF:Dx K mg "_law_is_from" z4a z4d
 kao:Dx K mg "_law_are_signs" z34 z38
 kah:Dx K mg "_law_is_stretch" z2C z2H
 kaf:Dx K mg "_law_is_standing" z2l z2n
 kbu:Dx K mg "_law_name" z6O z6W
 kbp:Dx K mg "_law_told" z6P z6X
 kbD:Dx K mg "_law_own" z88 z8d
 kbm:Dx K mg "_law_left" z6Q z6Y
 kbE:Dx K mg "_law_out" z89 z8e
 kbF:Dx K mg "_law_put" z8a z8f
 kaC:Dx K mg "_law_is_deed" z4b z4e
 kaU:Dx K mg "_law_after" z5D z5M
 ka2:Dx K mg "_law_drawn" z5E z5N
 kaY:Dx K mg "_law_again" z5F z5O
 x_law:Dx K mg "law" zdQ zdV
 n_ValueError:mg "ValueError" =none
 n_abs:mg "abs" =none
 n_all:mg "all" =none
 n_any:mg "any" =none
 n_bool:mg "bool" =none
 c_LAST_PLACE: ∃t,mg "LAST_PLACE" =some (.int 999 t)
 c_LAST_SIGN: ∃t,mg "LAST_SIGN" =some (.int 1039 t)
 c_MOST_MARKED: ∃t,mg "MOST_MARKED" =some (.int 96 t)
 c_MOST_OUT: ∃t,mg "MOST_OUT" =some (.int 60 t)
 c_MOST_PUT: ∃t,mg "MOST_PUT" =some (.int 24 t)
 n_enumerate:mg "enumerate" =none
 n_int:mg "int" =none
 n_isinstance:mg "isinstance" =none
 n_len:mg "len" =none
 n_min:mg "min" =none
 n_range:mg "range" =none
 n_str:mg "str" =none
 n_tuple:mg "tuple" =none
 kbi:Addr
 kbe:mg "Barred" =some (.ref kbi)
 kat:Addr
 kan:mg "BenchError" =some (.ref kat)
 kbz:Addr
 kbx:mg "Fight" =some (.ref kbz)
 kbG:Addr
 kbA:mg "Full" =some (.ref kbG)
 kbv:Addr
 ka6:mg "Marked" =some (.ref kbv)
 kaT:Addr
 kaQ:mg "Missing" =some (.ref kaT)
 kaN:Addr
 kaD:mg "NoChoice" =some (.ref kaN)
 kaE:Addr
 kau:mg "NoCutting" =some (.ref kaE)
 kbj:Addr
 ka8:mg "NoDeed" =some (.ref kbj)
 kbk:Addr
 kaW:mg "NoMark" =some (.ref kbk)
 kbl:Addr
 kbc:mg "NoNode" =some (.ref kbl)
 kbb:Addr
 kaO:mg "NoPlace" =some (.ref kbb)
 kaI:Addr
 kaA:mg "NoSaying" =some (.ref kaI)
 kav:Addr
 kam:mg "NoStanding" =some (.ref kav)
 kba:Addr
 kaL:mg "NoTable" =some (.ref kba)
 kbq:Addr
 kaZ:mg "NoText" =some (.ref kbq)
 kbg:Addr
 ka9:mg "NoTurn" =some (.ref kbg)
 kbr:Addr
 ka0:mg "NoWish" =some (.ref kbr)
 kbo:Addr
 kaX:mg "NoWord" =some (.ref kbo)
 ka3:Addr
 kaG:mg "Nothing" =some (.ref ka3)
 ka1:Addr
 kaH:mg "TooLong" =some (.ref ka1)
 ka4:Addr
 kaJ:mg "TooMany" =some (.ref ka4)
 kby:Addr
 kbn:mg "Twice" =some (.ref kby)
 kbC:Addr
 kbw:mg "Waits" =some (.ref kbC)
 ka7:xA K kbi
 cxob_Barred:mO K kbi "object"
 cxba_Barred:mO K kbi "BaseException"
 cxf1_Barred:fA K kbi
 cxf2_Barred:fB K kbi
 cxf3_Barred:fC K kbi
 ch_Barred_BenchError:eB K kbi kat
 ck_0_Barred:kF K kbi kbj false
 ck_1_Barred:kF K kbi kav false
 ck_2_Barred:kF K kbi kbb false
 ck_3_Barred:kF K kbi kbk false
 ck_4_Barred:kF K kbi kbv false
 ck_5_Barred:kF K kbi kbi true
 ck_6_Barred:kF K kbi ka1 false
 ck_7_Barred:kN K kbi [kbo,kby,ka4,kaT,kaN,kbG,kbl,kbq,ka3,kbr,kbz]
 ck_8_Barred:kN K kbi [kaE,kbC,kbg,kba,kaI]
 ck_9_Barred:kV K kbi
 kaR:xA K kbv
 cxob_Marked:mO K kbv "object"
 cxba_Marked:mO K kbv "BaseException"
 cxf1_Marked:fA K kbv
 cxf2_Marked:fB K kbv
 cxf3_Marked:fC K kbv
 ch_Marked_BenchError:eB K kbv kat
 ck_0_Marked:kF K kbv kbj false
 ck_1_Marked:kF K kbv kav false
 ck_2_Marked:kF K kbv kbb false
 ck_3_Marked:kF K kbv kbk false
 ck_4_Marked:kF K kbv kbv true
 ck_5_Marked:kF K kbv kbi false
 ck_6_Marked:kF K kbv ka1 false
 ck_7_Marked:kN K kbv [kbo,kby,ka4,kaT,kaN,kbG,kbl,kbq,ka3,kbr,kbz]
 ck_8_Marked:kN K kbv [kaE,kbC,kbg,kba,kaI]
 ck_9_Marked:kV K kbv
 kbd:xA K kbj
 cxob_NoDeed:mO K kbj "object"
 cxba_NoDeed:mO K kbj "BaseException"
 cxf1_NoDeed:fA K kbj
 cxf2_NoDeed:fB K kbj
 cxf3_NoDeed:fC K kbj
 ch_NoDeed_BenchError:eB K kbj kat
 ck_0_NoDeed:kF K kbj kbj true
 ck_1_NoDeed:kF K kbj kav false
 ck_2_NoDeed:kF K kbj kbb false
 ck_3_NoDeed:kF K kbj kbk false
 ck_4_NoDeed:kF K kbj kbv false
 ck_5_NoDeed:kF K kbj kbi false
 ck_6_NoDeed:kF K kbj ka1 false
 ck_7_NoDeed:kN K kbj [kbo,kby,ka4,kaT,kaN,kbG,kbl,kbq,ka3,kbr,kbz]
 ck_8_NoDeed:kN K kbj [kaE,kbC,kbg,kba,kaI]
 ck_9_NoDeed:kV K kbj
 ka5:xA K kbk
 cxob_NoMark:mO K kbk "object"
 cxba_NoMark:mO K kbk "BaseException"
 cxf1_NoMark:fA K kbk
 cxf2_NoMark:fB K kbk
 cxf3_NoMark:fC K kbk
 ch_NoMark_BenchError:eB K kbk kat
 ck_0_NoMark:kF K kbk kbj false
 ck_1_NoMark:kF K kbk kav false
 ck_2_NoMark:kF K kbk kbb false
 ck_3_NoMark:kF K kbk kbk true
 ck_4_NoMark:kF K kbk kbv false
 ck_5_NoMark:kF K kbk kbi false
 ck_6_NoMark:kF K kbk ka1 false
 ck_7_NoMark:kN K kbk [kbo,kby,ka4,kaT,kaN,kbG,kbl,kbq,ka3,kbr,kbz]
 ck_8_NoMark:kN K kbk [kaE,kbC,kbg,kba,kaI]
 ck_9_NoMark:kV K kbk
 kaM:xA K kbb
 cxob_NoPlace:mO K kbb "object"
 cxba_NoPlace:mO K kbb "BaseException"
 cxf1_NoPlace:fA K kbb
 cxf2_NoPlace:fB K kbb
 cxf3_NoPlace:fC K kbb
 ch_NoPlace_BenchError:eB K kbb kat
 ck_0_NoPlace:kF K kbb kbj false
 ck_1_NoPlace:kF K kbb kav false
 ck_2_NoPlace:kF K kbb kbb true
 ck_3_NoPlace:kF K kbb kbk false
 ck_4_NoPlace:kF K kbb kbv false
 ck_5_NoPlace:kF K kbb kbi false
 ck_6_NoPlace:kF K kbb ka1 false
 ck_7_NoPlace:kN K kbb [kbo,kby,ka4,kaT,kaN,kbG,kbl,kbq,ka3,kbr,kbz]
 ck_8_NoPlace:kN K kbb [kaE,kbC,kbg,kba,kaI]
 ck_9_NoPlace:kV K kbb
 kar:xA K kav
 cxob_NoStanding:mO K kav "object"
 cxba_NoStanding:mO K kav "BaseException"
 cxf1_NoStanding:fA K kav
 cxf2_NoStanding:fB K kav
 cxf3_NoStanding:fC K kav
 ch_NoStanding_BenchError:eB K kav kat
 ck_0_NoStanding:kF K kav kbj false
 ck_1_NoStanding:kF K kav kav true
 ck_2_NoStanding:kF K kav kbb false
 ck_3_NoStanding:kF K kav kbk false
 ck_4_NoStanding:kF K kav kbv false
 ck_5_NoStanding:kF K kav kbi false
 ck_6_NoStanding:kF K kav ka1 false
 ck_7_NoStanding:kN K kav [kbo,kby,ka4,kaT,kaN,kbG,kbl,kbq,ka3,kbr,kbz]
 ck_8_NoStanding:kN K kav [kaE,kbC,kbg,kba,kaI]
 ck_9_NoStanding:kV K kav
 kaP:xA K ka1
 cxob_TooLong:mO K ka1 "object"
 cxba_TooLong:mO K ka1 "BaseException"
 cxf1_TooLong:fA K ka1
 cxf2_TooLong:fB K ka1
 cxf3_TooLong:fC K ka1
 ch_TooLong_BenchError:eB K ka1 kat
 ck_0_TooLong:kF K ka1 kbj false
 ck_1_TooLong:kF K ka1 kav false
 ck_2_TooLong:kF K ka1 kbb false
 ck_3_TooLong:kF K ka1 kbk false
 ck_4_TooLong:kF K ka1 kbv false
 ck_5_TooLong:kF K ka1 kbi false
 ck_6_TooLong:kF K ka1 ka1 true
 ck_7_TooLong:kN K ka1 [kbo,kby,ka4,kaT,kaN,kbG,kbl,kbq,ka3,kbr,kbz]
 ck_8_TooLong:kN K ka1 [kaE,kbC,kbg,kba,kaI]
 ck_9_TooLong:kV K ka1
 cnd:[kbi,kbv,kbj,kbk,kbb,kav,ka1].Nodup
section
variable{K:W.Frag}{mg:Str->Option Value}
noncomputable abbrev GT(T:Wd K mg):Gx:=mkG K [("Barred",T.kbi),("Marked",T.kbv),("NoDeed",T.kbj),("NoMark",T.kbk),("NoPlace",T.kbb),("NoStanding",T.kav),("TooLong",T.ka1)] T.cnd (.cons (z48 T.ka7) (.cons (z48 T.kaR) (.cons (z48 T.kbd) (.cons (z48 T.ka5) (.cons (z48 T.kaM) (.cons (z48 T.kar) (.cons (z48 T.kaP) .nil)))))))
theorem zaF(T:Wd K mg):(GT T).cl "Barred" =some T.kbi:=rfl
theorem z7G(T:Wd K mg):(GT T).cl "Marked" =some T.kbv:=rfl
theorem zaG(T:Wd K mg):(GT T).cl "NoDeed" =some T.kbj:=rfl
theorem zaH(T:Wd K mg):(GT T).cl "NoMark" =some T.kbk:=rfl
theorem z4Q(T:Wd K mg):(GT T).cl "NoPlace" =some T.kbb:=rfl
theorem z71(T:Wd K mg):(GT T).cl "NoStanding" =some T.kav:=rfl
theorem z9x(T:Wd K mg):(GT T).cl "TooLong" =some T.ka1:=rfl
noncomputable def z2c(c:Str):Bool:=[("Barred" :Str),("Marked" :Str),("NoDeed" :Str),("NoMark" :Str),("NoPlace" :Str),("NoStanding" :Str),("TooLong" :Str)].contains c
theorem z72(T:Wd K mg): ∀c C,(GT T).cl c=some C->z2c c=true->eB K C T.kat:=fun c C h1 h2=>by
 have h3:([("Barred",()),("Marked",()),("NoDeed",()),("NoMark",()),("NoPlace",()),("NoStanding",()),("TooLong",())]:List (Str×Unit)).lookup c=some ():=by
  unfold z2c at h2;simp only[List.contains_cons,List.contains_nil,Bool.or_eq_true,Bool.or_false,beq_iff_eq] at h2
  rcases h2 with rfl|rfl|rfl|rfl|rfl|rfl|rfl<;>rfl
 exact Al2.at (Φ:=fun C (_:Unit)=>eB K C T.kat) (.cons (b:=()) T.ch_Barred_BenchError (.cons (b:=()) T.ch_Marked_BenchError (.cons (b:=()) T.ch_NoDeed_BenchError (.cons (b:=()) T.ch_NoMark_BenchError (.cons (b:=()) T.ch_NoPlace_BenchError (.cons (b:=()) T.ch_NoStanding_BenchError (.cons (b:=()) T.ch_TooLong_BenchError .nil))))))) h1 h3
noncomputable def tb_0(c:Str):Option Bool:=[(("Barred" :Str),false),(("Marked" :Str),false),(("NoDeed" :Str),true),(("NoMark" :Str),false),(("NoPlace" :Str),false),(("NoStanding" :Str),false),(("TooLong" :Str),false)].lookup c
theorem ht_0(T:Wd K mg): ∀r C b,(GT T).cl r=some C->tb_0 r=some b->XCls K C/\W.kitOne K (.ref C) (cvV (.ref T.kbj))=some b:=fun r C b h1 h2=>Al2.at (Φ:=fun C b=>XCls K C/\W.kitOne K (.ref C) (cvV (.ref T.kbj))=some b) (.cons ⟨⟨T.cxob_Barred,T.cxba_Barred,T.cxf1_Barred,T.cxf2_Barred,T.cxf3_Barred⟩,T.ck_0_Barred⟩ (.cons ⟨⟨T.cxob_Marked,T.cxba_Marked,T.cxf1_Marked,T.cxf2_Marked,T.cxf3_Marked⟩,T.ck_0_Marked⟩ (.cons ⟨⟨T.cxob_NoDeed,T.cxba_NoDeed,T.cxf1_NoDeed,T.cxf2_NoDeed,T.cxf3_NoDeed⟩,T.ck_0_NoDeed⟩ (.cons ⟨⟨T.cxob_NoMark,T.cxba_NoMark,T.cxf1_NoMark,T.cxf2_NoMark,T.cxf3_NoMark⟩,T.ck_0_NoMark⟩ (.cons ⟨⟨T.cxob_NoPlace,T.cxba_NoPlace,T.cxf1_NoPlace,T.cxf2_NoPlace,T.cxf3_NoPlace⟩,T.ck_0_NoPlace⟩ (.cons ⟨⟨T.cxob_NoStanding,T.cxba_NoStanding,T.cxf1_NoStanding,T.cxf2_NoStanding,T.cxf3_NoStanding⟩,T.ck_0_NoStanding⟩ (.cons ⟨⟨T.cxob_TooLong,T.cxba_TooLong,T.cxf1_TooLong,T.cxf2_TooLong,T.cxf3_TooLong⟩,T.ck_0_TooLong⟩ .nil))))))) h1 h2
noncomputable def tb_1(c:Str):Option Bool:=[(("Barred" :Str),false),(("Marked" :Str),false),(("NoDeed" :Str),false),(("NoMark" :Str),false),(("NoPlace" :Str),false),(("NoStanding" :Str),true),(("TooLong" :Str),false)].lookup c
theorem ht_1(T:Wd K mg): ∀r C b,(GT T).cl r=some C->tb_1 r=some b->XCls K C/\W.kitOne K (.ref C) (cvV (.ref T.kav))=some b:=fun r C b h1 h2=>Al2.at (Φ:=fun C b=>XCls K C/\W.kitOne K (.ref C) (cvV (.ref T.kav))=some b) (.cons ⟨⟨T.cxob_Barred,T.cxba_Barred,T.cxf1_Barred,T.cxf2_Barred,T.cxf3_Barred⟩,T.ck_1_Barred⟩ (.cons ⟨⟨T.cxob_Marked,T.cxba_Marked,T.cxf1_Marked,T.cxf2_Marked,T.cxf3_Marked⟩,T.ck_1_Marked⟩ (.cons ⟨⟨T.cxob_NoDeed,T.cxba_NoDeed,T.cxf1_NoDeed,T.cxf2_NoDeed,T.cxf3_NoDeed⟩,T.ck_1_NoDeed⟩ (.cons ⟨⟨T.cxob_NoMark,T.cxba_NoMark,T.cxf1_NoMark,T.cxf2_NoMark,T.cxf3_NoMark⟩,T.ck_1_NoMark⟩ (.cons ⟨⟨T.cxob_NoPlace,T.cxba_NoPlace,T.cxf1_NoPlace,T.cxf2_NoPlace,T.cxf3_NoPlace⟩,T.ck_1_NoPlace⟩ (.cons ⟨⟨T.cxob_NoStanding,T.cxba_NoStanding,T.cxf1_NoStanding,T.cxf2_NoStanding,T.cxf3_NoStanding⟩,T.ck_1_NoStanding⟩ (.cons ⟨⟨T.cxob_TooLong,T.cxba_TooLong,T.cxf1_TooLong,T.cxf2_TooLong,T.cxf3_TooLong⟩,T.ck_1_TooLong⟩ .nil))))))) h1 h2
noncomputable def tb_2(c:Str):Option Bool:=[(("Barred" :Str),false),(("Marked" :Str),false),(("NoDeed" :Str),false),(("NoMark" :Str),false),(("NoPlace" :Str),true),(("NoStanding" :Str),false),(("TooLong" :Str),false)].lookup c
theorem ht_2(T:Wd K mg): ∀r C b,(GT T).cl r=some C->tb_2 r=some b->XCls K C/\W.kitOne K (.ref C) (cvV (.ref T.kbb))=some b:=fun r C b h1 h2=>Al2.at (Φ:=fun C b=>XCls K C/\W.kitOne K (.ref C) (cvV (.ref T.kbb))=some b) (.cons ⟨⟨T.cxob_Barred,T.cxba_Barred,T.cxf1_Barred,T.cxf2_Barred,T.cxf3_Barred⟩,T.ck_2_Barred⟩ (.cons ⟨⟨T.cxob_Marked,T.cxba_Marked,T.cxf1_Marked,T.cxf2_Marked,T.cxf3_Marked⟩,T.ck_2_Marked⟩ (.cons ⟨⟨T.cxob_NoDeed,T.cxba_NoDeed,T.cxf1_NoDeed,T.cxf2_NoDeed,T.cxf3_NoDeed⟩,T.ck_2_NoDeed⟩ (.cons ⟨⟨T.cxob_NoMark,T.cxba_NoMark,T.cxf1_NoMark,T.cxf2_NoMark,T.cxf3_NoMark⟩,T.ck_2_NoMark⟩ (.cons ⟨⟨T.cxob_NoPlace,T.cxba_NoPlace,T.cxf1_NoPlace,T.cxf2_NoPlace,T.cxf3_NoPlace⟩,T.ck_2_NoPlace⟩ (.cons ⟨⟨T.cxob_NoStanding,T.cxba_NoStanding,T.cxf1_NoStanding,T.cxf2_NoStanding,T.cxf3_NoStanding⟩,T.ck_2_NoStanding⟩ (.cons ⟨⟨T.cxob_TooLong,T.cxba_TooLong,T.cxf1_TooLong,T.cxf2_TooLong,T.cxf3_TooLong⟩,T.ck_2_TooLong⟩ .nil))))))) h1 h2
noncomputable def tb_3(c:Str):Option Bool:=[(("Barred" :Str),false),(("Marked" :Str),false),(("NoDeed" :Str),false),(("NoMark" :Str),true),(("NoPlace" :Str),false),(("NoStanding" :Str),false),(("TooLong" :Str),false)].lookup c
theorem ht_3(T:Wd K mg): ∀r C b,(GT T).cl r=some C->tb_3 r=some b->XCls K C/\W.kitOne K (.ref C) (cvV (.ref T.kbk))=some b:=fun r C b h1 h2=>Al2.at (Φ:=fun C b=>XCls K C/\W.kitOne K (.ref C) (cvV (.ref T.kbk))=some b) (.cons ⟨⟨T.cxob_Barred,T.cxba_Barred,T.cxf1_Barred,T.cxf2_Barred,T.cxf3_Barred⟩,T.ck_3_Barred⟩ (.cons ⟨⟨T.cxob_Marked,T.cxba_Marked,T.cxf1_Marked,T.cxf2_Marked,T.cxf3_Marked⟩,T.ck_3_Marked⟩ (.cons ⟨⟨T.cxob_NoDeed,T.cxba_NoDeed,T.cxf1_NoDeed,T.cxf2_NoDeed,T.cxf3_NoDeed⟩,T.ck_3_NoDeed⟩ (.cons ⟨⟨T.cxob_NoMark,T.cxba_NoMark,T.cxf1_NoMark,T.cxf2_NoMark,T.cxf3_NoMark⟩,T.ck_3_NoMark⟩ (.cons ⟨⟨T.cxob_NoPlace,T.cxba_NoPlace,T.cxf1_NoPlace,T.cxf2_NoPlace,T.cxf3_NoPlace⟩,T.ck_3_NoPlace⟩ (.cons ⟨⟨T.cxob_NoStanding,T.cxba_NoStanding,T.cxf1_NoStanding,T.cxf2_NoStanding,T.cxf3_NoStanding⟩,T.ck_3_NoStanding⟩ (.cons ⟨⟨T.cxob_TooLong,T.cxba_TooLong,T.cxf1_TooLong,T.cxf2_TooLong,T.cxf3_TooLong⟩,T.ck_3_TooLong⟩ .nil))))))) h1 h2
noncomputable def tb_4(c:Str):Option Bool:=[(("Barred" :Str),false),(("Marked" :Str),true),(("NoDeed" :Str),false),(("NoMark" :Str),false),(("NoPlace" :Str),false),(("NoStanding" :Str),false),(("TooLong" :Str),false)].lookup c
theorem ht_4(T:Wd K mg): ∀r C b,(GT T).cl r=some C->tb_4 r=some b->XCls K C/\W.kitOne K (.ref C) (cvV (.ref T.kbv))=some b:=fun r C b h1 h2=>Al2.at (Φ:=fun C b=>XCls K C/\W.kitOne K (.ref C) (cvV (.ref T.kbv))=some b) (.cons ⟨⟨T.cxob_Barred,T.cxba_Barred,T.cxf1_Barred,T.cxf2_Barred,T.cxf3_Barred⟩,T.ck_4_Barred⟩ (.cons ⟨⟨T.cxob_Marked,T.cxba_Marked,T.cxf1_Marked,T.cxf2_Marked,T.cxf3_Marked⟩,T.ck_4_Marked⟩ (.cons ⟨⟨T.cxob_NoDeed,T.cxba_NoDeed,T.cxf1_NoDeed,T.cxf2_NoDeed,T.cxf3_NoDeed⟩,T.ck_4_NoDeed⟩ (.cons ⟨⟨T.cxob_NoMark,T.cxba_NoMark,T.cxf1_NoMark,T.cxf2_NoMark,T.cxf3_NoMark⟩,T.ck_4_NoMark⟩ (.cons ⟨⟨T.cxob_NoPlace,T.cxba_NoPlace,T.cxf1_NoPlace,T.cxf2_NoPlace,T.cxf3_NoPlace⟩,T.ck_4_NoPlace⟩ (.cons ⟨⟨T.cxob_NoStanding,T.cxba_NoStanding,T.cxf1_NoStanding,T.cxf2_NoStanding,T.cxf3_NoStanding⟩,T.ck_4_NoStanding⟩ (.cons ⟨⟨T.cxob_TooLong,T.cxba_TooLong,T.cxf1_TooLong,T.cxf2_TooLong,T.cxf3_TooLong⟩,T.ck_4_TooLong⟩ .nil))))))) h1 h2
noncomputable def tb_5(c:Str):Option Bool:=[(("Barred" :Str),true),(("Marked" :Str),false),(("NoDeed" :Str),false),(("NoMark" :Str),false),(("NoPlace" :Str),false),(("NoStanding" :Str),false),(("TooLong" :Str),false)].lookup c
theorem ht_5(T:Wd K mg): ∀r C b,(GT T).cl r=some C->tb_5 r=some b->XCls K C/\W.kitOne K (.ref C) (cvV (.ref T.kbi))=some b:=fun r C b h1 h2=>Al2.at (Φ:=fun C b=>XCls K C/\W.kitOne K (.ref C) (cvV (.ref T.kbi))=some b) (.cons ⟨⟨T.cxob_Barred,T.cxba_Barred,T.cxf1_Barred,T.cxf2_Barred,T.cxf3_Barred⟩,T.ck_5_Barred⟩ (.cons ⟨⟨T.cxob_Marked,T.cxba_Marked,T.cxf1_Marked,T.cxf2_Marked,T.cxf3_Marked⟩,T.ck_5_Marked⟩ (.cons ⟨⟨T.cxob_NoDeed,T.cxba_NoDeed,T.cxf1_NoDeed,T.cxf2_NoDeed,T.cxf3_NoDeed⟩,T.ck_5_NoDeed⟩ (.cons ⟨⟨T.cxob_NoMark,T.cxba_NoMark,T.cxf1_NoMark,T.cxf2_NoMark,T.cxf3_NoMark⟩,T.ck_5_NoMark⟩ (.cons ⟨⟨T.cxob_NoPlace,T.cxba_NoPlace,T.cxf1_NoPlace,T.cxf2_NoPlace,T.cxf3_NoPlace⟩,T.ck_5_NoPlace⟩ (.cons ⟨⟨T.cxob_NoStanding,T.cxba_NoStanding,T.cxf1_NoStanding,T.cxf2_NoStanding,T.cxf3_NoStanding⟩,T.ck_5_NoStanding⟩ (.cons ⟨⟨T.cxob_TooLong,T.cxba_TooLong,T.cxf1_TooLong,T.cxf2_TooLong,T.cxf3_TooLong⟩,T.ck_5_TooLong⟩ .nil))))))) h1 h2
noncomputable def tb_6(c:Str):Option Bool:=[(("Barred" :Str),false),(("Marked" :Str),false),(("NoDeed" :Str),false),(("NoMark" :Str),false),(("NoPlace" :Str),false),(("NoStanding" :Str),false),(("TooLong" :Str),true)].lookup c
theorem ht_6(T:Wd K mg): ∀r C b,(GT T).cl r=some C->tb_6 r=some b->XCls K C/\W.kitOne K (.ref C) (cvV (.ref T.ka1))=some b:=fun r C b h1 h2=>Al2.at (Φ:=fun C b=>XCls K C/\W.kitOne K (.ref C) (cvV (.ref T.ka1))=some b) (.cons ⟨⟨T.cxob_Barred,T.cxba_Barred,T.cxf1_Barred,T.cxf2_Barred,T.cxf3_Barred⟩,T.ck_6_Barred⟩ (.cons ⟨⟨T.cxob_Marked,T.cxba_Marked,T.cxf1_Marked,T.cxf2_Marked,T.cxf3_Marked⟩,T.ck_6_Marked⟩ (.cons ⟨⟨T.cxob_NoDeed,T.cxba_NoDeed,T.cxf1_NoDeed,T.cxf2_NoDeed,T.cxf3_NoDeed⟩,T.ck_6_NoDeed⟩ (.cons ⟨⟨T.cxob_NoMark,T.cxba_NoMark,T.cxf1_NoMark,T.cxf2_NoMark,T.cxf3_NoMark⟩,T.ck_6_NoMark⟩ (.cons ⟨⟨T.cxob_NoPlace,T.cxba_NoPlace,T.cxf1_NoPlace,T.cxf2_NoPlace,T.cxf3_NoPlace⟩,T.ck_6_NoPlace⟩ (.cons ⟨⟨T.cxob_NoStanding,T.cxba_NoStanding,T.cxf1_NoStanding,T.cxf2_NoStanding,T.cxf3_NoStanding⟩,T.ck_6_NoStanding⟩ (.cons ⟨⟨T.cxob_TooLong,T.cxba_TooLong,T.cxf1_TooLong,T.cxf2_TooLong,T.cxf3_TooLong⟩,T.ck_6_TooLong⟩ .nil))))))) h1 h2
noncomputable def tb_7(c:Str):Option Bool:=[(("Barred" :Str),false),(("Marked" :Str),false),(("NoDeed" :Str),false),(("NoMark" :Str),false),(("NoPlace" :Str),false),(("NoStanding" :Str),false),(("TooLong" :Str),false)].lookup c
theorem ht_7(T:Wd K mg): ∀r C b,(GT T).cl r=some C->tb_7 r=some b->XCls K C/\W.kitAny K (.ref C) ([V.ref T.kbo,V.ref T.kby,V.ref T.ka4,V.ref T.kaT,V.ref T.kaN,V.ref T.kbG,V.ref T.kbl,V.ref T.kbq,V.ref T.ka3,V.ref T.kbr,V.ref T.kbz].map cvV)=some b:=fun r C b h1 h2=>Al2.at (Φ:=fun C b=>XCls K C/\W.kitAny K (.ref C) ([V.ref T.kbo,V.ref T.kby,V.ref T.ka4,V.ref T.kaT,V.ref T.kaN,V.ref T.kbG,V.ref T.kbl,V.ref T.kbq,V.ref T.ka3,V.ref T.kbr,V.ref T.kbz].map cvV)=some b) (.cons ⟨⟨T.cxob_Barred,T.cxba_Barred,T.cxf1_Barred,T.cxf2_Barred,T.cxf3_Barred⟩,T.ck_7_Barred⟩ (.cons ⟨⟨T.cxob_Marked,T.cxba_Marked,T.cxf1_Marked,T.cxf2_Marked,T.cxf3_Marked⟩,T.ck_7_Marked⟩ (.cons ⟨⟨T.cxob_NoDeed,T.cxba_NoDeed,T.cxf1_NoDeed,T.cxf2_NoDeed,T.cxf3_NoDeed⟩,T.ck_7_NoDeed⟩ (.cons ⟨⟨T.cxob_NoMark,T.cxba_NoMark,T.cxf1_NoMark,T.cxf2_NoMark,T.cxf3_NoMark⟩,T.ck_7_NoMark⟩ (.cons ⟨⟨T.cxob_NoPlace,T.cxba_NoPlace,T.cxf1_NoPlace,T.cxf2_NoPlace,T.cxf3_NoPlace⟩,T.ck_7_NoPlace⟩ (.cons ⟨⟨T.cxob_NoStanding,T.cxba_NoStanding,T.cxf1_NoStanding,T.cxf2_NoStanding,T.cxf3_NoStanding⟩,T.ck_7_NoStanding⟩ (.cons ⟨⟨T.cxob_TooLong,T.cxba_TooLong,T.cxf1_TooLong,T.cxf2_TooLong,T.cxf3_TooLong⟩,T.ck_7_TooLong⟩ .nil))))))) h1 h2
noncomputable def tb_8(c:Str):Option Bool:=[(("Barred" :Str),false),(("Marked" :Str),false),(("NoDeed" :Str),false),(("NoMark" :Str),false),(("NoPlace" :Str),false),(("NoStanding" :Str),false),(("TooLong" :Str),false)].lookup c
theorem ht_8(T:Wd K mg): ∀r C b,(GT T).cl r=some C->tb_8 r=some b->XCls K C/\W.kitAny K (.ref C) ([V.ref T.kaE,V.ref T.kbC,V.ref T.kbg,V.ref T.kba,V.ref T.kaI].map cvV)=some b:=fun r C b h1 h2=>Al2.at (Φ:=fun C b=>XCls K C/\W.kitAny K (.ref C) ([V.ref T.kaE,V.ref T.kbC,V.ref T.kbg,V.ref T.kba,V.ref T.kaI].map cvV)=some b) (.cons ⟨⟨T.cxob_Barred,T.cxba_Barred,T.cxf1_Barred,T.cxf2_Barred,T.cxf3_Barred⟩,T.ck_8_Barred⟩ (.cons ⟨⟨T.cxob_Marked,T.cxba_Marked,T.cxf1_Marked,T.cxf2_Marked,T.cxf3_Marked⟩,T.ck_8_Marked⟩ (.cons ⟨⟨T.cxob_NoDeed,T.cxba_NoDeed,T.cxf1_NoDeed,T.cxf2_NoDeed,T.cxf3_NoDeed⟩,T.ck_8_NoDeed⟩ (.cons ⟨⟨T.cxob_NoMark,T.cxba_NoMark,T.cxf1_NoMark,T.cxf2_NoMark,T.cxf3_NoMark⟩,T.ck_8_NoMark⟩ (.cons ⟨⟨T.cxob_NoPlace,T.cxba_NoPlace,T.cxf1_NoPlace,T.cxf2_NoPlace,T.cxf3_NoPlace⟩,T.ck_8_NoPlace⟩ (.cons ⟨⟨T.cxob_NoStanding,T.cxba_NoStanding,T.cxf1_NoStanding,T.cxf2_NoStanding,T.cxf3_NoStanding⟩,T.ck_8_NoStanding⟩ (.cons ⟨⟨T.cxob_TooLong,T.cxba_TooLong,T.cxf1_TooLong,T.cxf2_TooLong,T.cxf3_TooLong⟩,T.ck_8_TooLong⟩ .nil))))))) h1 h2
noncomputable def tb_9(c:Str):Option Bool:=[(("Barred" :Str),true),(("Marked" :Str),true),(("NoDeed" :Str),true),(("NoMark" :Str),true),(("NoPlace" :Str),true),(("NoStanding" :Str),true),(("TooLong" :Str),true)].lookup c
theorem ht_9(T:Wd K mg): ∀r C b,(GT T).cl r=some C->tb_9 r=some b->XCls K C/\W.kitOne K (.ref C) (cvV (.ty "ValueError"))=some b:=fun r C b h1 h2=>Al2.at (Φ:=fun C b=>XCls K C/\W.kitOne K (.ref C) (cvV (.ty "ValueError"))=some b) (.cons ⟨⟨T.cxob_Barred,T.cxba_Barred,T.cxf1_Barred,T.cxf2_Barred,T.cxf3_Barred⟩,T.ck_9_Barred⟩ (.cons ⟨⟨T.cxob_Marked,T.cxba_Marked,T.cxf1_Marked,T.cxf2_Marked,T.cxf3_Marked⟩,T.ck_9_Marked⟩ (.cons ⟨⟨T.cxob_NoDeed,T.cxba_NoDeed,T.cxf1_NoDeed,T.cxf2_NoDeed,T.cxf3_NoDeed⟩,T.ck_9_NoDeed⟩ (.cons ⟨⟨T.cxob_NoMark,T.cxba_NoMark,T.cxf1_NoMark,T.cxf2_NoMark,T.cxf3_NoMark⟩,T.ck_9_NoMark⟩ (.cons ⟨⟨T.cxob_NoPlace,T.cxba_NoPlace,T.cxf1_NoPlace,T.cxf2_NoPlace,T.cxf3_NoPlace⟩,T.ck_9_NoPlace⟩ (.cons ⟨⟨T.cxob_NoStanding,T.cxba_NoStanding,T.cxf1_NoStanding,T.cxf2_NoStanding,T.cxf3_NoStanding⟩,T.ck_9_NoStanding⟩ (.cons ⟨⟨T.cxob_TooLong,T.cxba_TooLong,T.cxf1_TooLong,T.cxf2_TooLong,T.cxf3_TooLong⟩,T.ck_9_TooLong⟩ .nil))))))) h1 h2
end
section
variable{P:Program}{w:World}{K:W.Frag}{mg:Str->Option Value}{base:Heap}
noncomputable def z3b:MS:=(sRet (z3r (mIsi "int" (mVar 0)) (z7p (mIsi "bool" (mVar 0)))))
noncomputable def z2d:FM:=runF 1 z3b
theorem z6h(T:Wd K mg):FnOk P w K mg base CX0 1 T.kaq.f T.kaq.d z35 (spM (GT T) 1 z2d):=okM z3b T.kaq.F z6f fun cdv A outer s H E F hr=>(ss_one (ss_ret (se_and (se_isi rfl (by decide) rfl T.n_isinstance (sv 0) (z1x (v:= .ty "int") rfl T.n_int PyProof.Rows.Boot.«int» rfl)) (se_one (se_not (se_isi rfl (by decide) rfl T.n_isinstance (sv 0) (z1x (v:= .ty "bool") rfl T.n_bool PyProof.Rows.Boot.«bool» rfl)))))))
noncomputable def z3E:MS:=(sRet (z3r (z03 z2d [(mVar 0)]) (z0y (mVar 1) (mVar 0) (mVar 2) leD leD)))
noncomputable def z0l:FM:=runF 3 z3E
theorem z0z(T:Wd K mg):FnOk P w K mg base CX0 2 T.kax.f T.kax.d z3y (spM (GT T) 3 z0l):=okM z3E T.kax.F z6Z fun cdv A outer s H E F hr=>(ss_one (ss_ret (se_and (scl T.kaq (z6h T) hr (s1 (sv 0))) (se_one (se_cmp2 z3m z3m (sv 1) (sv 0) (sv 2))))))
noncomputable def z4R:MS:=(seqS (sIf (mOr (mNot (z0R (mIsi "tuple" (mVar 0)))) (mNot (mBoo (z0y (mVar 1) (mCB [(mVar 0)] lenD) (mVar 2) leD leD)))) (sRet (mC (.bool false))) sNx)
 (sRet (mCB [(z0t (z1j (mVar 0)) (.nm 0) (rt true) (z03 z0l [(mVar 0),(mC (.int 0)),(mVar 1)]) 1 [3])] allD)))
noncomputable def z2h:FM:=runF 4 z4R
theorem z4f(T:Wd K mg):FnOk P w K mg base CX0 3 T.kaK.f T.kaK.d z4N (spM (GT T) 4 z2h):=okM z4R T.kaK.F z8h fun cdv A outer s H E F hr=>(ss_cons (ss_if (SW.sb (sw_or (sb_not (sb_truth rfl (se_isi rfl (by decide) rfl T.n_isinstance (sv 0) (z1x (v:= .ty "tuple") rfl T.n_tuple PyProof.Rows.Boot.«tuple» rfl)))) (sw_or1 (sb_not (sb_cmp2 z3m z3m (sv 1) (sln T.n_len (s1 (sv 0))) (sv 2)))))) (ss_one (ss_ret (sc0 z1R))) ss_nil)
 (ss_one (ss_ret (se_cb rfl (zar rfl hr.hd) rfl T.n_all PyProof.Rows.Boot.«all» (s1 (se_comp (own:=["part"]) (frees:=["high"]) (ix:=[3]) rfl rfl (z1y.sc (by kernel_rfl)) (si_seq rfl (sv 0)) (fun _ _ _ _ _ _ _=>(sg_name (z0u (i:=0) (show List.Nodup (["part", "high"]:List Str) by decide+kernel) rfl (Or.inl rfl)))) (fun _ _ _ _ _ _ _=>sts_nil) (fun _ _ _ _ _ _ _=>(scl T.kax (z0z T) hr (s3 (sv 0) (sc0 z00) (sv 1))))))))))
noncomputable def z2I:MS:=(seqS (sIf (mBoo (mBin (mVar 1) (mC .non) isN)) (sRet (mVar 0)) sNx)
 (sRet (mBin (mSl (mVar 0) none (some (mBin (mVar 1) (mC (.int 0)) ixD))) (mSl (mVar 0) (some (mBin (mVar 1) (mC (.int 1)) ixD)) none) addD)))
noncomputable def z0O:FM:=runF 2 z2I
theorem z3F(T:Wd K mg):FnOk P w K mg base CX0 1 T.kak.f T.kak.d z2D (spM (GT T) 2 z0O):=okM z2I T.kak.F z5P fun cdv A outer s H E F hr=>(ss_cons (ss_if (sb_cmp z7u (sv 1) (sc0 z1w) (z04 _)) (ss_one (ss_ret (sv 0))) ss_nil)
 (ss_one (ss_ret (se_add rfl (se_slice rfl (sv 0) so_none (so_some (sxc (sv 1) z00))) (se_slice rfl (sv 0) (so_some (sxc (sv 1) z00)) so_none)))))
noncomputable def z0Z:MS:=(seqS (sIf (mOr (mNot (z0R (mIsi "tuple" (mVar 0)))) (mBoo (mBin (mCB [(mVar 0)] lenD) (mC (.int 2)) neD))) (sRet (mC (.bool false))) sNx)
 (seqS (sAsg (.tp [(.nm 2),(.nm 3)]) (mVar 0))
 (sRet (z3r (z03 z0l [(mVar 2),(mC (.int 0)),(mVar 1)]) (z03 z0l [(mVar 3),(mBin (mVar 2) (mC (.int 1)) addD),(mCB [(mVar 1),(mBin (mVar 2) (mC (.int 96)) addD)] minD)])))))
noncomputable def z0A:FM:=runF 4 z0Z
theorem z3o(T:Wd K mg):FnOk P w K mg base CX0 3 T.kaa.f T.kaa.d z0Y (spM (GT T) 2 z0A):=okM z0Z T.kaa.F z0S fun cdv A outer s H E F hr=>by
 have h64:=hr.units
 exact(ss_cons (ss_if (SW.sb (sw_or (sb_not (sb_truth rfl (se_isi rfl (by decide) rfl T.n_isinstance (sv 0) (z1x (v:= .ty "tuple") rfl T.n_tuple PyProof.Rows.Boot.«tuple» rfl)))) (sw_or1 (sb_cmp (z4I rfl h64) (sln T.n_len (s1 (sv 0))) (sc0 z00) (z04 _))))) (ss_one (ss_ret (sc0 z1R))) ss_nil)
 (ss_cons (ss_asg (sv 0) (sg_tup rfl rfl (sgs_cons (sgn 2 z0S.nd) (sgs_cons (sgn 3 z0S.nd) sgs_nil))))
 (ss_one (ss_ret (se_and (scl T.kax (z0z T) hr (s3 (sv 2) (sc0 z00) (sv 1))) (se_one (scl T.kax (z0z T) hr (s3 (sv 3) (se_add rfl (sv 2) (sc0 z00)) (se_cb rfl (zaq rfl) rfl T.n_min PyProof.Rows.Boot.«min» (s2 (sv 1) (se_add rfl (sv 2) (se_c rfl (z0d (v:= .int 96) rfl T.c_MOST_MARKED.choose_spec ⟨_,rfl⟩)))))))))))))
noncomputable def z2J:MS:=(sRet (mCB [(z0t (z1j (mVar 1)) (.nm 0) (rt true) (mBin (mVar 0) (mVar 1) inD) 1 [0])] anyD))
noncomputable def z0P:FM:=runF 2 z2J
theorem z3G(T:Wd K mg):FnOk P w K mg base CX0 1 T.kaj.f T.kaj.d z2E (spM (GT T) 2 z0P):=okM z2J T.kaj.F z5Q fun cdv A outer s H E F hr=>by
 have h64:=hr.units
 exact(ss_one (ss_ret (se_cb rfl (zfP rfl hr.hd) rfl T.n_any PyProof.Rows.Boot.«any» (s1 (se_comp (own:=["sign"]) (frees:=["barred"]) (ix:=[0]) rfl rfl (z1y.sc (by kernel_rfl)) (si_seq rfl (sv 1)) (fun _ _ _ _ _ _ _=>(sg_name (z0u (i:=0) (show List.Nodup (["sign", "barred"]:List Str) by decide+kernel) rfl (Or.inl rfl)))) (fun _ _ _ _ _ _ _=>sts_nil) (fun _ _ _ _ _ _ _=>(se_cmp (zap rfl h64) (sv 0) (sv 1) (by with_unfolding_all rfl))))))))
noncomputable def z2o:MS:=(seqS (sIf (mOr (mNot (z0R (mIsi "tuple" (mVar 1)))) (mBoo (mBin (mCB [(mVar 1)] lenD) (mC (.int 4)) neD))) (sRet (mC (.bool false))) sNx)
 (seqS (sAsg (.tp [(.nm 2),(.nm 3)]) (mVar 0))
 (seqS (sAsg (.tp [(.nm 4),(.nm 5),(.nm 6),(.nm 7)]) (mVar 1))
 (seqS (sIf (mNot (z0R (z03 z2h [(mVar 4),(mC (.int 0)),(mBin (mVar 2) (mC (.int 96)) addD),(mC (.int 1039))]))) (sRet (mC (.bool false))) sNx)
 (seqS (sIf (mOr (mNot (z0R (z03 z0l [(mVar 5),(mC (.int 0)),(mCB [(mVar 4)] lenD)]))) (mNot (z0R (z03 z0l [(mVar 6),(mVar 5),(mCB [(mVar 4)] lenD)])))) (sRet (mC (.bool false))) sNx)
 (seqS (sIf (mAnd (mBoo (mBin (mVar 7) (mC .non) notN)) (mNot (z0R (z03 z0A [(mVar 7),(mCB [(mVar 4)] lenD)])))) (sRet (mC (.bool false))) sNx)
 (seqS (sAsg (.nm 8) (z03 z0O [(mVar 4),(mVar 7)]))
 (sRet (z3r (mBin (mCB [(mVar 8)] lenD) (mVar 2) leD) (z7p (z03 z0P [(mVar 3),(mVar 8)])))))))))))
noncomputable def z18:FM:=runF 9 z2o
theorem z5c(T:Wd K mg):FnOk P w K mg base CX0 4 T.kag.f T.kag.d z2m (spM (GT T) 2 z18):=okM z2o T.kag.F z0k fun cdv A outer s H E F hr=>by
 have h64:=hr.units
 exact(ss_cons (ss_if (SW.sb (sw_or (sb_not (sb_truth rfl (se_isi rfl (by decide) rfl T.n_isinstance (sv 1) (z1x (v:= .ty "tuple") rfl T.n_tuple PyProof.Rows.Boot.«tuple» rfl)))) (sw_or1 (sb_cmp (z4I rfl h64) (sln T.n_len (s1 (sv 1))) (sc0 z00) (z04 _))))) (ss_one (ss_ret (sc0 z1R))) ss_nil)
 (ss_cons (ss_asg (sv 0) (sg_tup rfl rfl (sgs_cons (sgn 2 z0k.nd) (sgs_cons (sgn 3 z0k.nd) sgs_nil))))
 (ss_cons (ss_asg (sv 1) (sg_tup rfl rfl (sgs_cons (sgn 4 z0k.nd) (sgs_cons (sgn 5 z0k.nd) (sgs_cons (sgn 6 z0k.nd) (sgs_cons (sgn 7 z0k.nd) sgs_nil))))))
 (ss_cons (ss_if (sb_not (sb_truth rfl (scl T.kaK (z4f T) hr (s4 (sv 4) (sc0 z00) (se_add rfl (sv 2) (se_c rfl (z0d (v:= .int 96) rfl T.c_MOST_MARKED.choose_spec ⟨_,rfl⟩))) (se_c rfl (z0d (v:= .int 1039) rfl T.c_LAST_SIGN.choose_spec ⟨_,rfl⟩)))))) (ss_one (ss_ret (sc0 z1R))) ss_nil)
 (ss_cons (ss_if (SW.sb (sw_or (sb_not (sb_truth rfl (scl T.kax (z0z T) hr (s3 (sv 5) (sc0 z00) (sln T.n_len (s1 (sv 4))))))) (sw_or1 (sb_not (sb_truth rfl (scl T.kax (z0z T) hr (s3 (sv 6) (sv 5) (sln T.n_len (s1 (sv 4)))))))))) (ss_one (ss_ret (sc0 z1R))) ss_nil)
 (ss_cons (ss_if (SW.sb (sw_and (sb_cmp z47 (sv 7) (sc0 z1w) (z04 _)) (sw_and1 (sb_not (sb_truth rfl (scl T.kaa (z3o T) hr (s2 (sv 7) (sln T.n_len (s1 (sv 4)))))))))) (ss_one (ss_ret (sc0 z1R))) ss_nil)
 (ss_cons (sst 8 z0k.nd (scl T.kak (z3F T) hr (s2 (sv 4) (sv 7))))
 (ss_one (ss_ret (se_and (se_cmp z3m (sln T.n_len (s1 (sv 8))) (sv 2) (z04 _)) (se_one (se_not (scl T.kaj (z3G T) hr (s2 (sv 3) (sv 8)))))))))))))))
noncomputable def z19:MS:=(seqS (sIf (mOr (mNot (z0R (mIsi "tuple" (mVar 0)))) (mNot (z0R (mVar 0)))) (sRet (mC (.bool false))) sNx)
 (seqS (sAsg (.tp [.nm 1, .nm 2]) (mCB [(mBin (mVar 0) (mC (.int 0)) ixD),(mSl (mVar 0) (some (mC (.int 1))) none)] tupD))
 (seqS (sIf (mBoo (mBin (mVar 1) (mC (.str ("unmark" :Str))) eqD)) (sRet (mBin (mCB [(mVar 2)] lenD) (mC (.int 0)) eqD)) sNx)
 (seqS (sIf (mBoo (mBin (mVar 1) (mC (.str ("stand" :Str))) eqD)) (sRet (mBin (mCB [(mVar 2)] lenD) (mC (.int 1)) eqD)) sNx)
 (seqS (sIf (mOr (mBoo (mBin (mVar 1) (mC (.str ("mark" :Str))) eqD)) (mBoo (mBin (mVar 1) (mC (.str ("commit" :Str))) eqD))) (sRet (z3r (mBin (mCB [(mVar 2)] lenD) (mC (.int 1)) eqD) (z03 z2h [(mBin (mVar 2) (mC (.int 0)) ixD),(mC (.int 1)),(mC (.int 96)),(mC (.int 1039))]))) sNx)
 (seqS (sIf (mOr (mBoo (mBin (mCB [(mVar 2)] lenD) (mC (.int 2)) neD)) (mNot (z0R (z03 z0l [(mBin (mVar 2) (mC (.int 0)) ixD),(mC (.int 0)),(mC (.int 999))])))) (sRet (mC (.bool false))) sNx)
 (seqS (sIf (mBoo (mBin (mVar 1) (mC (.str ("choose" :Str))) eqD)) (sRet (z03 z0l [(mBin (mVar 2) (mC (.int 1)) ixD),(mBin (mVar 2) (mC (.int 0)) ixD),(mC (.int 999))])) sNx)
 (seqS (sIf (mBoo (mBin (mVar 1) (mC (.str ("put" :Str))) eqD)) (sRet (z03 z2h [(mBin (mVar 2) (mC (.int 1)) ixD),(mC (.int 1)),(mC (.int 24)),(mC (.int 1039))])) sNx)
 (sRet (z3r (mBin (mVar 1) (mC (.str ("out" :Str))) eqD) (z03 z0l [(mBin (mVar 2) (mC (.int 1)) ixD),(mC (.int 1)),(mC (.int 60))])))))))))))
noncomputable def z0j:FM:=runF 3 z19
theorem z7H(T:Wd K mg):FnOk P w K mg base CX0 4 T.kaB.f T.kaB.d z4c (spM (GT T) 1 z0j):=okM z19 T.kaB.F z52 fun cdv A outer s H E F hr=>by
 have h64:=hr.units
 exact(ss_cons (ss_if (SW.sb (sw_or (sb_not (sb_truth rfl (se_isi rfl (by decide) rfl T.n_isinstance (sv 0) (z1x (v:= .ty "tuple") rfl T.n_tuple PyProof.Rows.Boot.«tuple» rfl)))) (sw_or1 (sb_not (sb_truth rfl (sv 0)))))) (ss_one (ss_ret (sc0 z1R))) ss_nil)
 (ss_cons (ss_par (i:=1) (j:=2) rfl z52.nd rfl rfl (by decide) rfl rfl (s2 (sxc (sv 0) z00) (se_slice rfl (sv 0) (so_some (sc0 z00)) so_none)))
 (ss_cons (ss_if (sb_cmp (z0W rfl h64) (sv 1) (sc0 z06) (z04 _)) (ss_one (ss_ret (se_cmp (z0W rfl h64) (sln T.n_len (s1 (sv 2))) (sc0 z00) (z04 _)))) ss_nil)
 (ss_cons (ss_if (sb_cmp (z0W rfl h64) (sv 1) (sc0 z06) (z04 _)) (ss_one (ss_ret (se_cmp (z0W rfl h64) (sln T.n_len (s1 (sv 2))) (sc0 z00) (z04 _)))) ss_nil)
 (ss_cons (ss_if (SW.sb (sw_or (sb_cmp (z0W rfl h64) (sv 1) (sc0 z06) (z04 _)) (sw_or1 (sb_cmp (z0W rfl h64) (sv 1) (sc0 z06) (z04 _))))) (ss_one (ss_ret (se_and (se_cmp (z0W rfl h64) (sln T.n_len (s1 (sv 2))) (sc0 z00) (z04 _)) (se_one (scl T.kaK (z4f T) hr (s4 (sxc (sv 2) z00) (sc0 z00) (se_c rfl (z0d (v:= .int 96) rfl T.c_MOST_MARKED.choose_spec ⟨_,rfl⟩)) (se_c rfl (z0d (v:= .int 1039) rfl T.c_LAST_SIGN.choose_spec ⟨_,rfl⟩)))))))) ss_nil)
 (ss_cons (ss_if (SW.sb (sw_or (sb_cmp (z4I rfl h64) (sln T.n_len (s1 (sv 2))) (sc0 z00) (z04 _)) (sw_or1 (sb_not (sb_truth rfl (scl T.kax (z0z T) hr (s3 (sxc (sv 2) z00) (sc0 z00) (se_c rfl (z0d (v:= .int 999) rfl T.c_LAST_PLACE.choose_spec ⟨_,rfl⟩))))))))) (ss_one (ss_ret (sc0 z1R))) ss_nil)
 (ss_cons (ss_if (sb_cmp (z0W rfl h64) (sv 1) (sc0 z06) (z04 _)) (ss_one (ss_ret (scl T.kax (z0z T) hr (s3 (sxc (sv 2) z00) (sxc (sv 2) z00) (se_c rfl (z0d (v:= .int 999) rfl T.c_LAST_PLACE.choose_spec ⟨_,rfl⟩)))))) ss_nil)
 (ss_cons (ss_if (sb_cmp (z0W rfl h64) (sv 1) (sc0 z06) (z04 _)) (ss_one (ss_ret (scl T.kaK (z4f T) hr (s4 (sxc (sv 2) z00) (sc0 z00) (se_c rfl (z0d (v:= .int 24) rfl T.c_MOST_PUT.choose_spec ⟨_,rfl⟩)) (se_c rfl (z0d (v:= .int 1039) rfl T.c_LAST_SIGN.choose_spec ⟨_,rfl⟩)))))) ss_nil)
 (ss_one (ss_ret (se_and (se_cmp (z0W rfl h64) (sv 1) (sc0 z06) (z04 _)) (se_one (scl T.kax (z0z T) hr (s3 (sxc (sv 2) z00) (sc0 z00) (se_c rfl (z0d (v:= .int 60) rfl T.c_MOST_OUT.choose_spec ⟨_,rfl⟩))))))))))))))))
noncomputable def z3H:MS:=(seqS (sAsg (.tp [(.nm 2),(.nm 3),(.nm 4),(.nm 5)]) (mVar 0))
 (seqS (sAsg (.tp [(.nm 6),(.nm 7)]) (mIf (mBoo (mBin (mVar 5) (mC .non) isN)) (mCB [(mVar 3),(mVar 4)] tupD) (mVar 5)))
 (sRet (mCB [(mBin (mBin (mSl (mVar 2) none (some (mVar 6))) (mVar 1) addD) (mSl (mVar 2) (some (mVar 7)) none) addD),(mVar 6),(mBin (mVar 6) (mCB [(mVar 1)] lenD) addD)] tupD))))
noncomputable def z1u:FM:=runF 8 z3H
theorem z3c(T:Wd K mg):FnOk P w K mg base CX0 1 T.kaz.f T.kaz.d z3A (spM (GT T) 2 z1u):=okM z3H T.kaz.F z0H fun cdv A outer s H E F hr=>(ss_cons (ss_asg (sv 0) (sg_tup rfl rfl (sgs_cons (sgn 2 z0H.nd) (sgs_cons (sgn 3 z0H.nd) (sgs_cons (sgn 4 z0H.nd) (sgs_cons (sgn 5 z0H.nd) sgs_nil))))))
 (ss_cons (ss_asg (se_ifExp (sb_cmp z7u (sv 5) (sc0 z1w) (z04 _)) (se_tup rfl (s2 (sv 3) (sv 4))) (sv 5)) (sg_tup rfl rfl (sgs_cons (sgn 6 z0H.nd) (sgs_cons (sgn 7 z0H.nd) sgs_nil))))
 (ss_one (ss_ret (se_tup rfl (s3 (se_add rfl (se_add rfl (se_slice rfl (sv 2) so_none (so_some (sv 6))) (sv 1)) (se_slice rfl (sv 2) (so_some (sv 7)) so_none)) (sv 6) (se_add rfl (sv 6) (sln T.n_len (s1 (sv 1))))))))))
noncomputable def z2K:MS:=(seqS (sAsg (.tp [(.nm 2),(.nm 3),(.nm 4)]) (z03 z1u [(mVar 0),(mVar 1)]))
 (sRet (mCB [(mVar 2),(mVar 4),(mVar 4),(mCB [(mVar 3),(mVar 4)] tupD)] tupD)))
noncomputable def z1K:FM:=runF 5 z2K
theorem z5U(T:Wd K mg):FnOk P w K mg base CX0 2 T.kal.f T.kal.d z2F (spM (GT T) 2 z1K):=okM z2K T.kal.F z1A fun cdv A outer s H E F hr=>(ss_cons (ss_asg (scl T.kaz (z3c T) hr (s2 (sv 0) (sv 1))) (sg_tup rfl rfl (sgs_cons (sgn 2 z1A.nd) (sgs_cons (sgn 3 z1A.nd) (sgs_cons (sgn 4 z1A.nd) sgs_nil)))))
 (ss_one (ss_ret (se_tup rfl (s4 (sv 2) (sv 4) (sv 4) (se_tup rfl (s2 (sv 3) (sv 4))))))))
noncomputable def z20:MS:=(seqS (sIf (mBoo (mBin (mBin (mVar 0) (mC (.int 3)) ixD) (mC .non) isN)) (z2S "NoMark") sNx)
 (seqS (sAsg (.tp [(.nm 1),(.nm 2),(.nm 3)]) (z03 z1u [(mVar 0),(mCB [] tupD)]))
 (sRet (mCB [(mVar 1),(mVar 2),(mVar 2),(mC .non)] tupD))))
noncomputable def z1k:FM:=runX 4 z20
theorem z4S(T:Wd K mg):FnOk P w K mg base (CX1 P w) 2 T.kad.f T.kad.d z1W (spX (GT T) 1 z1k):=okX z20 T.kad.F z1b fun cdv A outer s H E F hr hx hrx=>(ss_cons (ss_if (sb_cmp z7u (sxc (sv 0) z00) (sc0 z1w) (z04 _)) (ss_one (ss_raise hr.hd hx hrx (zaH T) rfl T.kaW T.ka5)) ss_nil)
 (ss_cons (ss_asg (scl T.kaz (z3c T) hr (s2 (sv 0) (se_tup rfl (sa_of rfl .nil)))) (sg_tup rfl rfl (sgs_cons (sgn 1 z1b.nd) (sgs_cons (sgn 2 z1b.nd) (sgs_cons (sgn 3 z1b.nd) sgs_nil)))))
 (ss_one (ss_ret (se_tup rfl (s4 (sv 1) (sv 2) (sv 2) (sc0 z1w)))))))
noncomputable def z21:MS:=(seqS (sAsg (.tp [(.nm 3),(.nm 4)]) (mVar 0))
 (seqS (sIf (z0R (z03 z0P [(mVar 4),(mVar 1)])) (z2S "Barred") sNx)
 (sIf (mBoo (mBin (mVar 2) (mVar 3) gtD)) (z2S "TooLong") sNx)))
noncomputable def z0K:FM:=runX 5 z21
theorem z2V(T:Wd K mg):FnOk P w K mg base (CX1 P w) 2 T.kab.f T.kab.d z1Y (spX (GT T) 3 z0K):=okX z21 T.kab.F z1F fun cdv A outer s H E F hr hx hrx=>(ss_cons (ss_asg (sv 0) (sg_tup rfl rfl (sgs_cons (sgn 3 z1F.nd) (sgs_cons (sgn 4 z1F.nd) sgs_nil))))
 (ss_cons (ss_if (sb_truth rfl (scl T.kaj (z3G T) hr (s2 (sv 4) (sv 1)))) (ss_one (ss_raise hr.hd hx hrx (zaF T) rfl T.kbe T.ka7)) ss_nil)
 (ss_one (ss_if (sb_cmp z46 (sv 2) (sv 3) (z04 _)) (ss_one (ss_raise hr.hd hx hrx (z9x T) rfl T.kaH T.kaP)) ss_nil))))
noncomputable def z22:MS:=(seqS (sAsg (.tp [(.nm 3),(.nm 4),(.nm 5)]) (z03 z1u [(mVar 1),(mVar 2)]))
 (seqS (z6H (z2T z0K [(mVar 0),(mVar 2),(mCB [(mVar 3)] lenD)]))
 (sRet (mCB [(mVar 3),(mVar 5),(mVar 5),(mC .non)] tupD))))
noncomputable def z1l:FM:=runX 6 z22
theorem z4T(T:Wd K mg):FnOk P w K mg base (CX1 P w) 3 T.kac.f T.kac.d z1X (spX (GT T) 3 z1l):=okX z22 T.kac.F z1c fun cdv A outer s H E F hr hx hrx=>(ss_cons (ss_asg (scl T.kaz (z3c T) hr (s2 (sv 1) (sv 2))) (sg_tup rfl rfl (sgs_cons (sgn 3 z1c.nd) (sgs_cons (sgn 4 z1c.nd) (sgs_cons (sgn 5 z1c.nd) sgs_nil)))))
 (ss_cons (ss_expr (se_callX hx ((z2V T).mono (by lia)) hr rfl T.kab.m T.kab.F.kp T.kab.b (s3 (sv 0) (sv 2) (sln T.n_len (s1 (sv 3)))) rfl))
 (ss_one (ss_ret (se_tup rfl (s4 (sv 3) (sv 5) (sv 5) (sc0 z1w)))))))
noncomputable def z23:MS:=(seqS (sAsg (.tp [.nm 3, .nm 4]) (mCB [(mBin (mVar 0) (mC (.int 0)) ixD),(mBin (mVar 0) (mC (.int 3)) ixD)] tupD))
 (seqS (sIf (mBoo (mBin (mVar 2) (mCB [(mVar 3)] lenD) gtD)) (z2S "NoPlace") sNx)
 (sRet (mCB [(mVar 3),(mVar 1),(mVar 2),(mVar 4)] tupD))))
noncomputable def z1m:FM:=runX 5 z23
theorem z4U(T:Wd K mg):FnOk P w K mg base (CX1 P w) 1 T.kae.f T.kae.d z1Z (spX (GT T) 3 z1m):=okX z23 T.kae.F z2U fun cdv A outer s H E F hr hx hrx=>(ss_cons (ss_par (i:=3) (j:=4) rfl z2U.nd rfl rfl (by decide) rfl rfl (s2 (sxc (sv 0) z00) (sxc (sv 0) z00)))
 (ss_cons (ss_if (sb_cmp z46 (sv 2) (sln T.n_len (s1 (sv 3))) (z04 _)) (ss_one (ss_raise hr.hd hx hrx (z4Q T) rfl T.kaO T.kaM)) ss_nil)
 (ss_one (ss_ret (se_tup rfl (s4 (sv 3) (sv 1) (sv 2) (sv 4)))))))
noncomputable def z3I:MS:=(sRet (mIf (mBoo (mBin (mVar 0) (mVar 1) gtD)) (mBin (mVar 0) (mVar 2) addD) (mVar 0)))
noncomputable def z1Q:FM:=runF 3 z3I
theorem z4s(T:Wd K mg):FnOk P w K mg base CX0 1 T.kaw.f T.kaw.d z3B (spM (GT T) 3 z1Q):=okM z3I T.kaw.F z70 fun cdv A outer s H E F hr=>(ss_one (ss_ret (se_ifExp (sb_cmp z46 (sv 0) (sv 1) (z04 _)) (se_add rfl (sv 0) (sv 2)) (sv 0))))
noncomputable def z3d:MS:=(seqS (sAsg (.tp [(.nm 4),(.nm 5),(.nm 6),(.nm 7)]) (mVar 1))
 (seqS (sIf (mBoo (mBin (mVar 2) (mCB [(mVar 4)] lenD) gtD)) (z2S "NoPlace") sNx)
 (seqS (sIf (mAnd (mBoo (mBin (mVar 7) (mC .non) notN)) (mBoo (z0y (mBin (mVar 7) (mC (.int 0)) ixD) (mVar 2) (mBin (mVar 7) (mC (.int 1)) ixD) ltD ltD))) (z2S "Marked") sNx)
 (seqS (sAsg (.nm 8) (mCB [(mVar 3)] lenD))
 (seqS (z6H (z2T z0K [(mVar 0),(mVar 3),(mBin (mCB [(z03 z0O [(mVar 4),(mVar 7)])] lenD) (mVar 8) addD)]))
 (seqS (sIf (mAnd (mBoo (mBin (mVar 7) (mC .non) notN)) (mBoo (mBin (mBin (mVar 7) (mC (.int 0)) ixD) (mVar 2) geD))) (sAsg (.nm 7) (mCB [(mBin (mBin (mVar 7) (mC (.int 0)) ixD) (mVar 8) addD),(mBin (mBin (mVar 7) (mC (.int 1)) ixD) (mVar 8) addD)] tupD)) sNx)
 (seqS (sAsg (.nm 9) (mBin (mBin (mSl (mVar 4) none (some (mVar 2))) (mVar 3) addD) (mSl (mVar 4) (some (mVar 2)) none) addD))
 (sRet (mCB [(mVar 9),(z03 z1Q [(mVar 5),(mVar 2),(mVar 8)]),(z03 z1Q [(mVar 6),(mVar 2),(mVar 8)]),(mVar 7)] tupD)))))))))
noncomputable def z2e:FM:=runX 10 z3d
theorem z6i(T:Wd K mg):FnOk P w K mg base (CX1 P w) 3 T.kap.f T.kap.d z36 (spX (GT T) 4 z2e):=okX z3d T.kap.F z0r fun cdv A outer s H E F hr hx hrx=>(ss_cons (ss_asg (sv 1) (sg_tup rfl rfl (sgs_cons (sgn 4 z0r.nd) (sgs_cons (sgn 5 z0r.nd) (sgs_cons (sgn 6 z0r.nd) (sgs_cons (sgn 7 z0r.nd) sgs_nil))))))
 (ss_cons (ss_if (sb_cmp z46 (sv 2) (sln T.n_len (s1 (sv 4))) (z04 _)) (ss_one (ss_raise hr.hd hx hrx (z4Q T) rfl T.kaO T.kaM)) ss_nil)
 (ss_cons (ss_if (SW.sb (sw_and (sb_cmp z47 (sv 7) (sc0 z1w) (z04 _)) (sw_and1 (sb_cmp2 z3U z3U (sxc (sv 7) z00) (sv 2) (sxc (sv 7) z00))))) (ss_one (ss_raise hr.hd hx hrx (z7G T) rfl T.ka6 T.kaR)) ss_nil)
 (ss_cons (sst 8 z0r.nd (sln T.n_len (s1 (sv 3))))
 (ss_cons (ss_expr (se_callX hx ((z2V T).mono (by lia)) hr rfl T.kab.m T.kab.F.kp T.kab.b (s3 (sv 0) (sv 3) (se_add rfl (sln T.n_len (s1 (scl T.kak (z3F T) hr (s2 (sv 4) (sv 7))))) (sv 8))) rfl))
 (ss_cons (ss_if (SW.sb (sw_and (sb_cmp z47 (sv 7) (sc0 z1w) (z04 _)) (sw_and1 (sb_cmp zfL (sxc (sv 7) z00) (sv 2) (z04 _))))) (ss_one (sst 7 z0r.nd (se_tup rfl (s2 (se_add rfl (sxc (sv 7) z00) (sv 8)) (se_add rfl (sxc (sv 7) z00) (sv 8)))))) ss_nil)
 (ss_cons (sst 9 z0r.nd (se_add rfl (se_add rfl (se_slice rfl (sv 4) so_none (so_some (sv 2))) (sv 3)) (se_slice rfl (sv 4) (so_some (sv 2)) so_none)))
 (ss_one (ss_ret (se_tup rfl (s4 (sv 9) (scl T.kaw (z4s T) hr (s3 (sv 5) (sv 2) (sv 8))) (scl T.kaw (z4s T) hr (s3 (sv 6) (sv 2) (sv 8))) (sv 7))))))))))))
noncomputable def z2L:MS:=(sRet (mIf (mBoo (mBin (mVar 0) (mBin (mVar 1) (mVar 2) addD) geD)) (mBin (mVar 0) (mVar 2) subD) (mCB [(mVar 0),(mVar 1)] minD)))
noncomputable def z0C:FM:=runF 3 z2L
theorem z1C(T:Wd K mg):FnOk P w K mg base CX0 1 T.kai.f T.kai.d z2G (spM (GT T) 3 z0C):=okM z2L T.kai.F z5R fun cdv A outer s H E F hr=>(ss_one (ss_ret (se_ifExp (sb_cmp zfL (sv 0) (se_add rfl (sv 1) (sv 2)) (z04 _)) (se_sub rfl (sv 0) (sv 2)) (se_cb rfl (zaq rfl) rfl T.n_min PyProof.Rows.Boot.«min» (s2 (sv 0) (sv 1))))))
noncomputable def z3e:MS:=(seqS (sAsg (.tp [(.nm 3),(.nm 4),(.nm 5),(.nm 6)]) (mVar 0))
 (seqS (sAsg (.nm 7) (mBin (mVar 1) (mVar 2) addD))
 (seqS (sIf (mBoo (mBin (mVar 7) (mCB [(mVar 3)] lenD) gtD)) (z2S "NoPlace") sNx)
 (seqS (sIf (mAnd (mBoo (mBin (mVar 6) (mC .non) notN)) (mAnd (mBoo (mBin (mBin (mVar 6) (mC (.int 0)) ixD) (mVar 7) ltD)) (mBoo (mBin (mVar 1) (mBin (mVar 6) (mC (.int 1)) ixD) ltD)))) (z2S "Marked") sNx)
 (seqS (sIf (mBoo (mBin (mVar 6) (mC .non) notN)) (sAsg (.nm 6) (mCB [(z03 z0C [(mBin (mVar 6) (mC (.int 0)) ixD),(mVar 1),(mVar 2)]),(z03 z0C [(mBin (mVar 6) (mC (.int 1)) ixD),(mVar 1),(mVar 2)])] tupD)) sNx)
 (seqS (sAsg (.nm 8) (mBin (mSl (mVar 3) none (some (mVar 1))) (mSl (mVar 3) (some (mVar 7)) none) addD))
 (sRet (mCB [(mVar 8),(z03 z0C [(mVar 4),(mVar 1),(mVar 2)]),(z03 z0C [(mVar 5),(mVar 1),(mVar 2)]),(mVar 6)] tupD))))))))
noncomputable def z2f:FM:=runX 9 z3e
theorem z6j(T:Wd K mg):FnOk P w K mg base (CX1 P w) 2 T.kas.f T.kas.d z37 (spX (GT T) 3 z2f):=okX z3e T.kas.F z0s fun cdv A outer s H E F hr hx hrx=>(ss_cons (ss_asg (sv 0) (sg_tup rfl rfl (sgs_cons (sgn 3 z0s.nd) (sgs_cons (sgn 4 z0s.nd) (sgs_cons (sgn 5 z0s.nd) (sgs_cons (sgn 6 z0s.nd) sgs_nil))))))
 (ss_cons (sst 7 z0s.nd (se_add rfl (sv 1) (sv 2)))
 (ss_cons (ss_if (sb_cmp z46 (sv 7) (sln T.n_len (s1 (sv 3))) (z04 _)) (ss_one (ss_raise hr.hd hx hrx (z4Q T) rfl T.kaO T.kaM)) ss_nil)
 (ss_cons (ss_if (SW.sb (sw_and (sb_cmp z47 (sv 6) (sc0 z1w) (z04 _)) (sw_and (sb_cmp z3U (sxc (sv 6) z00) (sv 7) (z04 _)) (sw_and1 (sb_cmp z3U (sv 1) (sxc (sv 6) z00) (z04 _)))))) (ss_one (ss_raise hr.hd hx hrx (z7G T) rfl T.ka6 T.kaR)) ss_nil)
 (ss_cons (ss_if (sb_cmp z47 (sv 6) (sc0 z1w) (z04 _)) (ss_one (sst 6 z0s.nd (se_tup rfl (s2 (scl T.kai (z1C T) hr (s3 (sxc (sv 6) z00) (sv 1) (sv 2))) (scl T.kai (z1C T) hr (s3 (sxc (sv 6) z00) (sv 1) (sv 2))))))) ss_nil)
 (ss_cons (sst 8 z0s.nd (se_add rfl (se_slice rfl (sv 3) so_none (so_some (sv 1))) (se_slice rfl (sv 3) (so_some (sv 7)) so_none)))
 (ss_one (ss_ret (se_tup rfl (s4 (sv 8) (scl T.kai (z1C T) hr (s3 (sv 4) (sv 1) (sv 2))) (scl T.kai (z1C T) hr (s3 (sv 5) (sv 1) (sv 2))) (sv 6)))))))))))
noncomputable def z1D:MS:=(seqS (sIf (mNot (z0R (z03 z0j [(mVar 2)]))) (z2S "NoDeed") sNx)
 (seqS (sAsg (.nm 3) (mBin (mVar 2) (mC (.int 0)) ixD))
 (seqS (sIf (mBoo (mBin (mVar 3) (mC (.str ("mark" :Str))) eqD)) (sRet (z03 z1K [(mVar 1),(mBin (mVar 2) (mC (.int 1)) ixD)])) sNx)
 (seqS (sIf (mBoo (mBin (mVar 3) (mC (.str ("unmark" :Str))) eqD)) (sRet (z2T z1k [(mVar 1)])) sNx)
 (seqS (sIf (mBoo (mBin (mVar 3) (mC (.str ("commit" :Str))) eqD)) (sRet (z2T z1l [(mVar 0),(mVar 1),(mBin (mVar 2) (mC (.int 1)) ixD)])) sNx)
 (seqS (sIf (mBoo (mBin (mVar 3) (mC (.str ("choose" :Str))) eqD)) (sRet (z2T z1m [(mVar 1),(mBin (mVar 2) (mC (.int 1)) ixD),(mBin (mVar 2) (mC (.int 2)) ixD)])) sNx)
 (seqS (sIf (mBoo (mBin (mVar 3) (mC (.str ("put" :Str))) eqD)) (sRet (z2T z2e [(mVar 0),(mVar 1),(mBin (mVar 2) (mC (.int 1)) ixD),(mBin (mVar 2) (mC (.int 2)) ixD)])) sNx)
 (seqS (sIf (mBoo (mBin (mVar 3) (mC (.str ("out" :Str))) eqD)) (sRet (z2T z2f [(mVar 1),(mBin (mVar 2) (mC (.int 1)) ixD),(mBin (mVar 2) (mC (.int 2)) ixD)])) sNx)
 (seqS (sIf (mNot (z0R (z03 z18 [(mVar 0),(mBin (mVar 2) (mC (.int 1)) ixD)]))) (z2S "NoStanding") sNx)
 (sRet (mBin (mVar 2) (mC (.int 1)) ixD)))))))))))
noncomputable def z0m:FM:=runX 4 z1D
theorem z9y(T:Wd K mg):FnOk P w K mg base (CX1 P w) 5 T.kbf.f T.kbf.d z5H (spX (GT T) 3 z0m):=okX z1D T.kbf.F z6v fun cdv A outer s H E F hr hx hrx=>by
 have h64:=hr.units
 exact(ss_cons (ss_if (sb_not (sb_truth rfl (scl T.kaB (z7H T) hr (s1 (sv 2))))) (ss_one (ss_raise hr.hd hx hrx (zaG T) rfl T.ka8 T.kbd)) ss_nil)
 (ss_cons (sst 3 z6v.nd (sxc (sv 2) z00))
 (ss_cons (ss_if (sb_cmp (z0W rfl h64) (sv 3) (sc0 z06) (z04 _)) (ss_one (ss_ret (scl T.kal (z5U T) hr (s2 (sv 1) (sxc (sv 2) z00))))) ss_nil)
 (ss_cons (ss_if (sb_cmp (z0W rfl h64) (sv 3) (sc0 z06) (z04 _)) (ss_one (ss_ret (se_callX hx ((z4S T).mono (by lia)) hr rfl T.kad.m T.kad.F.kp T.kad.b (s1 (sv 1)) rfl))) ss_nil)
 (ss_cons (ss_if (sb_cmp (z0W rfl h64) (sv 3) (sc0 z06) (z04 _)) (ss_one (ss_ret (se_callX hx ((z4T T).mono (by lia)) hr rfl T.kac.m T.kac.F.kp T.kac.b (s3 (sv 0) (sv 1) (sxc (sv 2) z00)) rfl))) ss_nil)
 (ss_cons (ss_if (sb_cmp (z0W rfl h64) (sv 3) (sc0 z06) (z04 _)) (ss_one (ss_ret (se_callX hx ((z4U T).mono (by lia)) hr rfl T.kae.m T.kae.F.kp T.kae.b (s3 (sv 1) (sxc (sv 2) z00) (sxc (sv 2) z00)) rfl))) ss_nil)
 (ss_cons (ss_if (sb_cmp (z0W rfl h64) (sv 3) (sc0 z06) (z04 _)) (ss_one (ss_ret (se_callX hx ((z6i T).mono (by lia)) hr rfl T.kap.m T.kap.F.kp T.kap.b (s4 (sv 0) (sv 1) (sxc (sv 2) z00) (sxc (sv 2) z00)) rfl))) ss_nil)
 (ss_cons (ss_if (sb_cmp (z0W rfl h64) (sv 3) (sc0 z06) (z04 _)) (ss_one (ss_ret (se_callX hx ((z6j T).mono (by lia)) hr rfl T.kas.m T.kas.F.kp T.kas.b (s3 (sv 1) (sxc (sv 2) z00) (sxc (sv 2) z00)) rfl))) ss_nil)
 (ss_cons (ss_if (sb_not (sb_truth rfl (scl T.kag (z5c T) hr (s2 (sv 0) (sxc (sv 2) z00))))) (ss_one (ss_raise hr.hd hx hrx (z71 T) rfl T.kam T.kar)) ss_nil)
 (ss_one (ss_ret (sxc (sv 2) z00))))))))))))
noncomputable def z8i:MS:=(seqS (sAsg (.nm 2) (mC (.int 0)))
 (seqS (sIf (mBoo (mBin (mVar 1) (mCB [(mVar 0)] lenD) ltD)) (sAsg (.nm 2) (mCB [(mBin (mVar 0) (mVar 1) ixD)] absD)) sNx)
 (seqS (sAsg (.nm 3) (mBin (mBin (mBin (mBin (mBin (mVar 2) (mC (.int 2147483629)) modD) (mBin (mC (.int 104729)) (mVar 1) mulD) addD) (mC (.int 17)) addD) (mC (.int 5)) powD) (mC (.int 2147483647)) modD))
 (seqS (sFor (z3s [(mCB [(mCB [(mVar 0)] lenD),(mC (.int 60))] minD)]) (.nm 4) (sAsg (.nm 3) (mBin (mBin (mBin (mBin (mVar 3) (mC (.int 48271)) mulD) (mBin (mBin (mBin (mVar 0) (mVar 4) ixD) (mC (.int 2147483587)) modD) (mBin (mVar 4) (mC (.int 3)) addD) mulD) addD) (mVar 4) addD) (mC (.int 2147483629)) modD)))
 (seqS (sIf (mBoo (mBin (mVar 2) (mBin (mC (.int 10)) (mC (.int 18)) powD) ltD)) (sAsg (.nm 2) (mC (.int 0))) sNx)
 (sRet (mCB [(mVar 2),(mVar 3)] lstM)))))))
noncomputable def z4g:FM:=runF 5 z8i
theorem z8V(T:Wd K mg):FnOk P w K mg base CX0 1 T.kbB.f T.kbB.d z8c (spM (GT T) 2 z4g):=okM z8i T.kbB.F z39 fun cdv A outer s H E F hr=>(ss_cons (sst 2 z39.nd (sc0 z00))
 (ss_cons (ss_if (sb_cmp z3U (sv 1) (sln T.n_len (s1 (sv 0))) (z04 _)) (ss_one (sst 2 z39.nd (se_cb rfl zfO rfl T.n_abs PyProof.Rows.Boot.«abs» (s1 (sxx (sv 0) (sv 1)))))) ss_nil)
 (ss_cons (sst 3 z39.nd (se_mod rfl (se_pow rfl (se_add rfl (se_add rfl (se_mod rfl (sv 2) (sc0 z00)) (se_mul rfl (sc0 z00) (sv 1))) (sc0 z00)) (sc0 z00)) (sc0 z00)))
 (ss_cons (ss_for PassesOwn.never rfl (si_rng1 rfl T.n_range (s1 (se_cb rfl (zaq rfl) rfl T.n_min PyProof.Rows.Boot.«min» (s2 (sln T.n_len (s1 (sv 0))) (sc0 z00))))) (sgn 4 z39.nd) (ss_one (sst 3 z39.nd (se_mod rfl (se_add rfl (se_add rfl (se_mul rfl (sv 3) (sc0 z00)) (se_mul rfl (se_mod rfl (sxx (sv 0) (sv 4)) (sc0 z00)) (se_add rfl (sv 4) (sc0 z00)))) (sv 4)) (sc0 z00)))))
 (ss_cons (ss_if (sb_cmp z3U (sv 2) (se_pow rfl (sc0 z00) (sc0 z00)) (z04 _)) (ss_one (sst 2 z39.nd (sc0 z00))) ss_nil)
 (ss_one (ss_ret (se_lst rfl (s2 (sv 2) (sv 3))))))))))
noncomputable def z73:MS:=(seqS (sIf (mBoo (mBin (mBin (mVar 0) (mC (.int 0)) ixD) (mC (.int 0)) gtD)) (seqS (sAsg (.nm 2) (mBin (mBin (mVar 0) (mC (.int 0)) ixD) (mVar 1) modD))
 (seqS (mTri (mBin (mBin (mVar 0) (mC (.int 0)) ixD) (mVar 1) z6a) (mVar 0) (mC (.int 0)) setD)
 (sRet (mVar 2)))) sNx)
 (seqS (mTri (mBin (mBin (mBin (mBin (mVar 0) (mC (.int 1)) ixD) (mC (.int 48271)) mulD) (mC (.int 7919)) addD) (mC (.int 2147483647)) modD) (mVar 0) (mC (.int 1)) setD)
 (sRet (mBin (mBin (mBin (mBin (mBin (mBin (mBin (mVar 0) (mC (.int 1)) ixD) (mC (.int 3)) powD) (mC (.int 2147483587)) modD) (mC (.int 7)) z6a) (mC (.int 69621)) mulD) (mC (.int 1073741789)) modD) (mVar 1) modD))))
noncomputable def z07:FM:=runF 3 z73
theorem z0a(T:Wd K mg):FnOk P w K mg base CX0 1 T.kbh.f T.kbh.d z6T (spM (GT T) 2 z07):=okM z73 T.kbh.F z7E fun cdv A outer s H E F hr=>(ss_cons (ss_if (sb_cmp z46 (sxc (sv 0) z00) (sc0 z00) (z04 _)) (ss_cons (sst 2 z7E.nd (se_mod rfl (sxc (sv 0) z00) (sv 1)))
 (ss_cons (ss_setI (se_fdiv rfl (sxc (sv 0) z00) (sv 1)) (sv 0) (sc0 z00) (fun{to ti} h1 h2=>zcv h1 h2 z8y))
 (ss_one (ss_ret (sv 2))))) ss_nil)
 (ss_cons (ss_setI (se_mod rfl (se_add rfl (se_mul rfl (sxc (sv 0) z00) (sc0 z00)) (sc0 z00)) (sc0 z00)) (sv 0) (sc0 z00) (fun{to ti} h1 h2=>zcv h1 h2 z8y))
 (ss_one (ss_ret (se_mod rfl (se_mod rfl (se_mul rfl (se_fdiv rfl (se_mod rfl (se_pow rfl (sxc (sv 0) z00) (sc0 z00)) (sc0 z00)) (sc0 z00)) (sc0 z00)) (sc0 z00)) (sv 1))))))
noncomputable def z74:MS:=(seqS (sIf (mBoo (mBin (z03 z07 [(mVar 0),(mC (.int 4))]) (mC (.int 0)) eqD)) (sRet (z03 z07 [(mVar 0),(mC (.int 1040))])) sNx)
 (sRet (mBin (mBin (mVar 1) (z03 z07 [(mVar 0),(mC (.int 9))]) addD) (mC (.int 1040)) modD)))
noncomputable def z4t:FM:=runF 2 z74
theorem zaI(T:Wd K mg):FnOk P w K mg base CX0 2 T.kbt.f T.kbt.d z6U (spM (GT T) 2 z4t):=okM z74 T.kbt.F zaC fun cdv A outer s H E F hr=>by
 have h64:=hr.units
 exact(ss_cons (ss_if (sb_cmp (z0W rfl h64) (scl T.kbh (z0a T) hr (s2 (sv 0) (sc0 z00))) (sc0 z00) (z04 _)) (ss_one (ss_ret (scl T.kbh (z0a T) hr (s2 (sv 0) (sc0 z00))))) ss_nil)
 (ss_one (ss_ret (se_mod rfl (se_add rfl (sv 1) (scl T.kbh (z0a T) hr (s2 (sv 0) (sc0 z00)))) (sc0 z00)))))
noncomputable def z5V:MS:=(sRet (mCB [(z0t (z3s [(mVar 2)]) (.nm 0) (rt true) (z03 z4t [(mVar 1),(mVar 2)]) 1 [0,1])] tupF))
noncomputable def z1E:FM:=runF 3 z5V
theorem z3Q(T:Wd K mg):FnOk P w K mg base CX0 3 T.kaV.f T.kaV.d z5I (spM (GT T) 3 z1E):=okM z5V T.kaV.F z9v fun cdv A outer s H E F hr=>(ss_one (ss_ret (se_ct rfl (z5i rfl) rfl T.n_tuple PyProof.Rows.Boot.«tuple» (s1 (se_comp (own:=["_law_k"]) (frees:=["_law_bag_here", "_law_far"]) (ix:=[0,1]) rfl rfl (z1y.sc (by kernel_rfl)) (si_rng1 rfl T.n_range (s1 (sv 2))) (fun _ _ _ _ _ _ _=>(sg_name (z0u (i:=0) (show List.Nodup (["_law_k", "_law_bag_here", "_law_far"]:List Str) by decide+kernel) rfl (Or.inl rfl)))) (fun _ _ _ _ _ _ _=>sts_nil) (fun _ _ _ _ _ _ _=>(scl T.kbt (zaI T) hr (s2 (sv 1) (sv 2)))))))))
noncomputable def z5W:MS:=(seqS (sAsg (.nm 2) (z03 z07 [(mVar 0),(mC (.int 4))]))
 (seqS (sAsg (.nm 3) (z03 z07 [(mVar 0),(mBin (mCB [(mC (.int 61)),(mC (.int 12)),(mC (.int 25)),(mC (.int 61))] lstM) (mVar 2) ixD)]))
 (sRet (mCB [(mVar 3),(z03 z1E [(mVar 0),(mVar 1),(z03 z07 [(mVar 0),(mBin (mCB [(mC (.int 21)),(mC (.int 2)),(mC (.int 3)),(mC (.int 4))] lstM) (mVar 2) ixD)])])] tupD))))
noncomputable def z2p:FM:=runF 4 z5W
theorem z6w(T:Wd K mg):FnOk P w K mg base CX0 4 T.kaS.f T.kaS.d z5J (spM (GT T) 2 z2p):=okM z5W T.kaS.F z4O fun cdv A outer s H E F hr=>(ss_cons (sst 2 z4O.nd (scl T.kbh (z0a T) hr (s2 (sv 0) (sc0 z00))))
 (ss_cons (sst 3 z4O.nd (scl T.kbh (z0a T) hr (s2 (sv 0) (sxx (se_lst rfl (s4 (sc0 z00) (sc0 z00) (sc0 z00) (sc0 z00))) (sv 2)))))
 (ss_one (ss_ret (se_tup rfl (s2 (sv 3) (scl T.kaV (z3Q T) hr (s3 (sv 0) (sv 1) (scl T.kbh (z0a T) hr (s2 (sv 0) (sxx (se_lst rfl (s4 (sc0 z00) (sc0 z00) (sc0 z00) (sc0 z00))) (sv 2))))))))))))
noncomputable def z75:MS:=(sRet (mBin (z0t (z80 [(mVar 1),(mBin (mVar 1) (mC (.int 21)) addD)]) (.nm 0) (mBoo (mBin (mBin (mVar 0) (mC (.int 1040)) modD) (mBin (mVar 1) (mC (.int 1)) ixD) ninD)) (mBin (mVar 0) (mC (.int 1040)) modD) 1 [0]) (mC (.int 0)) ixD))
noncomputable def z2g:FM:=runF 2 z75
theorem z7I(T:Wd K mg):FnOk P w K mg base CX0 1 T.kbs.f T.kbs.d z6V (spM (GT T) 2 z2g):=okM z75 T.kbs.F zaD fun cdv A outer s H E F hr=>by
 have h64:=hr.units
 exact(ss_one (ss_ret (sxc (se_comp (own:=["_law_k"]) (frees:=["_law_field_here"]) (ix:=[0]) rfl rfl (z1y.sc (by kernel_rfl)) (si_rng2 rfl T.n_range (s2 (sv 1) (se_add rfl (sv 1) (sc0 z00)))) (fun _ _ _ _ _ _ _=>(sg_name (z0u (i:=0) (show List.Nodup (["_law_k", "_law_field_here"]:List Str) by decide+kernel) rfl (Or.inl rfl)))) (fun _ _ _ _ _ _ _=>(sts_one (sb_cmp (zfM rfl h64) (se_mod rfl (sv 0) (sc0 z00)) (sxc (sv 1) z00) (by with_unfolding_all rfl)))) (fun _ _ _ _ _ _ _=>(se_mod rfl (sv 0) (sc0 z00)))) z00)))
noncomputable def z3J:MS:=(seqS (sAsg (.nm 3) (z03 z07 [(mVar 0),(mC (.int 8))]))
 (seqS (sAsg (.nm 4) (z03 z07 [(mVar 0),(mBin (mBin (mVar 1) (mC (.int 0)) ixD) (mC (.int 1)) addD)]))
 (seqS (sIf (mBoo (mBin (mBin (mVar 3) (mC (.int 4)) modD) (mC (.int 0)) eqD)) (sAsg (.nm 4) (mBin (mVar 1) (mC (.int 0)) ixD)) sNx)
 (seqS (sAsg (.nm 5) (mCB [(z0t (z1j (z03 z1E [(mVar 0),(mVar 2),(mVar 4)])) (.nm 0) (rt true) (z03 z2g [(mVar 1),(mVar 0)]) 1 [1])] tupF))
 (seqS (sAsg (.nm 6) (mC .non))
 (seqS (sIf (mBoo (mBin (mBin (mVar 3) (mC (.int 2)) modD) (mC (.int 0)) eqD)) (seqS (sAsg (.nm 7) (z03 z1E [(mVar 0),(mVar 2),(mBin (mC (.int 1)) (z03 z07 [(mVar 0),(mBin (mCB [(mC (.int 96)),(mC (.int 5)),(mC (.int 9)),(mC (.int 5))] lstM) (mBin (mVar 3) (mC (.int 2)) z6a) ixD)]) addD)]))
 (seqS (sAsg (.nm 8) (z03 z07 [(mVar 0),(mBin (mVar 4) (mC (.int 1)) addD)]))
 (seqS (sAsg (.nm 5) (mBin (mBin (mSl (mVar 5) none (some (mVar 8))) (mVar 7) addD) (mSl (mVar 5) (some (mVar 8)) none) addD))
 (sAsg (.nm 6) (mCB [(mVar 8),(mBin (mVar 8) (mCB [(mVar 7)] lenD) addD)] tupD))))) sNx)
 (seqS (sAsg (.nm 9) (z03 z07 [(mVar 0),(mBin (mCB [(mVar 5)] lenD) (mC (.int 1)) addD)]))
 (sRet (mCB [(mVar 5),(mVar 9),(mBin (mVar 9) (z03 z07 [(mVar 0),(mBin (mBin (mCB [(mVar 5)] lenD) (mVar 9) subD) (mC (.int 1)) addD)]) addD),(mVar 6)] tupD)))))))))
noncomputable def z2v:FM:=runF 10 z3J
theorem z76(T:Wd K mg):FnOk P w K mg base CX0 4 T.kay.f T.kay.d z3C (spM (GT T) 3 z2v):=okM z3J T.kay.F z0i fun cdv A outer s H E F hr=>by
 have h64:=hr.units
 exact(ss_cons (sst 3 z0i.nd (scl T.kbh (z0a T) hr (s2 (sv 0) (sc0 z00))))
 (ss_cons (sst 4 z0i.nd (scl T.kbh (z0a T) hr (s2 (sv 0) (se_add rfl (sxc (sv 1) z00) (sc0 z00)))))
 (ss_cons (ss_if (sb_cmp (z0W rfl h64) (se_mod rfl (sv 3) (sc0 z00)) (sc0 z00) (z04 _)) (ss_one (sst 4 z0i.nd (sxc (sv 1) z00))) ss_nil)
 (ss_cons (sst 5 z0i.nd (se_ct rfl (z5i rfl) rfl T.n_tuple PyProof.Rows.Boot.«tuple» (s1 (se_comp (own:=["_law_sign_here"]) (frees:=["_law_field_here"]) (ix:=[1]) rfl rfl (z1y.sc (by kernel_rfl)) (si_seq rfl (scl T.kaV (z3Q T) hr (s3 (sv 0) (sv 2) (sv 4)))) (fun _ _ _ _ _ _ _=>(sg_name (z0u (i:=0) (show List.Nodup (["_law_sign_here", "_law_field_here"]:List Str) by decide+kernel) rfl (Or.inl rfl)))) (fun _ _ _ _ _ _ _=>sts_nil) (fun _ _ _ _ _ _ _=>(scl T.kbs (z7I T) hr (s2 (sv 1) (sv 0))))))))
 (ss_cons (sst 6 z0i.nd (sc0 z1w))
 (ss_cons (ss_if (sb_cmp (z0W rfl h64) (se_mod rfl (sv 3) (sc0 z00)) (sc0 z00) (z04 _)) (ss_cons (sst 7 z0i.nd (scl T.kaV (z3Q T) hr (s3 (sv 0) (sv 2) (se_add rfl (sc0 z00) (scl T.kbh (z0a T) hr (s2 (sv 0) (sxx (se_lst rfl (s4 (sc0 z00) (sc0 z00) (sc0 z00) (sc0 z00))) (se_fdiv rfl (sv 3) (sc0 z00)))))))))
 (ss_cons (sst 8 z0i.nd (scl T.kbh (z0a T) hr (s2 (sv 0) (se_add rfl (sv 4) (sc0 z00)))))
 (ss_cons (sst 5 z0i.nd (se_add rfl (se_add rfl (se_slice rfl (sv 5) so_none (so_some (sv 8))) (sv 7)) (se_slice rfl (sv 5) (so_some (sv 8)) so_none)))
 (ss_one (sst 6 z0i.nd (se_tup rfl (s2 (sv 8) (se_add rfl (sv 8) (sln T.n_len (s1 (sv 7))))))))))) ss_nil)
 (ss_cons (sst 9 z0i.nd (scl T.kbh (z0a T) hr (s2 (sv 0) (se_add rfl (sln T.n_len (s1 (sv 5))) (sc0 z00)))))
 (ss_one (ss_ret (se_tup rfl (s4 (sv 5) (sv 9) (se_add rfl (sv 9) (scl T.kbh (z0a T) hr (s2 (sv 0) (se_add rfl (se_sub rfl (sln T.n_len (s1 (sv 5))) (sv 9)) (sc0 z00))))) (sv 6))))))))))))
noncomputable def z4h:MS:=(sRet (z3r (mIsi "int" (mVar 0)) (z3r (z7p (mIsi "bool" (mVar 0))) (z0y (mVar 1) (mVar 0) (mVar 2) leD leD))))
noncomputable def z0o:FM:=runF 3 z4h
theorem z0F(T:Wd K mg):FnOk P w K mg base CX0 1 T.kaF.f T.kaF.d z4d (spM (GT T) 3 z0o):=okM z4h T.kaF.F z7F fun cdv A outer s H E F hr=>(ss_one (ss_ret (se_and (se_isi rfl (by decide) rfl T.n_isinstance (sv 0) (z1x (v:= .ty "int") rfl T.n_int PyProof.Rows.Boot.«int» rfl)) (se_and (se_not (se_isi rfl (by decide) rfl T.n_isinstance (sv 0) (z1x (v:= .ty "bool") rfl T.n_bool PyProof.Rows.Boot.«bool» rfl))) (se_one (se_cmp2 z3m z3m (sv 1) (sv 0) (sv 2)))))))
noncomputable def z3f:MS:=(seqS (sIf (mOr (mNot (z0R (mIsi "tuple" (mVar 0)))) (mNot (mBoo (z0y (mVar 1) (mCB [(mVar 0)] lenD) (mVar 2) leD leD)))) (sRet (mC (.bool false))) sNx)
 (sRet (mCB [(z0t (z1j (mVar 0)) (.nm 0) (rt true) (z03 z0o [(mVar 0),(mC (.int 0)),(mC (.int 1039))]) 1 [])] allD)))
noncomputable def z1d:FM:=runF 3 z3f
theorem z2M(T:Wd K mg):FnOk P w K mg base CX0 2 T.kao.f T.kao.d z38 (spM (GT T) 3 z1d):=okM z3f T.kao.F z6g fun cdv A outer s H E F hr=>(ss_cons (ss_if (SW.sb (sw_or (sb_not (sb_truth rfl (se_isi rfl (by decide) rfl T.n_isinstance (sv 0) (z1x (v:= .ty "tuple") rfl T.n_tuple PyProof.Rows.Boot.«tuple» rfl)))) (sw_or1 (sb_not (sb_cmp2 z3m z3m (sv 1) (sln T.n_len (s1 (sv 0))) (sv 2)))))) (ss_one (ss_ret (sc0 z1R))) ss_nil)
 (ss_one (ss_ret (se_cb rfl (zar rfl hr.hd) rfl T.n_all PyProof.Rows.Boot.«all» (s1 (se_comp (own:=["_law_one"]) (frees:=[]) (ix:=[]) rfl rfl (z1y.sc (by kernel_rfl)) (si_seq rfl (sv 0)) (fun _ _ _ _ _ _ _=>(sg_name (z0u (i:=0) (show List.Nodup (["_law_one"]:List Str) by decide+kernel) rfl (Or.inl rfl)))) (fun _ _ _ _ _ _ _=>sts_nil) (fun _ _ _ _ _ _ _=>(scl T.kaF (z0F T) hr (s3 (sv 0) (sc0 z00) (sc0 z00))))))))))
noncomputable def z2N:MS:=(seqS (sIf (mBoo (mBin (mVar 0) (mC .non) isN)) (sRet (mC (.bool true))) sNx)
 (seqS (sIf (mOr (mNot (z0R (mIsi "tuple" (mVar 0)))) (mOr (mBoo (mBin (mCB [(mVar 0)] lenD) (mC (.int 2)) neD)) (mNot (z0R (z03 z0o [(mBin (mVar 0) (mC (.int 0)) ixD),(mC (.int 0)),(mVar 1)]))))) (sRet (mC (.bool false))) sNx)
 (sRet (z3r (z03 z0o [(mBin (mVar 0) (mC (.int 1)) ixD),(mC (.int 0)),(mVar 1)]) (z0y (mC (.int 1)) (mBin (mBin (mVar 0) (mC (.int 1)) ixD) (mBin (mVar 0) (mC (.int 0)) ixD) subD) (mC (.int 96)) leD leD)))))
noncomputable def z1L:FM:=runF 2 z2N
theorem z5X(T:Wd K mg):FnOk P w K mg base CX0 2 T.kah.f T.kah.d z2H (spM (GT T) 2 z1L):=okM z2N T.kah.F z5S fun cdv A outer s H E F hr=>by
 have h64:=hr.units
 exact(ss_cons (ss_if (sb_cmp z7u (sv 0) (sc0 z1w) (z04 _)) (ss_one (ss_ret (sc0 z1R))) ss_nil)
 (ss_cons (ss_if (SW.sb (sw_or (sb_not (sb_truth rfl (se_isi rfl (by decide) rfl T.n_isinstance (sv 0) (z1x (v:= .ty "tuple") rfl T.n_tuple PyProof.Rows.Boot.«tuple» rfl)))) (sw_or (sb_cmp (z4I rfl h64) (sln T.n_len (s1 (sv 0))) (sc0 z00) (z04 _)) (sw_or1 (sb_not (sb_truth rfl (scl T.kaF (z0F T) hr (s3 (sxc (sv 0) z00) (sc0 z00) (sv 1))))))))) (ss_one (ss_ret (sc0 z1R))) ss_nil)
 (ss_one (ss_ret (se_and (scl T.kaF (z0F T) hr (s3 (sxc (sv 0) z00) (sc0 z00) (sv 1))) (se_one (se_cmp2 z3m z3m (sc0 z00) (se_sub rfl (sxc (sv 0) z00) (sxc (sv 0) z00)) (sc0 z00))))))))
noncomputable def z2q:MS:=(seqS (sIf (mOr (mNot (z0R (mIsi "tuple" (mVar 1)))) (mOr (mBoo (mBin (mCB [(mVar 1)] lenD) (mC (.int 4)) neD)) (mNot (z0R (z03 z1d [(mBin (mVar 1) (mC (.int 0)) ixD),(mC (.int 0)),(mC (.int 999))]))))) (sRet (mC (.bool false))) sNx)
 (seqS (sAsg (.tp [(.nm 2),(.nm 3),(.nm 4),(.nm 5)]) (mVar 1))
 (seqS (sAsg (.nm 6) (mCB [(mVar 2)] lenD))
 (seqS (sIf (mOr (mNot (z0R (z03 z0o [(mVar 3),(mC (.int 0)),(mVar 6)]))) (mOr (mNot (z0R (z03 z0o [(mVar 4),(mC (.int 0)),(mVar 6)]))) (mBoo (mBin (mVar 3) (mVar 4) gtD)))) (sRet (mC (.bool false))) sNx)
 (seqS (sIf (mNot (z0R (z03 z1L [(mVar 5),(mVar 6)]))) (sRet (mC (.bool false))) sNx)
 (seqS (sAsg (.tp [(.nm 7),(.nm 8)]) (mOrX (mVar 5) (mCB [(mC (.int 0)),(mC (.int 0))] tupD)))
 (seqS (sAsg (.nm 9) (z0t (mEnm [(mVar 2)]) (.tp [(.nm 0),(.nm 1)]) (mNot (mBoo (z0y (mVar 2) (mVar 0) (mVar 3) leD ltD))) (mVar 1) 2 [7,8]))
 (sRet (z3r (mBin (mCB [(mVar 9)] lenD) (mBin (mVar 0) (mC (.int 0)) ixD) leD) (mBin (z0t (z1j (mVar 9)) (.nm 0) (mBoo (mBin (mVar 0) (mBin (mVar 1) (mC (.int 1)) ixD) inD)) (mVar 0) 1 [0]) (mCB [] lstM) eqD))))))))))
noncomputable def z0n:FM:=runF 10 z2q
theorem z3k(T:Wd K mg):FnOk P w K mg base CX0 3 T.kaf.f T.kaf.d z2n (spM (GT T) 2 z0n):=okM z2q T.kaf.F z0g fun cdv A outer s H E F hr=>by
 have h64:=hr.units
 exact(ss_cons (ss_if (SW.sb (sw_or (sb_not (sb_truth rfl (se_isi rfl (by decide) rfl T.n_isinstance (sv 1) (z1x (v:= .ty "tuple") rfl T.n_tuple PyProof.Rows.Boot.«tuple» rfl)))) (sw_or (sb_cmp (z4I rfl h64) (sln T.n_len (s1 (sv 1))) (sc0 z00) (z04 _)) (sw_or1 (sb_not (sb_truth rfl (scl T.kao (z2M T) hr (s3 (sxc (sv 1) z00) (sc0 z00) (sc0 z00))))))))) (ss_one (ss_ret (sc0 z1R))) ss_nil)
 (ss_cons (ss_asg (sv 1) (sg_tup rfl rfl (sgs_cons (sgn 2 z0g.nd) (sgs_cons (sgn 3 z0g.nd) (sgs_cons (sgn 4 z0g.nd) (sgs_cons (sgn 5 z0g.nd) sgs_nil))))))
 (ss_cons (sst 6 z0g.nd (sln T.n_len (s1 (sv 2))))
 (ss_cons (ss_if (SW.sb (sw_or (sb_not (sb_truth rfl (scl T.kaF (z0F T) hr (s3 (sv 3) (sc0 z00) (sv 6))))) (sw_or (sb_not (sb_truth rfl (scl T.kaF (z0F T) hr (s3 (sv 4) (sc0 z00) (sv 6))))) (sw_or1 (sb_cmp z46 (sv 3) (sv 4) (z04 _)))))) (ss_one (ss_ret (sc0 z1R))) ss_nil)
 (ss_cons (ss_if (sb_not (sb_truth rfl (scl T.kah (z5X T) hr (s2 (sv 5) (sv 6))))) (ss_one (ss_ret (sc0 z1R))) ss_nil)
 (ss_cons (ss_asg (se_orX rfl (sv 5) (se_one (se_tup rfl (s2 (sc0 z00) (sc0 z00))))) (sg_tup rfl rfl (sgs_cons (sg_name (z0u (i:=7) z0g.nd rfl (Or.inr rfl))) (sgs_cons (sg_name (z0u (i:=8) z0g.nd rfl (Or.inr rfl))) sgs_nil))))
 (ss_cons (ss_comp (i:=9) (own:=["_law_k", "_law_sign_here"]) (frees:=["_law_first", "_law_behind"]) (ix:=[7,8]) rfl z0g.nd rfl (Or.inl rfl) (Or.inl rfl) rfl rfl (z1y.sc (by kernel_rfl)) (si_enm rfl rfl T.n_enumerate (s1 (sv 2))) (fun _ _ _ _ _ _ _=>(sg_tup rfl rfl (sgs_cons (sg_name (z0u (i:=0) (show List.Nodup (["_law_k", "_law_sign_here", "_law_first", "_law_behind"]:List Str) by decide+kernel) rfl (Or.inl rfl))) (sgs_cons (sg_name (z0u (i:=1) (show List.Nodup (["_law_k", "_law_sign_here", "_law_first", "_law_behind"]:List Str) by decide+kernel) rfl (Or.inl rfl))) sgs_nil)))) (fun _ _ _ _ _ _ _=>(sts_one (sb_not (sb_cmp2 z3m z3U (sv 2) (sv 0) (sv 3))))) (fun _ _ _ _ _ _ _=>(sv 1)))
 (ss_one (ss_ret (se_and (se_cmp z3m (sln T.n_len (s1 (sv 9))) (sxc (sv 0) z00) (z04 _)) (se_one (se_cmp (z0W rfl h64) (se_comp (own:=["_law_sign_here"]) (frees:=["_law_field_here"]) (ix:=[0]) rfl rfl (z1y.sc (by kernel_rfl)) (si_seq rfl (sv 9)) (fun _ _ _ _ _ _ _=>(sg_name (z0u (i:=0) (show List.Nodup (["_law_sign_here", "_law_field_here"]:List Str) by decide+kernel) rfl (Or.inl rfl)))) (fun _ _ _ _ _ _ _=>(sts_one (sb_cmp (zap rfl h64) (sv 0) (sxc (sv 1) z00) (by with_unfolding_all rfl)))) (fun _ _ _ _ _ _ _=>(sv 0))) (se_lst rfl (sa_of rfl .nil)) (z04 _)))))))))))))
noncomputable def z77:MS:=(seqS (sAsg (.nm 1) (mCB [(mIsX tb_0 (mVar 0)),(mIsX tb_1 (mVar 0)),(mIsX tb_2 (mVar 0)),(mIsX tb_3 (mVar 0))] lstM))
 (seqS (sAsg (.nm 1) (mBin (mVar 1) (mCB [(mIsX tb_4 (mVar 0)),(mIsX tb_5 (mVar 0)),(mIsX tb_6 (mVar 0))] lstM) addD))
 (seqS (sAsg (.nm 2) (mIsX tb_7 (mVar 0)))
 (seqS (sAsg (.nm 3) (mIsX tb_8 (mVar 0)))
 (seqS (sIf (mOr (mBoo (mBin (z5x (mVar 1) [(mC (.bool true))] cntD) (mC (.int 1)) neD)) (mOr (z0R (mVar 2)) (mOr (z0R (mVar 3)) (mNot (z0R (mIsX tb_9 (mVar 0))))))) (sRet (mC (.str ("other" :Str)))) sNx)
 (sRet (mBin (mCB [(mC (.str ("deed" :Str))),(mC (.str ("standing" :Str))),(mC (.str ("place" :Str))),(mC (.str ("mark" :Str))),(mC (.str ("marked" :Str))),(mC (.str ("barred" :Str))),(mC (.str ("long" :Str)))] lstM) (z5x (mVar 1) [(mC (.bool true))] idxD) ixD)))))))
noncomputable def z4u:FM:=runF 4 z77
theorem zaJ(T:Wd K mg):z4J P w K mg base CX0 1 T.kbu.f T.kbu.d z6W (spM (GT T) 1 z4u):=okH z77 T.kbu.F z3D fun cdv A outer s H E F hr=>by
 have h64:=hr.units
 exact(ss_cons (sst 1 z3D.nd (se_lst rfl (s4 (se_isX1 (c:= .ref T.kbj) rfl rfl (ht_0 T) rfl T.n_isinstance (sv 0) (z0d (v:= .ref T.kbj) rfl T.ka8 rfl)) (se_isX1 (c:= .ref T.kav) rfl rfl (ht_1 T) rfl T.n_isinstance (sv 0) (z0d (v:= .ref T.kav) rfl T.kam rfl)) (se_isX1 (c:= .ref T.kbb) rfl rfl (ht_2 T) rfl T.n_isinstance (sv 0) (z0d (v:= .ref T.kbb) rfl T.kaO rfl)) (se_isX1 (c:= .ref T.kbk) rfl rfl (ht_3 T) rfl T.n_isinstance (sv 0) (z0d (v:= .ref T.kbk) rfl T.kaW rfl)))))
 (ss_cons (sst 1 z3D.nd (se_add rfl (sv 1) (se_lst rfl (s3 (se_isX1 (c:= .ref T.kbv) rfl rfl (ht_4 T) rfl T.n_isinstance (sv 0) (z0d (v:= .ref T.kbv) rfl T.ka6 rfl)) (se_isX1 (c:= .ref T.kbi) rfl rfl (ht_5 T) rfl T.n_isinstance (sv 0) (z0d (v:= .ref T.kbi) rfl T.kbe rfl)) (se_isX1 (c:= .ref T.ka1) rfl rfl (ht_6 T) rfl T.n_isinstance (sv 0) (z0d (v:= .ref T.ka1) rfl T.kaH rfl))))))
 (ss_cons (sst 2 z3D.nd (se_isXT rfl (ht_7 T) rfl T.n_isinstance (sv 0) (z8N (cs:=[.ref T.kbo, .ref T.kby, .ref T.ka4, .ref T.kaT, .ref T.kaN, .ref T.kbG, .ref T.kbl, .ref T.kbq, .ref T.ka3, .ref T.kbr, .ref T.kbz]) (z0q (z0d (v:= .ref T.kbo) rfl T.kaX rfl) (z0q (z0d (v:= .ref T.kby) rfl T.kbn rfl) (z0q (z0d (v:= .ref T.ka4) rfl T.kaJ rfl) (z0q (z0d (v:= .ref T.kaT) rfl T.kaQ rfl) (z0q (z0d (v:= .ref T.kaN) rfl T.kaD rfl) (z0q (z0d (v:= .ref T.kbG) rfl T.kbA rfl) (z0q (z0d (v:= .ref T.kbl) rfl T.kbc rfl) (z0q (z0d (v:= .ref T.kbq) rfl T.kaZ rfl) (z0q (z0d (v:= .ref T.ka3) rfl T.kaG rfl) (z0q (z0d (v:= .ref T.kbr) rfl T.ka0 rfl) (z0q (z0d (v:= .ref T.kbz) rfl T.kbx rfl) z5l))))))))))) (fun _ _ _ q=>q) rfl rfl)))
 (ss_cons (sst 3 z3D.nd (se_isXT rfl (ht_8 T) rfl T.n_isinstance (sv 0) (z8N (cs:=[.ref T.kaE, .ref T.kbC, .ref T.kbg, .ref T.kba, .ref T.kaI]) (z0q (z0d (v:= .ref T.kaE) rfl T.kau rfl) (z0q (z0d (v:= .ref T.kbC) rfl T.kbw rfl) (z0q (z0d (v:= .ref T.kbg) rfl T.ka9 rfl) (z0q (z0d (v:= .ref T.kba) rfl T.kaL rfl) (z0q (z0d (v:= .ref T.kaI) rfl T.kaA rfl) z5l))))) (fun _ _ _ q=>q) rfl rfl)))
 (ss_cons (ss_if (SW.sb (sw_or (sb_cmp (z4I rfl h64) (se_cl rfl PySem.F.slot_list_count PySem.F.type_list_count (zc1 rfl) (sv 1) (s1 (sc0 z1R))) (sc0 z00) (z04 _)) (sw_or (sb_truth rfl (sv 2)) (sw_or (sb_truth rfl (sv 3)) (sw_or1 (sb_not (sb_truth rfl (se_isX1 (c:= .ty "ValueError") rfl rfl (ht_9 T) rfl T.n_isinstance (sv 0) (z1x (v:= .ty "ValueError") rfl T.n_ValueError PyProof.Rows.Boot.«ValueError» rfl))))))))) (ss_one (ss_ret (sc0 z06))) ss_nil)
 (ss_one (ss_ret (sxx (se_lst rfl (sa_of rfl (.cons (sc0 z06) rfl (.cons (sc0 z06) rfl (.cons (sc0 z06) rfl (.cons (sc0 z06) rfl (.cons (sc0 z06) rfl (.cons (sc0 z06) rfl (.cons (sc0 z06) rfl .nil))))))))) (se_cl rfl PySem.F.slot_list_index PySem.F.type_list_index (zc2 rfl) (sv 1) (s1 (sc0 z1R)))))))))))
noncomputable def z5j:MS:=(seqS (sTry z2c 4 (sAsg (.nm 3) (z2T z0m [(mVar 0),(mVar 1),(mVar 2)])) (sRet (mCB [(z03 z4u [(mVar 4)]),(mVar 1)] tupD)))
 (sRet (mCB [(mC (.str ("done" :Str))),(mVar 3)] tupD)))
noncomputable def z0I:FM:=runF 5 z5j
theorem z7J(T:Wd K mg):FnOk P w K mg base CX0 6 T.kbp.f T.kbp.d z6X (spM (GT T) 3 z0I):=okM z5j T.kbp.F z5T fun cdv A outer s H E F hr=>(ss_cons (ss_try rfl rfl rfl rfl rfl T.kan z5T.nd rfl rfl (z72 T) (fun pl E1 F1 E2 hx=>(ss_one (sst 3 z5T.nd (se_callX hx ((z9y T).mono (by lia)) hr rfl T.kbf.m T.kbf.F.kp T.kbf.b (s3 (sv 0) (sv 1) (sv 2)) rfl)))) (fun ax=>(ss_one (ss_ret (se_tup rfl (s2 (se_callH rfl ((zaJ T).mono (by lia)) (hr.h _) rfl T.kbu.m T.kbu.F.kp T.kbu.b zfd (s1 (sv 4)) rfl) (sv 1)))))))
 (ss_one (ss_ret (se_tup rfl (s2 (sc0 z06) (sv 3))))))
noncomputable def z4V:MS:=(seqS (sAsg (.tp [(.nm 3),(.nm 4),(.nm 5),(.nm 6)]) (mVar 1))
 (seqS (sIf (mBoo (mBin (mBin (mVar 2) (mC (.int 0)) ixD) (mC (.str ("choose" :Str))) eqD)) (seqS (sIf (mBoo (mBin (mBin (mVar 2) (mC (.int 2)) ixD) (mCB [(mVar 3)] lenD) gtD)) (sRet (mCB [(mC (.str ("place" :Str))),(mVar 1)] tupD)) sNx)
 (sRet (mCB [(mC (.str ("done" :Str))),(mCB [(mVar 3),(mBin (mVar 2) (mC (.int 1)) ixD),(mBin (mVar 2) (mC (.int 2)) ixD),(mVar 6)] tupD)] tupD))) sNx)
 (seqS (sIf (mAnd (mBoo (mBin (mBin (mVar 2) (mC (.int 0)) ixD) (mC (.str ("unmark" :Str))) eqD)) (mBoo (mBin (mVar 6) (mC .non) isN))) (sRet (mCB [(mC (.str ("mark" :Str))),(mVar 1)] tupD)) sNx)
 (seqS (sAsg (.nm 7) (mBin (mBin (mVar 2) (mCB [(mCB [] tupD)] tupD) addD) (mC (.int 1)) ixD))
 (seqS (sAsg (.tp [(.nm 8),(.nm 9)]) (mOrX (mVar 6) (mCB [(mVar 4),(mVar 5)] tupD)))
 (seqS (sAsg (.nm 10) (mBin (mBin (mSl (mVar 3) none (some (mVar 8))) (mVar 7) addD) (mSl (mVar 3) (some (mVar 9)) none) addD))
 (seqS (sAsg (.nm 11) (mBin (mVar 8) (mCB [(mVar 7)] lenD) addD))
 (seqS (sIf (mAnd (mBoo (mBin (mBin (mVar 2) (mC (.int 0)) ixD) (mC (.str ("commit" :Str))) eqD)) (mBoo (mBin (z0t (z1j (mVar 7)) (.nm 0) (mBoo (mBin (mVar 0) (mBin (mVar 1) (mC (.int 1)) ixD) inD)) (mVar 0) 1 [0]) (mCB [] lstM) neD))) (sRet (mCB [(mC (.str ("barred" :Str))),(mVar 1)] tupD)) sNx)
 (seqS (sIf (mAnd (mBoo (mBin (mBin (mVar 2) (mC (.int 0)) ixD) (mC (.str ("commit" :Str))) eqD)) (mBoo (mBin (mCB [(mVar 10)] lenD) (mBin (mVar 0) (mC (.int 0)) ixD) gtD))) (sRet (mCB [(mC (.str ("long" :Str))),(mVar 1)] tupD)) sNx)
 (seqS (sIf (mBoo (mBin (mBin (mVar 2) (mC (.int 0)) ixD) (mC (.str ("mark" :Str))) eqD)) (sRet (mCB [(mC (.str ("done" :Str))),(mCB [(mVar 10),(mVar 11),(mVar 11),(mCB [(mVar 8),(mVar 11)] tupD)] tupD)] tupD)) sNx)
 (sRet (mCB [(mC (.str ("done" :Str))),(mCB [(mVar 10),(mVar 11),(mVar 11),(mC .non)] tupD)] tupD))))))))))))
noncomputable def z24:FM:=runF 12 z4V
theorem zc8(T:Wd K mg):FnOk P w K mg base CX0 1 T.kbD.f T.kbD.d z8d (spM (GT T) 3 z24):=okM z4V T.kbD.F z1J fun cdv A outer s H E F hr=>by
 have h64:=hr.units
 exact(ss_cons (ss_asg (sv 1) (sg_tup rfl rfl (sgs_cons (sgn 3 z1J.nd) (sgs_cons (sgn 4 z1J.nd) (sgs_cons (sgn 5 z1J.nd) (sgs_cons (sgn 6 z1J.nd) sgs_nil))))))
 (ss_cons (ss_if (sb_cmp (z0W rfl h64) (sxc (sv 2) z00) (sc0 z06) (z04 _)) (ss_cons (ss_if (sb_cmp z46 (sxc (sv 2) z00) (sln T.n_len (s1 (sv 3))) (z04 _)) (ss_one (ss_ret (se_tup rfl (s2 (sc0 z06) (sv 1))))) ss_nil)
 (ss_one (ss_ret (se_tup rfl (s2 (sc0 z06) (se_tup rfl (s4 (sv 3) (sxc (sv 2) z00) (sxc (sv 2) z00) (sv 6)))))))) ss_nil)
 (ss_cons (ss_if (SW.sb (sw_and (sb_cmp (z0W rfl h64) (sxc (sv 2) z00) (sc0 z06) (z04 _)) (sw_and1 (sb_cmp z7u (sv 6) (sc0 z1w) (z04 _))))) (ss_one (ss_ret (se_tup rfl (s2 (sc0 z06) (sv 1))))) ss_nil)
 (ss_cons (sst 7 z1J.nd (sxc (se_add rfl (sv 2) (se_tup rfl (s1 (se_tup rfl (sa_of rfl .nil))))) z00))
 (ss_cons (ss_asg (se_orX rfl (sv 6) (se_one (se_tup rfl (s2 (sv 4) (sv 5))))) (sg_tup rfl rfl (sgs_cons (sgn 8 z1J.nd) (sgs_cons (sgn 9 z1J.nd) sgs_nil))))
 (ss_cons (sst 10 z1J.nd (se_add rfl (se_add rfl (se_slice rfl (sv 3) so_none (so_some (sv 8))) (sv 7)) (se_slice rfl (sv 3) (so_some (sv 9)) so_none)))
 (ss_cons (sst 11 z1J.nd (se_add rfl (sv 8) (sln T.n_len (s1 (sv 7)))))
 (ss_cons (ss_if (SW.sb (sw_and (sb_cmp (z0W rfl h64) (sxc (sv 2) z00) (sc0 z06) (z04 _)) (sw_and1 (sb_cmp (z4I rfl h64) (se_comp (own:=["_law_sign_here"]) (frees:=["_law_field_here"]) (ix:=[0]) rfl rfl (z1y.sc (by kernel_rfl)) (si_seq rfl (sv 7)) (fun _ _ _ _ _ _ _=>(sg_name (z0u (i:=0) (show List.Nodup (["_law_sign_here", "_law_field_here"]:List Str) by decide+kernel) rfl (Or.inl rfl)))) (fun _ _ _ _ _ _ _=>(sts_one (sb_cmp (zap rfl h64) (sv 0) (sxc (sv 1) z00) (by with_unfolding_all rfl)))) (fun _ _ _ _ _ _ _=>(sv 0))) (se_lst rfl (sa_of rfl .nil)) (z04 _))))) (ss_one (ss_ret (se_tup rfl (s2 (sc0 z06) (sv 1))))) ss_nil)
 (ss_cons (ss_if (SW.sb (sw_and (sb_cmp (z0W rfl h64) (sxc (sv 2) z00) (sc0 z06) (z04 _)) (sw_and1 (sb_cmp z46 (sln T.n_len (s1 (sv 10))) (sxc (sv 0) z00) (z04 _))))) (ss_one (ss_ret (se_tup rfl (s2 (sc0 z06) (sv 1))))) ss_nil)
 (ss_cons (ss_if (sb_cmp (z0W rfl h64) (sxc (sv 2) z00) (sc0 z06) (z04 _)) (ss_one (ss_ret (se_tup rfl (s2 (sc0 z06) (se_tup rfl (s4 (sv 10) (sv 11) (sv 11) (se_tup rfl (s2 (sv 8) (sv 11))))))))) ss_nil)
 (ss_one (ss_ret (se_tup rfl (s2 (sc0 z06) (se_tup rfl (s4 (sv 10) (sv 11) (sv 11) (sc0 z1w)))))))))))))))))
noncomputable def z78:MS:=(sRet (mCB [(z0t (z3s [(mVar 0)]) (.nm 0) (mNot (mBoo (z0y (mVar 1) (mVar 0) (mVar 2) leD ltD))) (mVar 0) 1 [1,2])] lenD))
noncomputable def z1e:FM:=runF 3 z78
theorem z4v(T:Wd K mg):FnOk P w K mg base CX0 1 T.kbm.f T.kbm.d z6Y (spM (GT T) 3 z1e):=okM z78 T.kbm.F zaE fun cdv A outer s H E F hr=>(ss_one (ss_ret (sln T.n_len (s1 (se_comp (own:=["_law_k"]) (frees:=["_law_place", "_law_behind"]) (ix:=[1,2]) rfl rfl (z1y.sc (by kernel_rfl)) (si_rng1 rfl T.n_range (s1 (sv 0))) (fun _ _ _ _ _ _ _=>(sg_name (z0u (i:=0) (show List.Nodup (["_law_k", "_law_place", "_law_behind"]:List Str) by decide+kernel) rfl (Or.inl rfl)))) (fun _ _ _ _ _ _ _=>(sts_one (sb_not (sb_cmp2 z3m z3U (sv 1) (sv 0) (sv 2))))) (fun _ _ _ _ _ _ _=>(sv 0)))))))
noncomputable def z8j:MS:=(seqS (sAsg (.tp [(.nm 3),(.nm 4),(.nm 5),(.nm 6)]) (mVar 0))
 (seqS (sIf (mBoo (mBin (mVar 2) (mCB [(mVar 3)] lenD) gtD)) (sRet (mCB [(mC (.str ("place" :Str))),(mVar 0)] tupD)) sNx)
 (seqS (sIf (mBoo (mBin (mVar 6) (mC .non) notN)) (seqS (sIf (mBoo (mBin (z0t (z80 [(mBin (mVar 6) (mC (.int 0)) ixD),(mBin (mVar 6) (mC (.int 1)) ixD)]) (.nm 0) (mBoo (z0y (mVar 1) (mVar 0) (mVar 2) leD ltD)) (mVar 0) 1 [1,2]) (mCB [] lstM) neD)) (sRet (mCB [(mC (.str ("marked" :Str))),(mVar 0)] tupD)) sNx)
 (sAsg (.nm 6) (mCB [(z03 z1e [(mBin (mVar 6) (mC (.int 0)) ixD),(mVar 1),(mVar 2)]),(z03 z1e [(mBin (mVar 6) (mC (.int 1)) ixD),(mVar 1),(mVar 2)])] tupD))) sNx)
 (seqS (sAsg (.nm 7) (mCB [(z0t (mEnm [(mVar 3)]) (.tp [(.nm 0),(.nm 1)]) (mNot (mBoo (z0y (mVar 2) (mVar 0) (mVar 3) leD ltD))) (mVar 1) 2 [1,2])] tupF))
 (sRet (mCB [(mC (.str ("done" :Str))),(mCB [(mVar 7),(z03 z1e [(mVar 4),(mVar 1),(mVar 2)]),(z03 z1e [(mVar 5),(mVar 1),(mVar 2)]),(mVar 6)] tupD)] tupD))))))
noncomputable def z5Y:FM:=runF 8 z8j
theorem zc9(T:Wd K mg):FnOk P w K mg base CX0 2 T.kbE.f T.kbE.d z8e (spM (GT T) 3 z5Y):=okM z8j T.kbE.F z3a fun cdv A outer s H E F hr=>by
 have h64:=hr.units
 exact(ss_cons (ss_asg (sv 0) (sg_tup rfl rfl (sgs_cons (sgn 3 z3a.nd) (sgs_cons (sgn 4 z3a.nd) (sgs_cons (sgn 5 z3a.nd) (sgs_cons (sgn 6 z3a.nd) sgs_nil))))))
 (ss_cons (ss_if (sb_cmp z46 (sv 2) (sln T.n_len (s1 (sv 3))) (z04 _)) (ss_one (ss_ret (se_tup rfl (s2 (sc0 z06) (sv 0))))) ss_nil)
 (ss_cons (ss_if (sb_cmp z47 (sv 6) (sc0 z1w) (z04 _)) (ss_cons (ss_if (sb_cmp (z4I rfl h64) (se_comp (own:=["_law_k"]) (frees:=["_law_place", "_law_behind"]) (ix:=[1,2]) rfl rfl (z1y.sc (by kernel_rfl)) (si_rng2 rfl T.n_range (s2 (sxc (sv 6) z00) (sxc (sv 6) z00))) (fun _ _ _ _ _ _ _=>(sg_name (z0u (i:=0) (show List.Nodup (["_law_k", "_law_place", "_law_behind"]:List Str) by decide+kernel) rfl (Or.inl rfl)))) (fun _ _ _ _ _ _ _=>(sts_one (sb_cmp2 z3m z3U (sv 1) (sv 0) (sv 2)))) (fun _ _ _ _ _ _ _=>(sv 0))) (se_lst rfl (sa_of rfl .nil)) (z04 _)) (ss_one (ss_ret (se_tup rfl (s2 (sc0 z06) (sv 0))))) ss_nil)
 (ss_one (sst 6 z3a.nd (se_tup rfl (s2 (scl T.kbm (z4v T) hr (s3 (sxc (sv 6) z00) (sv 1) (sv 2))) (scl T.kbm (z4v T) hr (s3 (sxc (sv 6) z00) (sv 1) (sv 2)))))))) ss_nil)
 (ss_cons (sst 7 z3a.nd (se_ct rfl (z5i rfl) rfl T.n_tuple PyProof.Rows.Boot.«tuple» (s1 (se_comp (own:=["_law_k", "_law_sign_here"]) (frees:=["_law_place", "_law_behind"]) (ix:=[1,2]) rfl rfl (z1y.sc (by kernel_rfl)) (si_enm rfl rfl T.n_enumerate (s1 (sv 3))) (fun _ _ _ _ _ _ _=>(sg_tup rfl rfl (sgs_cons (sg_name (z0u (i:=0) (show List.Nodup (["_law_k", "_law_sign_here", "_law_place", "_law_behind"]:List Str) by decide+kernel) rfl (Or.inl rfl))) (sgs_cons (sg_name (z0u (i:=1) (show List.Nodup (["_law_k", "_law_sign_here", "_law_place", "_law_behind"]:List Str) by decide+kernel) rfl (Or.inl rfl))) sgs_nil)))) (fun _ _ _ _ _ _ _=>(sts_one (sb_not (sb_cmp2 z3m z3U (sv 2) (sv 0) (sv 3))))) (fun _ _ _ _ _ _ _=>(sv 1))))))
 (ss_one (ss_ret (se_tup rfl (s2 (sc0 z06) (se_tup rfl (s4 (sv 7) (scl T.kbm (z4v T) hr (s3 (sv 4) (sv 1) (sv 2))) (scl T.kbm (z4v T) hr (s3 (sv 5) (sv 1) (sv 2))) (sv 6)))))))))))
noncomputable def z8k:MS:=(seqS (sAsg (.tp [(.nm 4),(.nm 5),(.nm 6),(.nm 7)]) (mVar 1))
 (seqS (sAsg (.nm 8) (mCB [(mVar 3)] lenD))
 (seqS (sAsg (.nm 9) (mCB [(mVar 4)] lenD))
 (seqS (sIf (mBoo (mBin (mVar 2) (mCB [(mVar 4)] lenD) gtD)) (sRet (mCB [(mC (.str ("place" :Str))),(mVar 1)] tupD)) sNx)
 (seqS (sIf (mBoo (mBin (mVar 7) (mC .non) notN)) (seqS (sAsg (.nm 9) (mBin (mVar 9) (mBin (mBin (mVar 7) (mC (.int 1)) ixD) (mBin (mVar 7) (mC (.int 0)) ixD) subD) subD))
 (seqS (sIf (mBoo (z0y (mBin (mVar 7) (mC (.int 0)) ixD) (mVar 2) (mBin (mVar 7) (mC (.int 1)) ixD) ltD ltD)) (sRet (mCB [(mC (.str ("marked" :Str))),(mVar 1)] tupD)) sNx)
 (sIf (mBoo (mBin (mVar 2) (mBin (mVar 7) (mC (.int 0)) ixD) leD)) (sAsg (.nm 7) (mCB [(mBin (mBin (mVar 7) (mC (.int 0)) ixD) (mVar 8) addD),(mBin (mBin (mVar 7) (mC (.int 1)) ixD) (mVar 8) addD)] tupD)) sNx))) sNx)
 (seqS (sIf (mBoo (mBin (z0t (z1j (mVar 3)) (.nm 0) (mBoo (mBin (mVar 0) (mBin (mVar 1) (mC (.int 1)) ixD) inD)) (mVar 0) 1 [0]) (mCB [] lstM) neD)) (sRet (mCB [(mC (.str ("barred" :Str))),(mVar 1)] tupD)) sNx)
 (seqS (sIf (mBoo (mBin (mBin (mVar 9) (mVar 8) addD) (mBin (mVar 0) (mC (.int 0)) ixD) gtD)) (sRet (mCB [(mC (.str ("long" :Str))),(mVar 1)] tupD)) sNx)
 (seqS (sAsg (.tp [(.nm 5),(.nm 6)]) (z0t (z1j (mCB [(mVar 5),(mVar 6)] tupD)) (.nm 0) (rt true) (mBin (mVar 0) (mBin (mVar 1) (mCB [(mBin (mVar 0) (mVar 2) gtD)] intD) mulD) addD) 1 [8,2]))
 (sRet (mCB [(mC (.str ("done" :Str))),(mCB [(mBin (mBin (mSl (mVar 4) none (some (mVar 2))) (mVar 3) addD) (mSl (mVar 4) (some (mVar 2)) none) addD),(mVar 5),(mVar 6),(mVar 7)] tupD)] tupD))))))))))
noncomputable def z5Z:FM:=runF 10 z8k
theorem zca(T:Wd K mg):FnOk P w K mg base CX0 1 T.kbF.f T.kbF.d z8f (spM (GT T) 4 z5Z):=okM z8k T.kbF.F z1B fun cdv A outer s H E F hr=>by
 have h64:=hr.units
 exact(ss_cons (ss_asg (sv 1) (sg_tup rfl rfl (sgs_cons (sgn 4 z1B.nd) (sgs_cons (sgn 5 z1B.nd) (sgs_cons (sgn 6 z1B.nd) (sgs_cons (sgn 7 z1B.nd) sgs_nil))))))
 (ss_cons (ss_set (fun{te} h=>z7d (i:=8) z1B.nd rfl (Or.inr rfl) h) (sln T.n_len (s1 (sv 3))))
 (ss_cons (sst 9 z1B.nd (sln T.n_len (s1 (sv 4))))
 (ss_cons (ss_if (sb_cmp z46 (sv 2) (sln T.n_len (s1 (sv 4))) (z04 _)) (ss_one (ss_ret (se_tup rfl (s2 (sc0 z06) (sv 1))))) ss_nil)
 (ss_cons (ss_if (sb_cmp z47 (sv 7) (sc0 z1w) (z04 _)) (ss_cons (sst 9 z1B.nd (se_sub rfl (sv 9) (se_sub rfl (sxc (sv 7) z00) (sxc (sv 7) z00))))
 (ss_cons (ss_if (sb_cmp2 z3U z3U (sxc (sv 7) z00) (sv 2) (sxc (sv 7) z00)) (ss_one (ss_ret (se_tup rfl (s2 (sc0 z06) (sv 1))))) ss_nil)
 (ss_one (ss_if (sb_cmp z3m (sv 2) (sxc (sv 7) z00) (z04 _)) (ss_one (sst 7 z1B.nd (se_tup rfl (s2 (se_add rfl (sxc (sv 7) z00) (sv 8)) (se_add rfl (sxc (sv 7) z00) (sv 8)))))) ss_nil)))) ss_nil)
 (ss_cons (ss_if (sb_cmp (z4I rfl h64) (se_comp (own:=["_law_sign_here"]) (frees:=["_law_field_here"]) (ix:=[0]) rfl rfl (z1y.sc (by kernel_rfl)) (si_seq rfl (sv 3)) (fun _ _ _ _ _ _ _=>(sg_name (z0u (i:=0) (show List.Nodup (["_law_sign_here", "_law_field_here"]:List Str) by decide+kernel) rfl (Or.inl rfl)))) (fun _ _ _ _ _ _ _=>(sts_one (sb_cmp (zap rfl h64) (sv 0) (sxc (sv 1) z00) (by with_unfolding_all rfl)))) (fun _ _ _ _ _ _ _=>(sv 0))) (se_lst rfl (sa_of rfl .nil)) (z04 _)) (ss_one (ss_ret (se_tup rfl (s2 (sc0 z06) (sv 1))))) ss_nil)
 (ss_cons (ss_if (sb_cmp z46 (se_add rfl (sv 9) (sv 8)) (sxc (sv 0) z00) (z04 _)) (ss_one (ss_ret (se_tup rfl (s2 (sc0 z06) (sv 1))))) ss_nil)
 (ss_cons (ss_asg (se_comp (own:=["_law_at"]) (frees:=["_law_many", "_law_place"]) (ix:=[8,2]) rfl rfl (z1y.sc (by kernel_rfl)) (si_seq rfl (se_tup rfl (s2 (sv 5) (sv 6)))) (fun _ _ _ _ _ _ _=>(sg_name (z0u (i:=0) (show List.Nodup (["_law_at", "_law_many", "_law_place"]:List Str) by decide+kernel) rfl (Or.inl rfl)))) (fun _ _ _ _ _ _ _=>sts_nil) (fun _ _ _ _ _ _ _=>(se_add rfl (sv 0) (se_mul rfl (sv 1) (se_ct rfl zfQ rfl T.n_int PyProof.Rows.Boot.«int» (s1 (se_cmp z46 (sv 0) (sv 2) (z04 _)))))))) (sg_tup rfl rfl (sgs_cons (sgn 5 z1B.nd) (sgs_cons (sgn 6 z1B.nd) sgs_nil))))
 (ss_one (ss_ret (se_tup rfl (s2 (sc0 z06) (se_tup rfl (s4 (se_add rfl (se_add rfl (se_slice rfl (sv 4) so_none (so_some (sv 2))) (sv 3)) (se_slice rfl (sv 4) (so_some (sv 2)) so_none)) (sv 5) (sv 6) (sv 7)))))))))))))))
noncomputable def z1q:MS:=(seqS (sIf (mOr (mNot (z0R (mIsi "tuple" (mVar 0)))) (mOr (mBoo (mBin (mCB [(mVar 0)] lenD) (mC (.int 0)) eqD)) (mNot (z0R (mIsi "str" (mBin (mVar 0) (mC (.int 0)) ixD)))))) (sRet (mC (.bool false))) sNx)
 (seqS (sAsg (.nm 1) (dcM [.inr ("mark" :Str), .inr ("unmark" :Str), .inr ("commit" :Str), .inr ("choose" :Str), .inr ("put" :Str), .inr ("out" :Str), .inr ("stand" :Str)] [.int 2, .int 1, .int 2, .int 3, .int 3, .int 3, .int 2]))
 (seqS (sIf (mOr (mBoo (mBin (mBin (mVar 0) (mC (.int 0)) ixD) (mVar 1) zaw)) (mBoo (mBin (mBin (mVar 1) (mBin (mVar 0) (mC (.int 0)) ixD) dgtP) (mCB [(mVar 0)] lenD) neD))) (sRet (mC (.bool false))) sNx)
 (seqS (sIf (mBoo (mBin (mBin (mVar 0) (mC (.int 0)) ixD) (mCB [(mC (.str ("mark" :Str))),(mC (.str ("commit" :Str)))] tupD) inD)) (sRet (z03 z1d [(mBin (mVar 0) (mC (.int 1)) ixD),(mC (.int 1)),(mC (.int 96))])) sNx)
 (seqS (sIf (mBoo (mBin (mCB [(mVar 0)] lenD) (mC (.int 3)) ltD)) (sRet (mC (.bool true))) sNx)
 (seqS (sIf (mNot (z0R (z03 z0o [(mBin (mVar 0) (mC (.int 1)) ixD),(mC (.int 0)),(mC (.int 999))]))) (sRet (mC (.bool false))) sNx)
 (seqS (sIf (mBoo (mBin (mBin (mVar 0) (mC (.int 0)) ixD) (mC (.str ("put" :Str))) eqD)) (sRet (z03 z1d [(mBin (mVar 0) (mC (.int 2)) ixD),(mC (.int 1)),(mC (.int 24))])) sNx)
 (seqS (sIf (mBoo (mBin (mBin (mVar 0) (mC (.int 0)) ixD) (mC (.str ("out" :Str))) eqD)) (sRet (z03 z0o [(mBin (mVar 0) (mC (.int 2)) ixD),(mC (.int 1)),(mC (.int 60))])) sNx)
 (sRet (z3r (z03 z0o [(mBin (mVar 0) (mC (.int 2)) ixD),(mC (.int 0)),(mC (.int 999))]) (mBin (mBin (mVar 0) (mC (.int 1)) ixD) (mBin (mVar 0) (mC (.int 2)) ixD) leD)))))))))))
noncomputable def z0e:FM:=runF 2 z1q
theorem z7K(T:Wd K mg):FnOk P w K mg base CX0 3 T.kaC.f T.kaC.d z4e (spM (GT T) 1 z0e):=okM z1q T.kaC.F z53 fun cdv A outer s H E F hr=>by
 have h64:=hr.units
 exact(ss_cons (ss_if (SW.sb (sw_or (sb_not (sb_truth rfl (se_isi rfl (by decide) rfl T.n_isinstance (sv 0) (z1x (v:= .ty "tuple") rfl T.n_tuple PyProof.Rows.Boot.«tuple» rfl)))) (sw_or (sb_cmp (z0W rfl h64) (sln T.n_len (s1 (sv 0))) (sc0 z00) (z04 _)) (sw_or1 (sb_not (sb_truth rfl (se_isi rfl (by decide) rfl T.n_isinstance (sxc (sv 0) z00) (z1x (v:= .ty "str") rfl T.n_str PyProof.Rows.Boot.«str» rfl)))))))) (ss_one (ss_ret (sc0 z1R))) ss_nil)
 (ss_cons (ss_setN (i:=1) z53.nd rfl (Or.inl rfl) (Or.inl rfl) (se_dispC [(.inr ("mark" :Str), .int 2),(.inr ("unmark" :Str), .int 1),(.inr ("commit" :Str), .int 2),(.inr ("choose" :Str), .int 3),(.inr ("put" :Str), .int 3),(.inr ("out" :Str), .int 3),(.inr ("stand" :Str), .int 2)] rfl (z2X z06 z00 (z2X z06 z00 (z2X z06 z00 (z2X z06 z00 (z2X z06 z00 (z2X z06 z00 (z2X z06 z00 zdo))))))) rfl rfl (fun z=>nomatch z) (by decide) (by decide) (by decide+kernel) rfl))
 (ss_cons (ss_if (SW.sb (sw_or (sb_cmp (zc4 h64) (sxc (sv 0) z00) (sv 1) (by with_unfolding_all rfl)) (sw_or1 (sb_cmp (z4I rfl h64) (se_dgtP rfl h64 (sv 1) (sxc (sv 0) z00) (fun _ _=>rfl)) (sln T.n_len (s1 (sv 0))) (z04 _))))) (ss_one (ss_ret (sc0 z1R))) ss_nil)
 (ss_cons (ss_if (sb_cmp (zap rfl h64) (sxc (sv 0) z00) (se_tup rfl (s2 (sc0 z06) (sc0 z06))) (by with_unfolding_all rfl)) (ss_one (ss_ret (scl T.kao (z2M T) hr (s3 (sxc (sv 0) z00) (sc0 z00) (sc0 z00))))) ss_nil)
 (ss_cons (ss_if (sb_cmp z3U (sln T.n_len (s1 (sv 0))) (sc0 z00) (z04 _)) (ss_one (ss_ret (sc0 z1R))) ss_nil)
 (ss_cons (ss_if (sb_not (sb_truth rfl (scl T.kaF (z0F T) hr (s3 (sxc (sv 0) z00) (sc0 z00) (sc0 z00))))) (ss_one (ss_ret (sc0 z1R))) ss_nil)
 (ss_cons (ss_if (sb_cmp (z0W rfl h64) (sxc (sv 0) z00) (sc0 z06) (z04 _)) (ss_one (ss_ret (scl T.kao (z2M T) hr (s3 (sxc (sv 0) z00) (sc0 z00) (sc0 z00))))) ss_nil)
 (ss_cons (ss_if (sb_cmp (z0W rfl h64) (sxc (sv 0) z00) (sc0 z06) (z04 _)) (ss_one (ss_ret (scl T.kaF (z0F T) hr (s3 (sxc (sv 0) z00) (sc0 z00) (sc0 z00))))) ss_nil)
 (ss_one (ss_ret (se_and (scl T.kaF (z0F T) hr (s3 (sxc (sv 0) z00) (sc0 z00) (sc0 z00))) (se_one (se_cmp z3m (sxc (sv 0) z00) (sxc (sv 0) z00) (z04 _))))))))))))))
noncomputable def z2W:MS:=(seqS (sIf (mNot (z0R (z03 z0e [(mVar 2)]))) (sRet (mCB [(mC (.str ("deed" :Str))),(mVar 1)] tupD)) sNx)
 (seqS (sIf (mBoo (mBin (mBin (mVar 2) (mC (.int 0)) ixD) (mC (.str ("stand" :Str))) eqD)) (seqS (sIf (mNot (z0R (z03 z0n [(mVar 0),(mBin (mVar 2) (mC (.int 1)) ixD)]))) (sRet (mCB [(mC (.str ("standing" :Str))),(mVar 1)] tupD)) sNx)
 (sRet (mCB [(mC (.str ("done" :Str))),(mBin (mVar 2) (mC (.int 1)) ixD)] tupD))) sNx)
 (seqS (sIf (mBoo (mBin (mBin (mVar 2) (mC (.int 0)) ixD) (mC (.str ("put" :Str))) eqD)) (sRet (z03 z5Z [(mVar 0),(mVar 1),(mBin (mVar 2) (mC (.int 1)) ixD),(mBin (mVar 2) (mC (.int 2)) ixD)])) sNx)
 (seqS (sIf (mBoo (mBin (mBin (mVar 2) (mC (.int 0)) ixD) (mC (.str ("out" :Str))) eqD)) (sRet (z03 z5Y [(mVar 1),(mBin (mVar 2) (mC (.int 1)) ixD),(mBin (mBin (mVar 2) (mC (.int 1)) ixD) (mBin (mVar 2) (mC (.int 2)) ixD) addD)])) sNx)
 (sRet (z03 z24 [(mVar 0),(mVar 1),(mVar 2)]))))))
noncomputable def z0L:FM:=runF 3 z2W
theorem z9z(T:Wd K mg):FnOk P w K mg base CX0 4 T.kaU.f T.kaU.d z5M (spM (GT T) 3 z0L):=okM z2W T.kaU.F z9w fun cdv A outer s H E F hr=>by
 have h64:=hr.units
 exact(ss_cons (ss_if (sb_not (sb_truth rfl (scl T.kaC (z7K T) hr (s1 (sv 2))))) (ss_one (ss_ret (se_tup rfl (s2 (sc0 z06) (sv 1))))) ss_nil)
 (ss_cons (ss_if (sb_cmp (z0W rfl h64) (sxc (sv 2) z00) (sc0 z06) (z04 _)) (ss_cons (ss_if (sb_not (sb_truth rfl (scl T.kaf (z3k T) hr (s2 (sv 0) (sxc (sv 2) z00))))) (ss_one (ss_ret (se_tup rfl (s2 (sc0 z06) (sv 1))))) ss_nil)
 (ss_one (ss_ret (se_tup rfl (s2 (sc0 z06) (sxc (sv 2) z00)))))) ss_nil)
 (ss_cons (ss_if (sb_cmp (z0W rfl h64) (sxc (sv 2) z00) (sc0 z06) (z04 _)) (ss_one (ss_ret (scl T.kbF (zca T) hr (s4 (sv 0) (sv 1) (sxc (sv 2) z00) (sxc (sv 2) z00))))) ss_nil)
 (ss_cons (ss_if (sb_cmp (z0W rfl h64) (sxc (sv 2) z00) (sc0 z06) (z04 _)) (ss_one (ss_ret (scl T.kbE (zc9 T) hr (s3 (sv 1) (sxc (sv 2) z00) (se_add rfl (sxc (sv 2) z00) (sxc (sv 2) z00)))))) ss_nil)
 (ss_one (ss_ret (scl T.kbD (zc8 T) hr (s3 (sv 0) (sv 1) (sv 2)))))))))
noncomputable def z60:MS:=(seqS (sAsg (.nm 4) (z03 z07 [(mVar 0),(mC (.int 8))]))
 (seqS (sAsg (.nm 5) (mBin (z03 z07 [(mVar 0),(mC (.int 3))]) (mC (.int 0)) gtD))
 (seqS (sAsg (.nm 6) (mBin (mC (.int 1)) (z03 z07 [(mVar 0),(mBin (mCB [(mC (.int 4)),(mC (.int 4)),(mC (.int 24)),(mC (.int 96))] lstM) (z03 z07 [(mVar 0),(mC (.int 4))]) ixD)]) addD))
 (seqS (sAsg (.nm 7) (z03 z1E [(mVar 0),(mVar 2),(mVar 6)]))
 (seqS (sIf (z0R (mVar 5)) (sAsg (.nm 7) (mCB [(z0t (z1j (mVar 7)) (.nm 0) (rt true) (z03 z2g [(mVar 1),(mVar 0)]) 1 [1])] tupF)) sNx)
 (seqS (sAsg (.nm 8) (z03 z07 [(mVar 0),(mBin (mCB [(mBin (mVar 3) (mC (.int 0)) ixD)] lenD) (mC (.int 2)) addD)]))
 (seqS (sIf (mBoo (mBin (mVar 4) (mC (.int 2)) ltD)) (sRet (mCB [(mBin (mCB [(mC (.str ("mark" :Str))),(mC (.str ("commit" :Str)))] lstM) (mVar 4) ixD),(mVar 7)] tupD)) sNx)
 (seqS (sIf (mBoo (mBin (mVar 4) (mC (.int 2)) eqD)) (sRet (mCB [(mC (.str ("unmark" :Str)))] tupD)) sNx)
 (seqS (sIf (mBoo (mBin (mVar 4) (mC (.int 3)) eqD)) (sRet (mCB [(mC (.str ("choose" :Str))),(mVar 8),(mBin (mVar 8) (z03 z07 [(mVar 0),(mBin (mBin (mCB [(mBin (mVar 3) (mC (.int 0)) ixD)] lenD) (mC (.int 2)) addD) (mVar 8) subD)]) addD)] tupD)) sNx)
 (seqS (sIf (mBoo (mBin (mVar 4) (mC (.int 6)) ltD)) (sRet (mCB [(mC (.str ("put" :Str))),(mVar 8),(mSl (mVar 7) none (some (mC (.int 24))))] tupD)) sNx)
 (seqS (sIf (mBoo (mBin (mVar 4) (mC (.int 6)) eqD)) (sRet (mCB [(mC (.str ("out" :Str))),(mVar 8),(mBin (mC (.int 1)) (z03 z07 [(mVar 0),(mBin (mCB [(mC (.int 3)),(mC (.int 60))] lstM) (z03 z07 [(mVar 0),(mC (.int 2))]) ixD)]) addD)] tupD)) sNx)
 (sRet (mCB [(mC (.str ("stand" :Str))),(z03 z2v [(mVar 0),(mVar 1),(mVar 2)])] tupD)))))))))))))
noncomputable def z3K:FM:=runF 9 z60
theorem z9A(T:Wd K mg):FnOk P w K mg base CX0 5 T.ka2.f T.ka2.d z5N (spM (GT T) 4 z3K):=okM z60 T.ka2.F z1G fun cdv A outer s H E F hr=>by
 have h64:=hr.units
 exact(ss_cons (sst 4 z1G.nd (scl T.kbh (z0a T) hr (s2 (sv 0) (sc0 z00))))
 (ss_cons (sst 5 z1G.nd (se_cmp z46 (scl T.kbh (z0a T) hr (s2 (sv 0) (sc0 z00))) (sc0 z00) (z04 _)))
 (ss_cons (sst 6 z1G.nd (se_add rfl (sc0 z00) (scl T.kbh (z0a T) hr (s2 (sv 0) (sxx (se_lst rfl (s4 (sc0 z00) (sc0 z00) (sc0 z00) (sc0 z00))) (scl T.kbh (z0a T) hr (s2 (sv 0) (sc0 z00))))))))
 (ss_cons (sst 7 z1G.nd (scl T.kaV (z3Q T) hr (s3 (sv 0) (sv 2) (sv 6))))
 (ss_cons (ss_if (sb_truth rfl (sv 5)) (ss_one (sst 7 z1G.nd (se_ct rfl (z5i rfl) rfl T.n_tuple PyProof.Rows.Boot.«tuple» (s1 (se_comp (own:=["_law_sign_here"]) (frees:=["_law_field_here"]) (ix:=[1]) rfl rfl (z1y.sc (by kernel_rfl)) (si_seq rfl (sv 7)) (fun _ _ _ _ _ _ _=>(sg_name (z0u (i:=0) (show List.Nodup (["_law_sign_here", "_law_field_here"]:List Str) by decide+kernel) rfl (Or.inl rfl)))) (fun _ _ _ _ _ _ _=>sts_nil) (fun _ _ _ _ _ _ _=>(scl T.kbs (z7I T) hr (s2 (sv 1) (sv 0))))))))) ss_nil)
 (ss_cons (sst 8 z1G.nd (scl T.kbh (z0a T) hr (s2 (sv 0) (se_add rfl (sln T.n_len (s1 (sxc (sv 3) z00))) (sc0 z00)))))
 (ss_cons (ss_if (sb_cmp z3U (sv 4) (sc0 z00) (z04 _)) (ss_one (ss_ret (se_tup rfl (s2 (sxx (se_lst rfl (s2 (sc0 z06) (sc0 z06))) (sv 4)) (sv 7))))) ss_nil)
 (ss_cons (ss_if (sb_cmp (z0W rfl h64) (sv 4) (sc0 z00) (z04 _)) (ss_one (ss_ret (se_tup rfl (s1 (sc0 z06))))) ss_nil)
 (ss_cons (ss_if (sb_cmp (z0W rfl h64) (sv 4) (sc0 z00) (z04 _)) (ss_one (ss_ret (se_tup rfl (s3 (sc0 z06) (sv 8) (se_add rfl (sv 8) (scl T.kbh (z0a T) hr (s2 (sv 0) (se_sub rfl (se_add rfl (sln T.n_len (s1 (sxc (sv 3) z00))) (sc0 z00)) (sv 8))))))))) ss_nil)
 (ss_cons (ss_if (sb_cmp z3U (sv 4) (sc0 z00) (z04 _)) (ss_one (ss_ret (se_tup rfl (s3 (sc0 z06) (sv 8) (se_slice rfl (sv 7) so_none (so_some (sc0 z00))))))) ss_nil)
 (ss_cons (ss_if (sb_cmp (z0W rfl h64) (sv 4) (sc0 z00) (z04 _)) (ss_one (ss_ret (se_tup rfl (s3 (sc0 z06) (sv 8) (se_add rfl (sc0 z00) (scl T.kbh (z0a T) hr (s2 (sv 0) (sxx (se_lst rfl (s2 (sc0 z00) (sc0 z00))) (scl T.kbh (z0a T) hr (s2 (sv 0) (sc0 z00))))))))))) ss_nil)
 (ss_one (ss_ret (se_tup rfl (s2 (sc0 z06) (scl T.kay (z76 T) hr (s3 (sv 0) (sv 1) (sv 2))))))))))))))))))
noncomputable def z61:MS:=(seqS (sFor (z1j (mVar 2)) (.nm 3) (sAsg (.nm 1) (mBin (z03 z0I [(mVar 0),(mVar 1),(mVar 3)]) (mC (.int 1)) ixD)))
 (sRet (mVar 1)))
noncomputable def z2r:FM:=runF 4 z61
theorem z6x(T:Wd K mg):FnOk P w K mg base CX0 7 T.kaY.f T.kaY.d z5O (spM (GT T) 3 z2r):=okM z61 T.kaY.F z4P fun cdv A outer s H E F hr=>(ss_cons (ss_for PassesOwn.never rfl (si_seq rfl (sv 2)) (sgn 3 z4P.nd) (ss_one (sst 1 z4P.nd (sxc (scl T.kbp (z7J T) hr (s3 (sv 0) (sv 1) (sv 3))) z00))))
 (ss_one (ss_ret (sv 1))))
noncomputable def zdW:MS:=(seqS (sAsg (.nm 1) (z03 z4g [(mVar 0),(mC (.int 0))]))
 (seqS (sAsg (.nm 2) (z03 z07 [(mVar 1),(mC (.int 1040))]))
 (seqS (sAsg (.nm 3) (mCB [(z03 z2p [(mVar 1),(mVar 2)]),(z03 z2p [(mVar 1),(mVar 2)])] lstM))
 (seqS (sAsg (.nm 4) (mCB [(mCB [(mCB [(mCB [] tupD),(mC (.int 0)),(mC (.int 0)),(mC .non)] tupD)] lstM),(mCB [(mCB [(mCB [] tupD),(mC (.int 0)),(mC (.int 0)),(mC .non)] tupD)] lstM)] lstM))
 (seqS (sAsg (.nm 5) (mCB [(mCB [] lstM),(mCB [] lstM)] lstM))
 (seqS (sAsg (.nm 6) (mBin (mC (.int 8)) (z03 z07 [(mVar 1),(mC (.int 13))]) addD))
 (seqS (sIf (mBoo (mBin (z03 z07 [(mVar 1),(mC (.int 8))]) (mC (.int 5)) eqD)) (sAsg (.nm 6) (mC (.int 60))) sNx)
 (seqS (sFor (z3s [(mVar 6)]) (.nm 7) (seqS (sIf (mAnd (mBoo (mBin (mVar 7) (mCB [(mVar 0)] lenD) ltD)) (mBoo (mBin (mVar 7) (mC (.int 0)) gtD))) (sAsg (.nm 1) (z03 z4g [(mVar 0),(mVar 7)])) sNx)
 (seqS (sAsg (.nm 8) (z03 z07 [(mVar 1),(mC (.int 2))]))
 (seqS (sAsg (.nm 9) (z03 z3K [(mVar 1),(mBin (mVar 3) (mVar 8) ixD),(mVar 2),(mBin (mBin (mVar 4) (mVar 8) ixD) (bd (mC (.int 1)) negD) ixD)]))
 (seqS (sAsg (.nm 10) (z03 z0L [(mBin (mVar 3) (mVar 8) ixD),(mBin (mBin (mVar 4) (mVar 8) ixD) (bd (mC (.int 1)) negD) ixD),(mVar 9)]))
 (seqS (sIf (mBoo (mBin (z03 z0I [(mBin (mVar 3) (mVar 8) ixD),(mBin (mBin (mVar 4) (mVar 8) ixD) (bd (mC (.int 1)) negD) ixD),(mVar 9)]) (mVar 10) neD)) (sRet (mC (.bool false))) sNx)
 (seqS (z6H (z5x (mBin (mVar 4) (mVar 8) ixD) [(mBin (mVar 10) (mC (.int 1)) ixD)] appD))
 (z6H (z5x (mBin (mVar 5) (mVar 8) ixD) [(mVar 9)] appD)))))))))
 (seqS (sFor (z3s [(mC (.int 2))]) (.nm 8) (seqS (sIf (mBoo (mBin (z03 z2r [(mBin (mVar 3) (mVar 8) ixD),(mCB [(mCB [] tupD),(mC (.int 0)),(mC (.int 0)),(mC .non)] tupD),(mBin (mVar 5) (mVar 8) ixD)]) (mBin (mBin (mVar 4) (mVar 8) ixD) (bd (mC (.int 1)) negD) ixD) neD)) (sRet (mC (.bool false))) sNx)
 (seqS (sAsg (.nm 11) (z03 z07 [(mVar 1),(mBin (mCB [(mBin (mVar 5) (mVar 8) ixD)] lenD) (mC (.int 1)) addD)]))
 (seqS (sAsg (.nm 12) (mBin (mCB [(mCB [(mC (.str ("stand" :Str))),(mBin (mBin (mVar 4) (mVar 8) ixD) (mVar 11) ixD)] tupD)] lstM) (mSl (mBin (mVar 5) (mVar 8) ixD) (some (mVar 11)) none) addD))
 (seqS (sIf (mBoo (mBin (z03 z2r [(mBin (mVar 3) (mVar 8) ixD),(mBin (mBin (mVar 4) (mVar 8) ixD) (bd (mC (.int 1)) negD) ixD),(mVar 12)]) (mBin (mBin (mVar 4) (mVar 8) ixD) (bd (mC (.int 1)) negD) ixD) neD)) (sRet (mC (.bool false))) sNx)
 (sIf (mNot (z0R (mCB [(z0t (z1j (mBin (mVar 4) (mVar 8) ixD)) (.nm 0) (rt true) (z03 z0n [(mBin (mVar 1) (mVar 2) ixD),(mVar 0)]) 1 [3,8])] allD))) (sRet (mC (.bool false))) sNx))))))
 (sRet (mC (.bool true))))))))))))
noncomputable def f_law:FM:=runF 13 zdW
theorem zg4(T:Wd K mg):FnOk P w K mg base CX0 8 T.x_law.f T.x_law.d zdV (spM (GT T) 1 f_law):=okM zdW T.x_law.F z28 fun cdv A outer s H E F hr=>by
 have h64:=hr.units
 exact(ss_cons (sst 1 z28.nd (scl T.kbB (z8V T) hr (s2 (sv 0) (sc0 z00))))
 (ss_cons (sst 2 z28.nd (scl T.kbh (z0a T) hr (s2 (sv 1) (sc0 z00))))
 (ss_cons (ss_set (fun{te} h=>z7d (i:=3) z28.nd rfl (Or.inr rfl) h) (se_lst rfl (s2 (scl T.kaS (z6w T) hr (s2 (sv 1) (sv 2))) (scl T.kaS (z6w T) hr (s2 (sv 1) (sv 2))))))
 (ss_cons (ss_setN (i:=4) z28.nd rfl (Or.inl rfl) (Or.inl rfl) (se_lst rfl (s2 (se_lst rfl (s1 (se_tup rfl (s4 (se_tup rfl (sa_of rfl .nil)) (sc0 z00) (sc0 z00) (sc0 z1w))))) (se_lst rfl (s1 (se_tup rfl (s4 (se_tup rfl (sa_of rfl .nil)) (sc0 z00) (sc0 z00) (sc0 z1w))))))))
 (ss_cons (ss_setN (i:=5) z28.nd rfl (Or.inl rfl) (Or.inl rfl) (se_lst rfl (s2 (se_lst rfl (sa_of rfl .nil)) (se_lst rfl (sa_of rfl .nil)))))
 (ss_cons (sst 6 z28.nd (se_add rfl (sc0 z00) (scl T.kbh (z0a T) hr (s2 (sv 1) (sc0 z00)))))
 (ss_cons (ss_if (sb_cmp (z0W rfl h64) (scl T.kbh (z0a T) hr (s2 (sv 1) (sc0 z00))) (sc0 z00) (z04 _)) (ss_one (sst 6 z28.nd (sc0 z00))) ss_nil)
 (ss_cons (ss_for PassesOwn.never rfl (si_rng1 rfl T.n_range (s1 (sv 6))) (sgn 7 z28.nd) (ss_cons (ss_if (SW.sb (sw_and (sb_cmp z3U (sv 7) (sln T.n_len (s1 (sv 0))) (z04 _)) (sw_and1 (sb_cmp z46 (sv 7) (sc0 z00) (z04 _))))) (ss_one (sst 1 z28.nd (scl T.kbB (z8V T) hr (s2 (sv 0) (sv 7))))) ss_nil)
 (ss_cons (ss_set (fun{te} h=>z7d (i:=8) z28.nd rfl (Or.inr rfl) h) (scl T.kbh (z0a T) hr (s2 (sv 1) (sc0 z00))))
 (ss_cons (sst 9 z28.nd (scl T.ka2 (z9A T) hr (s4 (sv 1) (sxx (sv 3) (sv 8)) (sv 2) (sxx (sxx (sv 4) (sv 8)) (se_neg rfl (sc0 z00))))))
 (ss_cons (sst 10 z28.nd (scl T.kaU (z9z T) hr (s3 (sxx (sv 3) (sv 8)) (sxx (sxx (sv 4) (sv 8)) (se_neg rfl (sc0 z00))) (sv 9))))
 (ss_cons (ss_if (sb_cmp (z4I rfl h64) (scl T.kbp (z7J T) hr (s3 (sxx (sv 3) (sv 8)) (sxx (sxx (sv 4) (sv 8)) (se_neg rfl (sc0 z00))) (sv 9))) (sv 10) (z04 _)) (ss_one (ss_ret (sc0 z1R))) ss_nil)
 (ss_cons (ss_expr (se_cl rfl PySem.F.slot_list_append PySem.F.type_list_append z7v (sxx (sv 4) (sv 8)) (s1 (sxc (sv 10) z00))))
 (ss_one (ss_expr (se_cl rfl PySem.F.slot_list_append PySem.F.type_list_append z7v (sxx (sv 5) (sv 8)) (s1 (sv 9))))))))))))
 (ss_cons (ss_for PassesOwn.never rfl (si_rng1 rfl T.n_range (s1 (sc0 z00))) (sg_name (z0u (i:=8) z28.nd rfl (Or.inr rfl))) (ss_cons (ss_if (sb_cmp (z4I rfl h64) (scl T.kaY (z6x T) hr (s3 (sxx (sv 3) (sv 8)) (se_tup rfl (s4 (se_tup rfl (sa_of rfl .nil)) (sc0 z00) (sc0 z00) (sc0 z1w))) (sxx (sv 5) (sv 8)))) (sxx (sxx (sv 4) (sv 8)) (se_neg rfl (sc0 z00))) (z04 _)) (ss_one (ss_ret (sc0 z1R))) ss_nil)
 (ss_cons (sst 11 z28.nd (scl T.kbh (z0a T) hr (s2 (sv 1) (se_add rfl (sln T.n_len (s1 (sxx (sv 5) (sv 8)))) (sc0 z00)))))
 (ss_cons (sst 12 z28.nd (se_add rfl (se_lst rfl (s1 (se_tup rfl (s2 (sc0 z06) (sxx (sxx (sv 4) (sv 8)) (sv 11)))))) (se_slice rfl (sxx (sv 5) (sv 8)) (so_some (sv 11)) so_none)))
 (ss_cons (ss_if (sb_cmp (z4I rfl h64) (scl T.kaY (z6x T) hr (s3 (sxx (sv 3) (sv 8)) (sxx (sxx (sv 4) (sv 8)) (se_neg rfl (sc0 z00))) (sv 12))) (sxx (sxx (sv 4) (sv 8)) (se_neg rfl (sc0 z00))) (z04 _)) (ss_one (ss_ret (sc0 z1R))) ss_nil)
 (ss_one (ss_if (sb_not (sb_truth rfl (se_cb rfl (zar rfl hr.hd) rfl T.n_all PyProof.Rows.Boot.«all» (s1 (se_comp (own:=["_law_spot"]) (frees:=["_law_fields", "_law_at"]) (ix:=[3,8]) rfl rfl (z1y.sc (by kernel_rfl)) (si_seq rfl (sxx (sv 4) (sv 8))) (fun _ _ _ _ _ _ _=>(sg_name (z0u (i:=0) (show List.Nodup (["_law_spot", "_law_fields", "_law_at"]:List Str) by decide+kernel) rfl (Or.inl rfl)))) (fun _ _ _ _ _ _ _=>sts_nil) (fun _ _ _ _ _ _ _=>(scl T.kaf (z3k T) hr (s2 (sxx (sv 1) (sv 2)) (sv 0))))))))) (ss_one (ss_ret (sc0 z1R))) ss_nil)))))))
 (ss_one (ss_ret (sc0 z1R))))))))))))
end
end My
namespace Mi
open PySem L2
theorem z0B{α:Type}(xs ys:List α)(k:Nat)(h:xs.length=k):(xs++ys).drop k=ys:=by subst h;simp
theorem z1M{α:Type}(xs ys:List α)(k:Nat)(h:xs.length=k):(xs++ys).take k=xs:=by subst h;simp
theorem z1H: ∀ds:List D,z08 (ds.map some)=some ds
 |[]=>rfl
 |d::ds=>by simp[z08,z1H ds]
theorem z9B{me:M D}{g:D->D}{ds:List D}{fr σ0 tm0:List (Option D)}{ol:Nat}(hol:σ0.length=ol)(hz:ds.length<sizeLine)
 (hme: ∀d∈ds,∀tm n,∃n',n<=n'/\me ⟨some d::fr,tm,n⟩= .ok (g d) ⟨some d::fr,tm,n'⟩):
 ∀(f i:Nat) (o:Option D) (n:Nat),i+f=ds.length->∃n',n<=n'/\z1t kTup (.nm 0) (rt true) me ol f i i ⟨o::fr,(((ds.take i).map g).reverse.map some)++(σ0++(some (.tup ds)::tm0)),n⟩= .ok (.lst n' (ds.map g)) ⟨σ0,tm0,n'+1⟩:=by
 intro f
 induction f with
 |zero=>
  intro i o n hi
  have hi:i=ds.length:=by lia
  subst hi
  refine⟨n,Nat.le_refl _, ?_⟩
  have l1:(((ds.take ds.length).map g).reverse.map some).length=ds.length:=by simp
  unfold z1t
  have e1:(((((ds.take ds.length).map g).reverse.map some)++(σ0++(some (D.tup ds)::tm0))).drop (ds.length+ol))=some (D.tup ds)::tm0:=by
   rw[<-List.append_assoc];exact z0B _ _ _ (by simp[hol])
  simp only[e1,kTup,zbL,List.getElem?_eq_none (Nat.le_refl ds.length)]
  rw[z1M _ _ _ l1]
  have e2:(((ds.take ds.length).map g).reverse.map some).reverse=(ds.map g).map some:=by simp
  rw[e2,z1H]
  simp only[Res.ok.injEq,true_and,Stt.mk.injEq,and_true]
  constructor
  ·rw[z0B _ _ _ l1,z1M _ _ _ hol]
  ·rw[<-List.append_assoc]
   have:(((((ds.take ds.length).map g).reverse.map some)++σ0)++(some (D.tup ds)::tm0)).drop (ds.length+ol+1)=((((((ds.take ds.length).map g).reverse.map some)++σ0)++(some (D.tup ds)::tm0)).drop (ds.length+ol)).drop 1:=by rw[List.drop_drop]
   rw[this,z0B _ _ _ (by simp[hol])]
   rfl
 |succ f ih=>
  intro i o n hi
  have hlt:i<ds.length:=by lia
  have l1:(((ds.take i).map g).reverse.map some).length=i:=by simp;lia
  unfold z1t
  have e1:(((((ds.take i).map g).reverse.map some)++(σ0++(some (D.tup ds)::tm0))).drop (i+ol))=some (D.tup ds)::tm0:=by
   rw[<-List.append_assoc];exact z0B _ _ _ (by simp[hol];lia)
  simp only[e1,kTup,zbL,List.getElem?_eq_getElem hlt,asg,List.set_cons_zero,rt]
  rw[if_pos (by lia)]
  obtain⟨n1,hn1,h1⟩:=hme ds[i] (List.getElem_mem hlt) ((((ds.take i).map g).reverse.map some)++(σ0++(some (D.tup ds)::tm0))) n
  rw[h1]
  obtain⟨n2,hn2,h2⟩:=ih (i+1) (some ds[i]) n1 (by lia)
  refine⟨n2,by lia, ?_⟩
  rw[<-h2]
  simp only[Stt.psh]
  have e3:ds.take (i+1)=ds.take i++[ds[i]]:=by rw[List.take_add_one,List.getElem?_eq_getElem hlt];rfl
  rw[e3]
  simp only[List.map_append,List.map_cons,List.map_nil,List.reverse_append,List.reverse_cons,List.reverse_nil,List.nil_append,List.cons_append]
  rfl
theorem z62{mc me:M D}{g:D->D}{ds:List D}{ix:List Nat}{s s1:Stt}(hc:mc s= .ok (.tup ds) s1)(hz:ds.length<sizeLine)
 (hme: ∀d∈ds,∀tm n,∃n',n<=n'/\me ⟨some d::(ix.map fun i=>(s1.σ[i]?).getD none),tm,n⟩= .ok (g d) ⟨some d::(ix.map fun i=>(s1.σ[i]?).getD none),tm,n'⟩):
 ∃n',s1.n<=n'/\z0t (z1j mc) (.nm 0) (rt true) me 1 ix s= .ok (.lst n' (ds.map g)) {s1 with n:=n'+1}:=by
 obtain⟨n',h1,h2⟩:=z9B (me:=me) (g:=g) (ds:=ds) (σ0:=s1.σ) (tm0:=s1.tm) rfl hz hme ds.length 0 none s1.n (by lia)
 refine⟨n',h1, ?_⟩
 unfold z0t z1j
 simp only[bd,hc,Stt.psh]
 simp only[List.take_zero,List.map_nil,List.reverse_nil,List.nil_append] at h2
 simp only[kTup,z7r,z8G,List.replicate] at h2⊢
 exact h2
theorem z4w(ds:List D)(g:D->Bool):z1s (ds.map fun d=> .bool (g d))=some (ds.map g):=by
 induction ds with
 |nil=>rfl
 |cons d ds ih=>simp[z1s,ih]
theorem z9C{t:D}{ts:List D}{n':Nat}{s:Stt}:z6J (.ok t ts n') ts s= .ok t {s with n:=n'}:=by
 unfold z6J;simp
end Mi
set_option maxHeartbeats 40000
namespace Mi
open PySem L2
class Kq{α:Type}(f:α):Type where
instance kq{α:Type}(f:α):Kq f:=⟨⟩
noncomputable def Res.bnd{α β:Type}(f:α->Stt->Res β)[Kq f](r:Res α):Res β:=match r with
 | .ok a s=>f a s
 | .ex d s=> .ex d s
 | .no=> .no
theorem z1v{α β:Type}{a:α}{s:Stt}{f:α->Stt->Res β}:((Res.ok a s).bnd f:Res β)=f a s:=(rfl)
noncomputable def Res.lf{α:Type}(f:α->MS)[Kq f](r:Res α):RS:=match r with
 | .ok a s=>f a s
 | .ex d s=> .ex d s
 | .no=> .no
theorem zaK{α:Type}{a:α}{s:Stt}{f:α->MS}:((Res.ok a s).lf f:RS)=f a s:=(rfl)
noncomputable def RS.sq(m:MS)[Kq m](r:RS):RS:=match r with
 | .nx s=>m s
 |r=>r
theorem z8l{s:Stt}{m:MS}:((RS.nx s).sq m:RS)=m s:=(rfl)
theorem zhR{d:D}{s:Stt}{m:MS}:((RS.rt d s).sq m:RS)= .rt d s:=(rfl)
noncomputable def RS.fin(r:RS):RF:=match r with
 | .nx s'=>match z08 s'.tm with|some ts'=> .ok .non ts' s'.n|none=> .no
 | .rt t s'=>match z08 s'.tm with|some ts'=> .ok t ts' s'.n|none=> .no
 | .ex d s'=>match z08 s'.tm with|some ts'=> .ex d ts' s'.n|none=> .no
 |_=> .no
noncomputable def finO(o:Option (List D))(t:D)(n:Nat):RF:=match o with|some ts=> .ok t ts n|none=> .no
theorem zaL{ts:List D}{t:D}{n:Nat}:finO (some ts) t n= .ok t ts n:=(rfl)
theorem zhS{t:D}{σ tm:List (Option D)}{n:Nat}:(RS.rt t ⟨σ,tm,n⟩).fin=finO (z08 tm) t n:=(rfl)
theorem zhT{nl:Nat}{mb:MS}{ts:List D}{n:Nat}:runF nl mb ts n=(mb ⟨ts.map some++List.replicate (nl -ts.length) none,ts.map some,n⟩).fin:=(rfl)
section
variable{α β:Type}{m ma mb mc:M D}{s:Stt}{ms:List (M D)}{σ tm:List (Option D)}{n:Nat}
theorem x_bd{m:M α}{f:α->M β}:bd m f s=(m s).bnd f:=(rfl)
theorem x_rt{a:α}:rt a s= .ok a s:=(rfl)
theorem zcE{t:D}:Stt.psh ⟨σ,tm,n⟩ t=⟨σ,some t::tm,n⟩:=(rfl)
theorem zhU:Stt.nxt ⟨σ,tm,n⟩=⟨σ,tm,n+1⟩:=(rfl)
theorem zg5{t:D}{r:List (Option D)}:pop ⟨σ,some t::r,n⟩= .ok t ⟨σ,r,n⟩:=(rfl)
noncomputable def vOf(o:Option (Option D))(s:Stt):Res D:=match o with
 |some (some t)=> .ok t s
 |_=> .no
theorem zcb{t:D}:vOf (some (some t)) s= .ok t s:=(rfl)
theorem zhV{i:Nat}:mVar i ⟨σ,tm,n⟩=vOf (σ[i]?) ⟨σ,tm,n⟩:=by
 unfold mVar vOf
 cases σ[i]? with
 |none=>rfl
 |some o=>cases o<;>rfl
theorem x_C{d:D}:mC d s= .ok d s:=(rfl)
theorem zcc{g:D->D->M D}:mBin ma mb g s=(ma s).bnd fun x s1=>(mb (s1.psh x)).bnd fun y s2=>(pop s2).bnd fun x' s3=>g x' y s3:=(rfl)
theorem zg6:mBoo m s=(m s).bnd booD:=(rfl)
theorem zcF{b:Bool}:booD (.bool b) s= .ok b s:=(rfl)
theorem zg7:z0R m s=(m s).bnd truD:=(rfl)
theorem x_tB{b:Bool}:truD (.bool b) s= .ok b s:=(rfl)
theorem x_tT{ds:List D}:truD (.tup ds) s= .ok (!ds.isEmpty) s:=(rfl)
theorem zhW{m m':M Bool}:mAnd m m' s=(m s).bnd fun b=>iteM b m' (rt false):=(rfl)
theorem x_or{m m':M Bool}:mOr m m' s=(m s).bnd fun b=>iteM b (rt true) m':=(rfl)
theorem zhX{m:M Bool}:mNot m s=(m s).bnd fun b s1=> .ok (!b) s1:=(rfl)
theorem zg8{m m':M D}:z3r m m' s=(m s).bnd fun d s1=>(booD d s1).bnd fun b=>iteM b m' (rt (.bool false)):=by
 unfold z3r mBoo bd Res.bnd
 cases m s<;>rfl
theorem zg9{m:M D}:z7p m s=(m s).bnd fun d s1=>(booD d s1).bnd fun b=>rt (.bool (!b)):=by
 unfold z7p mBoo bd Res.bnd
 cases m s<;>rfl
theorem zhY{c:M Bool}{m m':M D}:mIf c m m' s=(c s).bnd fun b=>iteM b m m':=(rfl)
theorem x_it{m m':M α}:iteM true m m' s=m s:=(rfl)
theorem x_if{m m':M α}:iteM false m m' s=m' s:=(rfl)
theorem zdX:mArgs [] s= .ok [] s:=(rfl)
theorem z4i:mArgs (m::ms) s=(m s).bnd fun x s1=>(mArgs ms (s1.psh x)).bnd fun ys s2=>(pop s2).bnd fun x' s3=> .ok (x'::ys) s3:=(rfl)
theorem x_cb{g:List D->M D}:mCB ms g s=(mArgs ms s).bnd g:=(rfl)
theorem zaM{f:FM}:z03 f ms s=(mArgs ms s).bnd fun ts s1=>z6J (f ts s1.n) ts s1:=(rfl)
noncomputable def isiK(o:Option Bool)(s:Stt):Res D:=match o with
 |some b=> .ok (.bool b) s
 |none=> .no
theorem zaN{b:Bool}:isiK (some b) s= .ok (.bool b) s:=(rfl)
theorem zhZ{T:String}:mIsi T m s=(m s).bnd fun d s1=>isiK (isiD T d) s1:=by
 unfold mIsi bd Res.bnd isiK
 cases m s with
 |ok d s1=>dsimp only;cases isiD T d<;>rfl
 |ex d s1=>rfl
 |no=>rfl
theorem zaO{g g':D->D->M D}:z0y ma mb mc g g' s=(ma s).bnd fun x s1=>(mb (s1.psh x)).bnd fun y s2=>(pop s2).bnd fun x' s3=>z9p y (bd (mBoo (g x' y)) fun k=>iteM k (bd mc fun z=>g' y z) (rt (.bool false))) s3:=(rfl)
theorem zi0{i:Int}{m:M D}:z9p (.int i) m s=m s:=(rfl)
noncomputable def intK(o:Option Int)(s:Stt):Res (Option Int):=match o with
 |some i=> .ok (some i) s
 |none=> .no
theorem zaP{i:Int}:intK (some i) s= .ok (some i) s:=(rfl)
theorem zdY:z6c none s= .ok none s:=(rfl)
theorem zdZ:z6c (some m) s=(m s).bnd fun d s1=>intK (mInt d) s1:=by
 show bd m (fun d=>match mInt d with|some i=>rt (some i)|none=>fl) s=_
 unfold bd Res.bnd
 cases m s with
 |ok d s1=>show(match mInt d with|some i=>rt (some i)|none=>fl:M (Option Int)) s1=intK (mInt d) s1;cases mInt d<;>rfl
 |ex d s1=>rfl
 |no=>rfl
theorem zga{i:Int}:mInt (.int i)=some i:=(rfl)
theorem x_sl{lo hi:Option (M D)}:mSl m lo hi s=(m s).bnd fun x s1=>(z6c lo (s1.psh x)).bnd fun l s2=>(z6c hi s2).bnd fun h s3=>(pop s3).bnd fun x' s4=>slD x' l h s4:=(rfl)
theorem zcG{i j:Int}:addD (.int i) (.int j) s= .ok (.int (i+j)) s:=(rfl)
theorem z0E{a b:List D}(h:a.length+b.length<=sizeLine):addD (.tup a) (.tup b) s= .ok (.tup (a++b)) s:=by simp only[addD,if_pos h];rfl
theorem zcH{k l:Nat}{a b:List D}(h:a.length+b.length<=sizeLine):addD (.lst k a) (.lst l b) s= .ok (.lst s.n (a++b)) s.nxt:=by simp only[addD,if_pos h];rfl
theorem zi1{i j:Int}:subD (.int i) (.int j) s= .ok (.int (i -j)) s:=(rfl)
theorem z9D{i j:Int}(h:CMul i j):mulD (.int i) (.int j) s= .ok (.int (i*j)) s:=by simp only[mulD,if_pos h];rfl
theorem zaQ{i j:Int}(h:CDiv i j):z6a (.int i) (.int j) s= .ok (.int (i/j)) s:=by simp only[z6a,if_pos h];rfl
theorem z4x{i j:Int}(h:0<j):modD (.int i) (.int j) s= .ok (.int (i %j)) s:=by simp only[modD,if_pos h];rfl
theorem ze0{i j:Int}(h:CPow i j):powD (.int i) (.int j) s= .ok (.int (i^j.toNat)) s:=by simp only[powD,if_pos h];rfl
theorem y_lt{i j:Int}:ltD (.int i) (.int j) s= .ok (.bool (decide (i<j))) s:=(rfl)
theorem y_le{i j:Int}:leD (.int i) (.int j) s= .ok (.bool (decide (i<=j))) s:=(rfl)
theorem y_gt{i j:Int}:gtD (.int i) (.int j) s= .ok (.bool (decide (j<i))) s:=(rfl)
theorem y_ge{i j:Int}:geD (.int i) (.int j) s= .ok (.bool (decide (j<=i))) s:=(rfl)
theorem zi2{i:Int}:negD (.int i) s= .ok (.int (-i)) s:=(rfl)
theorem y_eq{t t':D}(h:eqC t t'=true):eqD t t' s= .ok (.bool (PyData.eqv (er t) (er t'))) s:=by simp only[eqD,if_pos h];rfl
theorem y_ne{t t':D}(h:eqC t t'=true):neD t t' s= .ok (.bool (!PyData.eqv (er t) (er t'))) s:=by simp only[neD,if_pos h];rfl
theorem y_in{t t':D}{ds:List D}(e:seqD t'=some ds)(h:inC t ds=true):inD t t' s= .ok (.bool ((erL ds).any fun y=>PyData.eqv y (er t))) s:=by simp only[inD,e,if_pos h];rfl
theorem zi3{t t':D}{ds:List D}(e:seqD t'=some ds)(h:inC t ds=true):ninD t t' s= .ok (.bool (!(erL ds).any fun y=>PyData.eqv y (er t))) s:=by simp only[ninD,e,if_pos h];rfl
theorem zi4{ds:List D}{i:Int}:ixD (.tup ds) (.int i) s=optM (atI ds i) s:=(rfl)
theorem zi5{l:Nat}{ds:List D}{i:Int}:ixD (.lst l ds) (.int i) s=optM (atI ds i) s:=(rfl)
theorem zi6{ds:List D}{i:Int}:ixD (.ro ds) (.int i) s=optM (atI ds i) s:=(rfl)
theorem zi7{d:D}:optM (some d) s= .ok d s:=(rfl)
theorem zi8{ds:List D}{lo hi:Option Int}:slD (.tup ds) lo hi s= .ok (.tup (cutA ds lo hi)) s:=(rfl)
theorem zi9{l:Nat}{ds:List D}{lo hi:Option Int}:slD (.lst l ds) lo hi s= .ok (.lst s.n (cutA ds lo hi)) s.nxt:=(rfl)
theorem zaR{ts:List D}(h:ts.length<=sizeLine):tupD ts s= .ok (.tup ts) s:=by simp only[tupD,if_pos h];rfl
theorem z8m{ts:List D}(h:ts.length<=sizeLine):lstM ts s= .ok (.lst s.n ts) s.nxt:=by simp only[lstM,if_pos h];rfl
theorem zgb{ds:List D}:lenD [.tup ds] s= .ok (.int ds.length) s:=(rfl)
theorem zgc{l:Nat}{ds:List D}:lenD [.lst l ds] s= .ok (.int ds.length) s:=(rfl)
theorem zgd{ds:List D}:lenD [.ro ds] s= .ok (.int ds.length) s:=(rfl)
theorem zia{i:Int}:absD [.int i] s= .ok (.int (if i<0 then -i else i)) s:=(rfl)
theorem zib{i j:Int}:minD [.int i, .int j] s= .ok (.int (if j<i then j else i)) s:=(rfl)
theorem zge{b:Bool}:intD [.bool b] s= .ok (.int (if b then 1 else 0)) s:=(rfl)
theorem zgf{l:Nat}{ds:List D}:tupF [.lst l ds] s= .ok (.tup ds) s:=(rfl)
theorem ze1{l:Nat}{ds:List D}{bs:List Bool}(h:z1s ds=some bs):allD [.lst l ds] s= .ok (.bool (bs.all id)) s:=by simp only[allD,h];rfl
theorem zic{l:Nat}{ds:List D}{bs:List Bool}(h:z1s ds=some bs):anyD [.lst l ds] s= .ok (.bool (bs.any id)) s:=by simp only[anyD,h];rfl
theorem z8n{a b:MS}:seqS a b s=(a s).sq b:=by
 unfold seqS RS.sq
 cases a s<;>rfl
theorem zid:sNx s= .nx s:=(rfl)
theorem zgg:sRet m s=(m s).lf fun d s1=> .rt d s1:=(rfl)
theorem ze2:z6H m s=(m s).lf fun _ s1=> .nx s1:=(rfl)
theorem zgh{c:M Bool}{a b:MS}:sIf c a b s=(c s).lf fun k=>iteS k a b:=(rfl)
theorem x_sT{a b:MS}:iteS true a b s=a s:=(rfl)
theorem x_sF{a b:MS}:iteS false a b s=b s:=(rfl)
noncomputable def asgK(o:Option (List (Option D)))(s:Stt):RS:=match o with
 |some σ'=> .nx {s with σ:=σ'}
 |none=> .no
theorem zaS{σ':List (Option D)}:asgK (some σ') ⟨σ,tm,n⟩= .nx ⟨σ',tm,n⟩:=(rfl)
theorem zgi{g:Tg}:sAsg g m s=(m s).lf fun d s1=>asgK (asg g d s1.σ) s1:=by
 unfold sAsg lift Res.lf asgK
 cases m s with
 |ok d s1=>first|(dsimp only;cases asg g d s1.σ<;>rfl)|(dsimp only;done)|rfl
 |ex d s1=>rfl
 |no=>rfl
theorem zie{me mo mi:M D}{g:D->D->D->MS}:mTri me mo mi g s=(me s).lf fun v s1=>(mo (s1.psh v)).lf fun o s2=>(mi (s2.psh o)).lf fun i s3=>(pop s3).lf fun o' s4=>(pop s4).lf fun v' s5=>g o' i v' s5:=(rfl)
theorem zgj{l:Nat}{ds:List D}{k:Int}{v:D}{j:Nat}(e:ixN ds.length k=some j)(h:l∉labs v):setD (.lst l ds) (.int k) v s= .nx (s.put l (.lst l (ds.set j v))):=by simp only[setD,e,if_pos h]
theorem zgk{mo:M D}{g:D->List D->M D}:z5x mo ms g s=(mo s).bnd fun x s1=>(isL x s1).bnd fun _ s2=>(mArgs ms (s2.psh x)).bnd fun ys s3=>(pop s3).bnd fun x' s4=>g x' ys s4:=(rfl)
theorem zif{l:Nat}{ds:List D}:isL (.lst l ds) s= .ok () s:=(rfl)
theorem zgl{l:Nat}{ds:List D}{y:D}(h:ds.length<sizeLine/\l∉labs y):appD (.lst l ds) [y] s= .ok .non (s.put l (.lst l (ds++[y]))):=by simp only[appD,if_pos h]
end
theorem z63{α:Type}{xs:List α}{i:Int}{d:α}(h0:0<=i)(h:xs[i.toNat]? =some d):atI xs i=some d:=by
 obtain⟨j,rfl⟩:=Int.eq_ofNat_of_zero_le h0
 exact za0 (by simpa using h)
end Mi
set_option maxHeartbeats 400000
namespace Mi
open PySem L2
noncomputable def pl(l:Nat)(d:D):Nat->Option D:=fun k=>if k=l then some d else none
theorem zgm{σ tm:List (Option D)}{n l:Nat}{d:D}:Stt.put ⟨σ,tm,n⟩ l d=⟨rpO (pl l d) σ,rpO (pl l d) tm,n⟩:=(rfl)
theorem z1n{l:Nat}{d t:D}(h:l∉labs t):rp (pl l d) t=t:=zdw t fun k hk=>by
 unfold pl;rw[if_neg];intro e;subst e;exact h hk
theorem z2O{f:Nat->Option D}:rpO f []=[]:=(rfl)
theorem zcd{f:Nat->Option D}{r:List (Option D)}:rpO f (none::r)=none::rpO f r:=(rfl)
theorem zce{f:Nat->Option D}{d:D}{r:List (Option D)}:rpO f (some d::r)=some (rp f d)::rpO f r:=(rfl)
theorem z54{l:Nat}{d:D}{b:List D}:rp (pl l d) (.lst l b)=d:=by simp only[rp,pl,if_true]
theorem z40{f:Nat->Option D}{i:Int}:rp f (.int i)= .int i:=(rfl)
theorem zgn{f:Nat->Option D}{i:Str}:rp f (.str i)= .str i:=(rfl)
theorem ze3{f:Nat->Option D}{i:Bool}:rp f (.bool i)= .bool i:=(rfl)
theorem zgo{f:Nat->Option D}:rp f .non= .non:=(rfl)
theorem zcI{f:Nat->Option D}{ds:List D}:rp f (.tup ds)= .tup (rpL f ds):=(rfl)
theorem ze4{f:Nat->Option D}:rpL f []=[]:=(rfl)
theorem zcf{f:Nat->Option D}{d:D}{ds:List D}:rpL f (d::ds)=rp f d::rpL f ds:=(rfl)
mutual
theorem z9E{l:Nat}: ∀t:D,l∉labs t->z0w l t=none
 | .non,_=>rfl
 | .bool _,_=>rfl
 | .int _,_=>rfl
 | .str _,_=>rfl
 | .exc _,_=>rfl
 | .fn _,_=>rfl
 | .tup ds,h=>by simp only[labs] at h;simp only[z0w];exact z1f ds h
 | .ro ds,h=>by simp only[labs] at h;simp only[z0w];exact z1f ds h
 | .fdc ks ds,h=>by simp only[labs] at h;simp only[z0w];exact z1f ds h
 | .lst k ds,h=>by
  simp only[labs,List.mem_cons,not_or] at h;simp only[z0w];rw[if_neg fun e=>h.1 e.symm];exact z1f ds h.2
 | .dct k ks ds,h=>by
  simp only[labs,List.mem_cons,List.mem_append,not_or] at h;simp only[z0w];rw[if_neg fun e=>h.1 e.symm];exact z1f ds h.2.2
 | .obj k c ks ds,h=>by
  simp only[labs,List.mem_cons,not_or] at h;simp only[z0w];rw[if_neg fun e=>h.1 e.symm];exact z1f ds h.2
theorem z1f{l:Nat}: ∀t:List D,l∉z02 t->z0x l t=none
 |[],_=>rfl
 |d::ds,h=>by
  simp only[z02,List.mem_append,not_or] at h
  simp only[z0x,z9E d h.1,z1f ds h.2]
end
theorem z0M{t:D}{l n' n:Nat}{b b' r:List D}{σ tm:List (Option D)}(hb:z02 b=[])(hb':z02 b'=[])(hr:z02 r=[])(f1:rpO (pl l (.lst l b)) σ=σ)(f2:rpO (pl l (.lst l b)) tm=tm):
 z6J (.ok t (.lst l b'::r) n') (.lst l b::r) ⟨σ,tm,n⟩= .ok t ⟨rpO (pl l (.lst l b')) σ,rpO (pl l (.lst l b')) tm,n'⟩:=by
 have e:(fun k=>z0x k (.lst l b'::r))=pl l (.lst l b'):=by
  funext k
  simp only[z0x,z0w,pl]
  by_cases h:l=k
  ·subst h;rw[if_pos rfl,if_pos rfl]
  ·rw[if_neg h,if_neg fun q=>h q.symm,z1f b' (by rw[hb'];exact List.not_mem_nil),z1f r (by rw[hr];exact List.not_mem_nil)]
 unfold z6J
 by_cases h:(D.lst l b'::r)=(D.lst l b::r)
 ·have hh:b'=b:=by injection h with h _;injection h
  subst hh
  simp only[if_true]
  rw[f1,f2]
 ·simp only[if_neg h]
  rw[if_pos,e]
  intro k _ hk
  simp only[z02,labs,hb,hr,List.append_nil,List.mem_singleton] at hk
  subst hk
  have:=congrFun e k
  rw[show z0x k (D.lst k b'::r)=pl k (D.lst k b') k from this];simp[pl]
theorem ze5{mi:M ItK}{g:Tg}{b:MS}{s:Stt}:sFor mi g b s=(mi s).lf fun K s=>forGo K g b (K.len s.tm) 0 s:=(rfl)
theorem z7L{ms:List (M D)}{s:Stt}:z3s ms s=(mArgs ms s).bnd rng1:=(rfl)
theorem z7M{j:Int}{s:Stt}(h: -(2^62)<=j/\j<2^62):rng1 [.int j] s= .ok (kRng 0 j.toNat) s:=by simp only[rng1,if_pos h];rfl
theorem zgp{lo:Int}{N:Nat}{tm:List (Option D)}:(kRng lo N).len tm=N:=(rfl)
theorem z8o{P:Nat->Stt->Prop}{lo:Int}{N:Nat}{g:Tg}{b:MS}
 (body: ∀i,i<N->∀s,P i s->∃σ',asg g (.int (lo+i)) s.σ=some σ'/\∃s',b {s with σ:=σ'}= .nx s'/\P (i+1) s'):
 ∀(f i:Nat) (s:Stt),i+f=N->P i s->∃s',forGo (kRng lo N) g b f i s= .nx s'/\P N s':=by
 intro f
 induction f with
 |zero=>
  intro i s hi h
  have e:i=N:=by lia
  subst e
  refine⟨s, ?_,h⟩
  unfold forGo
  simp only[kRng,Nat.lt_irrefl,if_false]
  rfl
 |succ f ih=>
  intro i s hi h
  have hl:i<N:=by lia
  obtain⟨σ',e1,s',e2,h'⟩:=body i hl s h
  obtain⟨s2,e3,h2⟩:=ih (i+1) s' (by lia) h'
  refine⟨s2, ?_,h2⟩
  unfold forGo
  simp only[kRng,if_pos hl,e1,e2]
  exact e3
mutual
theorem zgq{l:Nat}{b:List D}{d:D}: ∀t:D,rp (pl l d) (rp (pl l (.lst l b)) t)=rp (pl l d) t
 | .non=>rfl
 | .bool _=>rfl
 | .int _=>rfl
 | .str _=>rfl
 | .exc _=>rfl
 | .fn _=>rfl
 | .tup ds=>by simp only[rp];rw[z64 ds]
 | .ro ds=>by simp only[rp];rw[z64 ds]
 | .fdc ks ds=>by simp only[rp];rw[z64 ds]
 | .lst k ds=>by
  by_cases h:k=l
  ·subst h;simp only[rp,pl,if_true]
  ·have e: ∀x,pl l x k=none:=fun x=>by simp only[pl,if_neg h]
   simp only[rp,e];rw[z64 ds]
 | .dct k ks ds=>by
  by_cases h:k=l
  ·subst h;simp only[rp,pl,if_true]
  ·have e: ∀x,pl l x k=none:=fun x=>by simp only[pl,if_neg h]
   simp only[rp,e];rw[z64 ds]
 | .obj k c ks ds=>by
  by_cases h:k=l
  ·subst h;simp only[rp,pl,if_true]
  ·have e: ∀x,pl l x k=none:=fun x=>by simp only[pl,if_neg h]
   simp only[rp,e];rw[z64 ds]
theorem z64{l:Nat}{b:List D}{d:D}: ∀t:List D,rpL (pl l d) (rpL (pl l (.lst l b)) t)=rpL (pl l d) t
 |[]=>rfl
 |t::ts=>by simp only[rpL];rw[zgq t,z64 ts]
end
theorem z7N{l:Nat}{b:List D}{d:D}: ∀t:List (Option D),rpO (pl l d) (rpO (pl l (.lst l b)) t)=rpO (pl l d) t
 |[]=>rfl
 |none::ts=>by simp only[rpO];rw[z7N ts]
 |some t::ts=>by simp only[rpO];rw[zgq t,z7N ts]
theorem z65{f:Nat->Option D}: ∀(a b:List (Option D)),rpO f (a++b)=rpO f a++rpO f b
 |[],b=>rfl
 |none::a,b=>by simp only[List.cons_append,rpO,z65 a b]
 |some d::a,b=>by simp only[List.cons_append,rpO,z65 a b]
theorem z79{f:Nat->Option D}: ∀(a:List (Option D)),(rpO f a).length=a.length
 |[]=>rfl
 |none::a=>by simp only[rpO,List.length_cons,z79 a]
 |some d::a=>by simp only[rpO,List.length_cons,z79 a]
theorem z7O: ∀ds:List D,z0b (ds.map some)=z02 ds
 |[]=>rfl
 |d::ds=>by simp only[List.map_cons,z0b,z02,z7O ds]
theorem z66: ∀a b:List D,z02 (a++b)=z02 a++z02 b
 |[],b=>rfl
 |d::ds,b=>by simp only[List.cons_append,z02,z66 ds b,List.append_assoc]
theorem zaT{l:Nat}: ∀ds:List D,l∈z02 ds.reverse↔l∈z02 ds
 |[]=>Iff.rfl
 |d::ds=>by simp only[List.reverse_cons,z66,z02,List.mem_append,zaT ds,List.append_nil];exact Or.comm
theorem z7P{l:Nat}{d:D}{ds:List D}(h:l∉z02 ds):rpO (pl l d) (ds.reverse.map some)=ds.reverse.map some:=zaa _ fun k hk=>by
 rw[z7O,zaT] at hk
 unfold pl;rw[if_neg];intro e;subst e;exact h hk
theorem z9F{me:M D}{N:Nat}{cap σ0 tm0:List (Option D)}{l ol:Nat}{Bg:List D->Prop}{Q:Nat->D->Prop}(mono: ∀a b,a<=b->∀y,Q a y->Q b y)(hol:σ0.length=ol)(hz:N<sizeLine)
 (hme: ∀i,i<N->∀b tm n,Bg b->l<n->rpO (pl l (.lst l b)) tm=tm->∃y b' n',Bg b'/\Q n' y/\n<=n'/\l∉labs y/\me ⟨some (.int (0+(i:Nat)))::rpO (pl l (.lst l b)) cap,tm,n⟩= .ok y ⟨some (.int (0+(i:Nat)))::rpO (pl l (.lst l b')) cap,rpO (pl l (.lst l b')) tm,n'⟩):
 ∀(f:Nat) (acc:List D) (o:Option D) (b:List D) (n:Nat),acc.length+f=N->Bg b->l<n->(∀y∈acc,Q n y)->l∉z02 acc->
  ∃ys b' n',ys.length=N/\(∀y∈ys,Q n' y)/\l∉z02 ys/\Bg b'/\n<=n'/\
   z1t (kRng 0 N) (.nm 0) (rt true) me ol f acc.length acc.length ⟨o::rpO (pl l (.lst l b)) cap,(acc.reverse.map some)++(rpO (pl l (.lst l b)) σ0++rpO (pl l (.lst l b)) tm0),n⟩= .ok (.lst n' ys) ⟨rpO (pl l (.lst l b')) σ0,rpO (pl l (.lst l b')) tm0,n'+1⟩:=by
 intro f
 induction f with
 |zero=>
  intro acc o b n hi hb hn hq hf
  have hi:acc.length=N:=by lia
  refine⟨acc,b,n,hi,hq,hf,hb,Nat.le_refl _, ?_⟩
  have l1:(acc.reverse.map some).length=acc.length:=by simp
  unfold z1t
  simp only[kRng,hi,Nat.lt_irrefl,if_false]
  rw[<-hi,z1M _ _ _ l1]
  have e2:(acc.reverse.map some).reverse=acc.map some:=by simp
  rw[e2,z1H]
  simp only[Res.ok.injEq,true_and,Stt.mk.injEq,and_true]
  constructor
  ·rw[z0B _ _ _ l1,z1M _ _ _ (by rw[z79];exact hol)]
  ·rw[<-List.append_assoc,Nat.add_zero]
   exact z0B _ _ _ (by simp[z79,hol])
 |succ f ih=>
  intro acc o b n hi hb hn hq hf
  have hlt:acc.length<N:=by lia
  unfold z1t
  simp only[kRng,if_pos hlt,asg,List.set_cons_zero,rt]
  rw[if_pos (by lia)]
  obtain⟨y,b',n',h1,h2,h3,h4,h5⟩:=hme acc.length hlt b ((acc.reverse.map some)++(rpO (pl l (.lst l b)) σ0++rpO (pl l (.lst l b)) tm0)) n hb hn (by rw[z65,z65,z7N,z7N,z7P hf])
  rw[h5]
  obtain⟨ys,b2,n2,g1,g2,g3,g4,g5,g6⟩:=ih (acc++[y]) (some (.int (0+(acc.length:Nat)))) b' n' (by simp;lia) h1 (by lia) (by
   intro z hz
   rcases List.mem_append.mp hz with hz|hz
   ·exact mono _ _ h3 z (hq z hz)
   ·rw[List.mem_singleton.mp hz];exact h2) (by
   rw[z66]
   simp only[z02,List.append_nil,List.mem_append,not_or]
   exact⟨hf,h4⟩)
  refine⟨ys,b2,n2,g1,g2,g3,g4,by lia, ?_⟩
  rw[<-g6]
  simp only[Stt.psh,z65,z7N,z7P hf,List.length_append,List.length_cons,List.length_nil,Nat.zero_add,List.reverse_append,List.reverse_cons,List.reverse_nil,List.nil_append,List.map_append,List.map_cons,List.map_nil,List.cons_append]
  rfl
theorem zaU{ms:List (M D)}{me:M D}{N:Nat}{ix:List Nat}{s:Stt}{l n:Nat}{j:Int}{σ0 tm0:List (Option D)}{b:List D}{Bg:List D->Prop}{Q:Nat->D->Prop}(mono: ∀a b,a<=b->∀y,Q a y->Q b y)(hms:mArgs ms s= .ok [.int j] ⟨σ0,tm0,n⟩)(hj:j.toNat=N)(hj': -(2^62)<=j/\j<2^62)(hz:N<sizeLine)
 (hb:Bg b) (hn:l<n) (f1:rpO (pl l (.lst l b)) σ0=σ0) (f2:rpO (pl l (.lst l b)) tm0=tm0) (f3:rpO (pl l (.lst l b)) (ix.map fun i=>(σ0[i]?).getD none)=ix.map fun i=>(σ0[i]?).getD none)
 (hme: ∀i,i<N->∀b tm n,Bg b->l<n->rpO (pl l (.lst l b)) tm=tm->∃y b' n',Bg b'/\Q n' y/\n<=n'/\l∉labs y/\me ⟨some (.int (0+(i:Nat)))::rpO (pl l (.lst l b)) (ix.map fun i=>(σ0[i]?).getD none),tm,n⟩= .ok y ⟨some (.int (0+(i:Nat)))::rpO (pl l (.lst l b')) (ix.map fun i=>(σ0[i]?).getD none),rpO (pl l (.lst l b')) tm,n'⟩):
 ∃ys b' n',ys.length=N/\(∀y∈ys,Q n' y)/\l∉z02 ys/\Bg b'/\n<=n'/\z0t (z3s ms) (.nm 0) (rt true) me 1 ix s= .ok (.lst n' ys) ⟨rpO (pl l (.lst l b')) σ0,rpO (pl l (.lst l b')) tm0,n'+1⟩:=by
 obtain⟨ys,b',n',h1,h2,h3,h4,h5,h6⟩:=z9F (me:=me) (N:=N) (cap:=ix.map fun i=>(σ0[i]?).getD none) (σ0:=σ0) (tm0:=tm0) (l:=l) (Bg:=Bg) (Q:=Q) mono rfl hz hme N [] none b n (by simp) hb hn (by intro y h;cases h) (by simp[z02])
 refine⟨ys,b',n',h1,h2,h3,h4,h5, ?_⟩
 unfold z0t
 rw[x_bd,z7L,hms,z1v,z7M hj',z1v,hj]
 rw[f1,f2,f3] at h6
 exact h6
inductive All2(Q:D->D->Prop):List D->List D->Prop
 |nil:All2 Q [] []
 |cons {a b:D} {as bs:List D}:Q a b->All2 Q as bs->All2 Q (a::as) (b::bs)
theorem All2.snoc{Q:D->D->Prop}{a b:D}: ∀{as bs:List D},All2 Q as bs->Q a b->All2 Q (as++[a]) (bs++[b])
 |_,_, .nil,h=> .cons h .nil
 |_,_, .cons h1 h2,h=> .cons h1 (h2.snoc h)
theorem All2.len{Q:D->D->Prop}: ∀{as bs:List D},All2 Q as bs->as.length=bs.length
 |_,_, .nil=>rfl
 |_,_, .cons _ h=>by simp only[List.length_cons,h.len]
theorem All2.mono{Q R:D->D->Prop}(h: ∀a b,Q a b->R a b): ∀{as bs:List D},All2 Q as bs->All2 R as bs
 |_,_, .nil=> .nil
 |_,_, .cons h1 h2=> .cons (h _ _ h1) (h2.mono h)
theorem zgr{m:M D}{s:Stt}{l:Nat}{ds:List D}{σ tm:List (Option D)}{n:Nat}(h:m s= .ok (.lst l ds) ⟨σ,tm,n⟩):z1j m s= .ok kLst ⟨σ,some (.lst l ds)::tm,n⟩:=by
 unfold z1j;rw[x_bd,h];rfl
theorem z9G{K:ItK}{mt:M Bool}{me:M D}{p:D->Bool}{g:D->D}{items:List D}{its fr σ0 tm0:List (Option D)}{ol:Nat}(hk:its.length=K.k)(hol:σ0.length=ol)(hz:items.length<sizeLine)(hat: ∀i rest,K.at' i (its++rest)=some items[i]?)
 (hmt: ∀d∈items,∀tm n,∃n',n<=n'/\mt ⟨some d::fr,tm,n⟩= .ok (p d) ⟨some d::fr,tm,n'⟩)
 (hme: ∀d∈items,p d=true->∀tm n,∃n',n<=n'/\me ⟨some d::fr,tm,n⟩= .ok (g d) ⟨some d::fr,tm,n'⟩):
 ∀(f i:Nat) (acc:List D) (o:Option D) (n:Nat),i+f=items.length->acc.length<=i->∃n',n<=n'/\z1t K (.nm 0) mt me ol f i acc.length ⟨o::fr,(acc.reverse.map some)++(σ0++(its++tm0)),n⟩= .ok (.lst n' (acc++((items.drop i).filter p).map g)) ⟨σ0,tm0,n'+1⟩:=by
 intro f
 induction f with
 |zero=>
  intro i acc o n hi ha
  have hi:i=items.length:=by lia
  refine⟨n,Nat.le_refl _, ?_⟩
  have l1:(acc.reverse.map some).length=acc.length:=by simp
  have e1:((acc.reverse.map some)++(σ0++(its++tm0))).drop (acc.length+ol)=its++tm0:=by
   rw[<-List.append_assoc];exact z0B _ _ _ (by simp[hol])
  unfold z1t
  simp only[e1,hat,List.getElem?_eq_none (show items.length<=i by lia)]
  rw[z1M _ _ _ l1]
  have e2:(acc.reverse.map some).reverse=acc.map some:=by simp
  rw[e2,z1H]
  simp only[Res.ok.injEq,Stt.mk.injEq,and_true,List.drop_eq_nil_of_le (show items.length<=i by lia),List.filter_nil,List.map_nil,List.append_nil,true_and]
  constructor
  ·rw[z0B _ _ _ l1,z1M _ _ _ hol]
  ·have:((acc.reverse.map some)++(σ0++(its++tm0))).drop (acc.length+ol+K.k)=(((acc.reverse.map some)++(σ0++(its++tm0))).drop (acc.length+ol)).drop K.k:=by rw[List.drop_drop]
   rw[this,e1]
   exact z0B _ _ _ hk
 |succ f ih=>
  intro i acc o n hi ha
  have hlt:i<items.length:=by lia
  have e1:((acc.reverse.map some)++(σ0++(its++tm0))).drop (acc.length+ol)=its++tm0:=by
   rw[<-List.append_assoc];exact z0B _ _ _ (by simp[hol])
  obtain⟨n1,hn1,h1⟩:=hmt items[i] (List.getElem_mem hlt) ((acc.reverse.map some)++(σ0++(its++tm0))) n
  rw[List.drop_eq_getElem_cons hlt,List.filter_cons]
  unfold z1t
  simp only[e1,hat,List.getElem?_eq_getElem hlt,asg,List.set_cons_zero,h1]
  cases hp:p items[i] with
  |false=>
   obtain⟨n2,hn2,h2⟩:=ih (i+1) acc (some items[i]) n1 (by lia) (by lia)
   exact⟨n2,by lia,h2⟩
  |true=>
   obtain⟨n2,hn2,h2⟩:=hme items[i] (List.getElem_mem hlt) hp ((acc.reverse.map some)++(σ0++(its++tm0))) n1
   obtain⟨n3,hn3,h3⟩:=ih (i+1) (acc++[g items[i]]) (some items[i]) n2 (by lia) (by simp;lia)
   refine⟨n3,by lia, ?_⟩
   simp only[if_pos (show acc.length<sizeLine by lia),h2]
   simp only[List.length_append,List.length_cons,List.length_nil,Nat.zero_add,List.reverse_append,List.reverse_cons,List.reverse_nil,List.nil_append,List.map_append,List.map_cons,List.map_nil,List.cons_append,List.append_assoc] at h3⊢
   exact h3
theorem z3L{mi:M ItK}{K:ItK}{mt:M Bool}{me:M D}{p:D->Bool}{g:D->D}{items:List D}{its:List (Option D)}{ix:List Nat}{s:Stt}{σ tm:List (Option D)}{n:Nat}(hc:mi s= .ok K ⟨σ,its++tm,n⟩)(hk:its.length=K.k)(hz:items.length<sizeLine)(hat: ∀i rest,K.at' i (its++rest)=some items[i]?)(hlen:K.len (its++tm)=items.length)
 (hmt: ∀d∈items,∀tm n,∃n',n<=n'/\mt ⟨some d::(ix.map fun i=>(σ[i]?).getD none),tm,n⟩= .ok (p d) ⟨some d::(ix.map fun i=>(σ[i]?).getD none),tm,n'⟩)
 (hme: ∀d∈items,p d=true->∀tm n,∃n',n<=n'/\me ⟨some d::(ix.map fun i=>(σ[i]?).getD none),tm,n⟩= .ok (g d) ⟨some d::(ix.map fun i=>(σ[i]?).getD none),tm,n'⟩):
 ∃n',n<=n'/\z0t mi (.nm 0) mt me 1 ix s= .ok (.lst n' ((items.filter p).map g)) ⟨σ,tm,n'+1⟩:=by
 obtain⟨n',h2,h3⟩:=z9G (K:=K) (mt:=mt) (me:=me) (σ0:=σ) (tm0:=tm) hk rfl hz hat hmt hme items.length 0 [] none n (by simp) (by simp)
 refine⟨n',h2, ?_⟩
 unfold z0t
 simp only[bd,hc,hlen]
 simp only[List.map_nil,List.reverse_nil,List.nil_append,List.length_nil,List.drop_zero] at h3
 exact h3
theorem z6y{mc:M D}{mt:M Bool}{me:M D}{p:D->Bool}{g:D->D}{l:Nat}{ds:List D}{ix:List Nat}{s:Stt}{σ tm:List (Option D)}{n:Nat}(hc:mc s= .ok (.lst l ds) ⟨σ,tm,n⟩)(hz:ds.length<sizeLine)
 (hmt: ∀d∈ds,∀tm n,∃n',n<=n'/\mt ⟨some d::(ix.map fun i=>(σ[i]?).getD none),tm,n⟩= .ok (p d) ⟨some d::(ix.map fun i=>(σ[i]?).getD none),tm,n'⟩)
 (hme: ∀d∈ds,p d=true->∀tm n,∃n',n<=n'/\me ⟨some d::(ix.map fun i=>(σ[i]?).getD none),tm,n⟩= .ok (g d) ⟨some d::(ix.map fun i=>(σ[i]?).getD none),tm,n'⟩):
 ∃n',n<=n'/\z0t (z1j mc) (.nm 0) mt me 1 ix s= .ok (.lst n' ((ds.filter p).map g)) ⟨σ,tm,n'+1⟩:=
 z3L (K:=kLst) (its:=[some (.lst l ds)]) (items:=ds) (by unfold z1j;rw[x_bd,hc];rfl) rfl hz (fun i rest=>rfl) rfl hmt hme
theorem z4W{mc:M D}{mt:M Bool}{me:M D}{p:D->Bool}{g:D->D}{ds:List D}{ix:List Nat}{s:Stt}{σ tm:List (Option D)}{n:Nat}(hc:mc s= .ok (.tup ds) ⟨σ,tm,n⟩)(hz:ds.length<sizeLine)
 (hmt: ∀d∈ds,∀tm n,∃n',n<=n'/\mt ⟨some d::(ix.map fun i=>(σ[i]?).getD none),tm,n⟩= .ok (p d) ⟨some d::(ix.map fun i=>(σ[i]?).getD none),tm,n'⟩)
 (hme: ∀d∈ds,p d=true->∀tm n,∃n',n<=n'/\me ⟨some d::(ix.map fun i=>(σ[i]?).getD none),tm,n⟩= .ok (g d) ⟨some d::(ix.map fun i=>(σ[i]?).getD none),tm,n'⟩):
 ∃n',n<=n'/\z0t (z1j mc) (.nm 0) mt me 1 ix s= .ok (.lst n' ((ds.filter p).map g)) ⟨σ,tm,n'+1⟩:=
 z3L (K:=kTup) (its:=[some (.tup ds)]) (items:=ds) (by unfold z1j;rw[x_bd,hc];rfl) rfl hz (fun i rest=>rfl) rfl hmt hme
theorem z9H{ms:List (M D)}{mt:M Bool}{me:M D}{p:D->Bool}{g:D->D}{N:Nat}{ix:List Nat}{s:Stt}{σ tm:List (Option D)}{n:Nat}(hc:mArgs ms s= .ok [.int (N:Int)] ⟨σ,tm,n⟩)(hz:N<sizeLine)
 (hmt: ∀d∈z1h 0 N,∀tm n,∃n',n<=n'/\mt ⟨some d::(ix.map fun i=>(σ[i]?).getD none),tm,n⟩= .ok (p d) ⟨some d::(ix.map fun i=>(σ[i]?).getD none),tm,n'⟩)
 (hme: ∀d∈z1h 0 N,p d=true->∀tm n,∃n',n<=n'/\me ⟨some d::(ix.map fun i=>(σ[i]?).getD none),tm,n⟩= .ok (g d) ⟨some d::(ix.map fun i=>(σ[i]?).getD none),tm,n'⟩):
 ∃n',n<=n'/\z0t (z3s ms) (.nm 0) mt me 1 ix s= .ok (.lst n' (((z1h 0 N).filter p).map g)) ⟨σ,tm,n'+1⟩:=by
 have hsz:(sizeLine:Nat)=16777216:=rfl
 refine z3L (K:=kRng 0 N) (its:=[]) (items:=z1h 0 N) ?_ rfl (by simp only[z1h,List.length_map,List.length_range];exact hz) (fun i rest=> ?_) (by simp only[z1h,List.length_map,List.length_range];rfl) hmt hme
 ·rw[z7L,hc,z1v,z7M ⟨by lia,by lia⟩];rfl
 ·simp only[kRng,z1h,List.getElem?_map]
  by_cases h:i<N
  ·rw[if_pos h,List.getElem?_range h];rfl
  ·rw[if_neg h,List.getElem?_eq_none (by simp;lia)];rfl
noncomputable def enu(ds:List D)(i:Nat):List (Nat×D):=((ds.drop i).zipIdx i).map fun q=>(q.2,q.1)
theorem z9I{mt:M Bool}{me:M D}{p:Nat->D->Bool}{g:Nat->D->D}{ds:List D}{fr σ0 tm0:List (Option D)}{ol:Nat}(hol:σ0.length=ol)(hz:ds.length<sizeLine)
 (hmt: ∀(k:Nat) (d:D),d∈ds->∀tm n,∃n',n<=n'/\mt ⟨some (.int k)::some d::fr,tm,n⟩= .ok (p k d) ⟨some (.int k)::some d::fr,tm,n'⟩)
 (hme: ∀(k:Nat) (d:D),d∈ds->p k d=true->∀tm n,∃n',n<=n'/\me ⟨some (.int k)::some d::fr,tm,n⟩= .ok (g k d) ⟨some (.int k)::some d::fr,tm,n'⟩):
 ∀(f i:Nat) (acc:List D) (o o':Option D) (n:Nat),i+f=ds.length->acc.length<=i->∃n',n<=n'/\z1t z6d (.tp [.nm 0, .nm 1]) mt me ol f i acc.length ⟨o::o'::fr,(acc.reverse.map some)++(σ0++(some (.tup ds)::tm0)),n⟩= .ok (.lst n' (acc++((enu ds i).filter fun q=>p q.1 q.2).map fun q=>g q.1 q.2)) ⟨σ0,tm0,n'+1⟩:=by
 intro f
 induction f with
 |zero=>
  intro i acc o o' n hi ha
  have hi:i=ds.length:=by lia
  refine⟨n,Nat.le_refl _, ?_⟩
  have l1:(acc.reverse.map some).length=acc.length:=by simp
  have e1:((acc.reverse.map some)++(σ0++(some (D.tup ds)::tm0))).drop (acc.length+ol)=some (D.tup ds)::tm0:=by
   rw[<-List.append_assoc];exact z0B _ _ _ (by simp[hol])
  have e0:z6d.at' i (some (D.tup ds)::tm0)=some none:=by
   show some ((ds[i]?).map _)=_
   rw[List.getElem?_eq_none (show ds.length<=i by lia)];rfl
  unfold z1t
  simp only[e1,e0]
  rw[z1M _ _ _ l1]
  have e2:(acc.reverse.map some).reverse=acc.map some:=by simp
  rw[e2,z1H]
  simp only[Res.ok.injEq,Stt.mk.injEq,and_true,enu,List.drop_eq_nil_of_le (show ds.length<=i by lia),List.zipIdx_nil,List.filter_nil,List.map_nil,List.append_nil,true_and]
  constructor
  ·rw[z0B _ _ _ l1,z1M _ _ _ hol]
  ·have:((acc.reverse.map some)++(σ0++(some (D.tup ds)::tm0))).drop (acc.length+ol+z6d.k)=(((acc.reverse.map some)++(σ0++(some (D.tup ds)::tm0))).drop (acc.length+ol)).drop z6d.k:=by rw[List.drop_drop]
   rw[this,e1]
   rfl
 |succ f ih=>
  intro i acc o o' n hi ha
  have hlt:i<ds.length:=by lia
  have e1:((acc.reverse.map some)++(σ0++(some (D.tup ds)::tm0))).drop (acc.length+ol)=some (D.tup ds)::tm0:=by
   rw[<-List.append_assoc];exact z0B _ _ _ (by simp[hol])
  have e0:z6d.at' i (some (D.tup ds)::tm0)=some (some (.tup [.int i,ds[i]])):=by
   show some ((ds[i]?).map _)=_
   rw[List.getElem?_eq_getElem hlt];rfl
  obtain⟨n1,hn1,h1⟩:=hmt i ds[i] (List.getElem_mem hlt) ((acc.reverse.map some)++(σ0++(some (D.tup ds)::tm0))) n
  have e3:enu ds i=(i,ds[i])::enu ds (i+1):=by
   unfold enu
   rw[List.drop_eq_getElem_cons hlt,List.zipIdx_cons,List.map_cons]
  rw[e3,List.filter_cons]
  unfold z1t
  simp only[e1,e0,asg,asgL,List.set_cons_zero,List.set_cons_succ,h1]
  cases hp:p i ds[i] with
  |false=>
   obtain⟨n2,hn2,h2⟩:=ih (i+1) acc (some (.int i)) (some ds[i]) n1 (by lia) (by lia)
   exact⟨n2,by lia,h2⟩
  |true=>
   obtain⟨n2,hn2,h2⟩:=hme i ds[i] (List.getElem_mem hlt) hp ((acc.reverse.map some)++(σ0++(some (D.tup ds)::tm0))) n1
   obtain⟨n3,hn3,h3⟩:=ih (i+1) (acc++[g i ds[i]]) (some (.int i)) (some ds[i]) n2 (by lia) (by simp;lia)
   refine⟨n3,by lia, ?_⟩
   simp only[if_pos (show acc.length<sizeLine by lia),h2]
   simp only[List.length_append,List.length_cons,List.length_nil,Nat.zero_add,List.reverse_append,List.reverse_cons,List.reverse_nil,List.nil_append,List.map_append,List.map_cons,List.map_nil,List.cons_append,List.append_assoc] at h3⊢
   exact h3
theorem z7Q{ms:List (M D)}{mt:M Bool}{me:M D}{p:Nat->D->Bool}{g:Nat->D->D}{ds:List D}{ix:List Nat}{s:Stt}{σ tm:List (Option D)}{n:Nat}(hc:mArgs ms s= .ok [.tup ds] ⟨σ,tm,n⟩)(hz:ds.length<sizeLine)
 (hmt: ∀(k:Nat) (d:D),d∈ds->∀tm n,∃n',n<=n'/\mt ⟨some (.int k)::some d::(ix.map fun i=>(σ[i]?).getD none),tm,n⟩= .ok (p k d) ⟨some (.int k)::some d::(ix.map fun i=>(σ[i]?).getD none),tm,n'⟩)
 (hme: ∀(k:Nat) (d:D),d∈ds->p k d=true->∀tm n,∃n',n<=n'/\me ⟨some (.int k)::some d::(ix.map fun i=>(σ[i]?).getD none),tm,n⟩= .ok (g k d) ⟨some (.int k)::some d::(ix.map fun i=>(σ[i]?).getD none),tm,n'⟩):
 ∃n',n<=n'/\z0t (mEnm ms) (.tp [.nm 0, .nm 1]) mt me 2 ix s= .ok (.lst n' (((enu ds 0).filter fun q=>p q.1 q.2).map fun q=>g q.1 q.2)) ⟨σ,tm,n'+1⟩:=by
 obtain⟨n',h2,h3⟩:=z9I (mt:=mt) (me:=me) (σ0:=σ) (tm0:=tm) rfl hz hmt hme ds.length 0 [] none none n (by simp) (by simp)
 refine⟨n',h2, ?_⟩
 have e1:mEnm ms s= .ok z6d ⟨σ,some (.tup ds)::tm,n⟩:=by
  show bd (mArgs ms) enmI s=_
  rw[x_bd,hc,z1v];rfl
 have e2:z6d.len (some (D.tup ds)::tm)=ds.length:=rfl
 unfold z0t
 simp only[bd,e1,e2]
 simp only[List.map_nil,List.reverse_nil,List.nil_append,List.length_nil,List.drop_zero] at h3
 exact h3
theorem zaV: ∀(ds:List D) (j a b:Nat),a<=b->((ds.zipIdx j).filter fun q=> !(decide (a<=q.2)&&decide (q.2<b))).map (fun q=>q.1)=ds.take (a -j)++ds.drop (b -j)
 |[],j,a,b,_=>by simp
 |d::ds,j,a,b,h=>by
  rw[List.zipIdx_cons,List.filter_cons]
  have ih:=zaV ds (j+1) a b h
  by_cases h1:a<=j
  ·by_cases h2:j<b
   ·simp only[h1,h2,decide_true,Bool.and_self,Bool.not_true,Bool.false_eq_true,if_false]
    rw[ih,show a -j=0 by lia,show a -(j+1)=0 by lia,show b -j=(b -(j+1))+1 by lia]
    simp
   ·simp only[h2,decide_false,Bool.and_false,Bool.not_false,if_true,List.map_cons]
    rw[ih,show a -j=0 by lia,show a -(j+1)=0 by lia,show b -j=0 by lia,show b -(j+1)=0 by lia]
    simp
  ·simp only[h1,decide_false,Bool.false_and,Bool.not_false,if_true,List.map_cons]
   rw[ih,show a -j=(a -(j+1))+1 by lia,show b -j=(b -(j+1))+1 by lia]
   simp
theorem zaW(ds:List D)(a b:Nat)(h:a<=b):((enu ds 0).filter fun q=> !(decide ((a:Int)<=(q.1:Int))&&decide ((q.1:Int)<(b:Int)))).map (fun q=>q.2)=ds.take a++ds.drop b:=by
 have:=zaV ds 0 a b h
 simp only[Nat.sub_zero] at this
 rw[<-this]
 unfold enu
 rw[List.drop_zero,List.filter_map,List.map_map]
 simp only[Function.comp_def,Int.ofNat_le,Int.ofNat_lt]
theorem z9J{K:ItK}{me:M D}{Q:Nat->D->D->Prop}(mono: ∀a b,a<=b->∀d y,Q a d y->Q b d y){items:List D}{its fr σ0 tm0:List (Option D)}{ol:Nat}(hk:its.length=K.k)(hol:σ0.length=ol)(hz:items.length<sizeLine)(hat: ∀i rest,K.at' i (its++rest)=some items[i]?)
 (hme: ∀d∈items,∀tm n,∃y n',n<=n'/\Q n' d y/\me ⟨some d::fr,tm,n⟩= .ok y ⟨some d::fr,tm,n'⟩):
 ∀(f i:Nat) (acc:List D) (o:Option D) (n:Nat),i+f=items.length->All2 (Q n) (items.take i) acc->∃ys n',All2 (Q n') items ys/\n<=n'/\z1t K (.nm 0) (rt true) me ol f i acc.length ⟨o::fr,(acc.reverse.map some)++(σ0++(its++tm0)),n⟩= .ok (.lst n' ys) ⟨σ0,tm0,n'+1⟩:=by
 intro f
 induction f with
 |zero=>
  intro i acc o n hi ha
  have hi:i=items.length:=by lia
  refine⟨acc,n,by rw[hi,List.take_length] at ha;exact ha,Nat.le_refl _, ?_⟩
  have l1:(acc.reverse.map some).length=acc.length:=by simp
  have e1:((acc.reverse.map some)++(σ0++(its++tm0))).drop (acc.length+ol)=its++tm0:=by
   rw[<-List.append_assoc];exact z0B _ _ _ (by simp[hol])
  unfold z1t
  simp only[e1,hat,List.getElem?_eq_none (show items.length<=i by lia)]
  rw[z1M _ _ _ l1]
  have e2:(acc.reverse.map some).reverse=acc.map some:=by simp
  rw[e2,z1H]
  simp only[Res.ok.injEq,Stt.mk.injEq,and_true,true_and]
  constructor
  ·rw[z0B _ _ _ l1,z1M _ _ _ hol]
  ·have:((acc.reverse.map some)++(σ0++(its++tm0))).drop (acc.length+ol+K.k)=(((acc.reverse.map some)++(σ0++(its++tm0))).drop (acc.length+ol)).drop K.k:=by rw[List.drop_drop]
   rw[this,e1]
   exact z0B _ _ _ hk
 |succ f ih=>
  intro i acc o n hi ha
  have hlt:i<items.length:=by lia
  have hla:acc.length=i:=by rw[<-ha.len,List.length_take];lia
  have e1:((acc.reverse.map some)++(σ0++(its++tm0))).drop (acc.length+ol)=its++tm0:=by
   rw[<-List.append_assoc];exact z0B _ _ _ (by simp[hol])
  obtain⟨y,n1,hn1,q1,h1⟩:=hme items[i] (List.getElem_mem hlt) ((acc.reverse.map some)++(σ0++(its++tm0))) n
  have e3:items.take (i+1)=items.take i++[items[i]]:=by rw[List.take_add_one,List.getElem?_eq_getElem hlt];rfl
  obtain⟨ys,n2,g1,g2,g3⟩:=ih (i+1) (acc++[y]) (some items[i]) n1 (by lia) (by rw[e3];exact(ha.mono (mono _ _ hn1)).snoc q1)
  refine⟨ys,n2,g1,by lia, ?_⟩
  unfold z1t
  simp only[e1,hat,List.getElem?_eq_getElem hlt,asg,List.set_cons_zero,rt]
  simp only[if_pos (show acc.length<sizeLine by lia),h1]
  simp only[List.length_append,List.length_cons,List.length_nil,Nat.zero_add,List.reverse_append,List.reverse_cons,List.reverse_nil,List.nil_append,List.map_append,List.map_cons,List.map_nil,List.cons_append,List.append_assoc] at g3⊢
  exact g3
theorem z9K{mc me:M D}{Q:Nat->D->D->Prop}(mono: ∀a b,a<=b->∀d y,Q a d y->Q b d y){ds:List D}{ix:List Nat}{s:Stt}{σ tm:List (Option D)}{n:Nat}(hc:mc s= .ok (.tup ds) ⟨σ,tm,n⟩)(hz:ds.length<sizeLine)
 (hme: ∀d∈ds,∀tm n,∃y n',n<=n'/\Q n' d y/\me ⟨some d::(ix.map fun i=>(σ[i]?).getD none),tm,n⟩= .ok y ⟨some d::(ix.map fun i=>(σ[i]?).getD none),tm,n'⟩):
 ∃ys n',All2 (Q n') ds ys/\n<=n'/\z0t (z1j mc) (.nm 0) (rt true) me 1 ix s= .ok (.lst n' ys) ⟨σ,tm,n'+1⟩:=by
 obtain⟨ys,n',h1,h2,h3⟩:=z9J (K:=kTup) (me:=me) (Q:=Q) mono (items:=ds) (its:=[some (.tup ds)]) (σ0:=σ) (tm0:=tm) rfl rfl hz (fun i rest=>rfl) hme ds.length 0 [] none n (by simp) .nil
 refine⟨ys,n',h1,h2, ?_⟩
 have e1:z1j mc s= .ok kTup ⟨σ,some (.tup ds)::tm,n⟩:=by unfold z1j;rw[x_bd,hc];rfl
 have e2:kTup.len (some (D.tup ds)::tm)=ds.length:=rfl
 unfold z0t
 simp only[bd,e1,e2]
 simp only[List.map_nil,List.reverse_nil,List.nil_append,List.length_nil] at h3
 exact h3
theorem All2.right{Q:D->D->Prop}{P:D->Prop}: ∀{as bs:List D},All2 Q as bs->(∀a b,a∈as->Q a b->P b)->∀b∈bs,P b
 |_,_, .nil,_,b,h=>by cases h
 |_,_, .cons q r,k,b,h=>by
  rcases List.mem_cons.mp h with rfl|h
  ·exact k _ _ (by simp) q
  ·exact All2.right r (fun a b ha hq=>k a b (List.mem_cons_of_mem _ ha) hq) b h
end Mi
set_option maxHeartbeats 1000000
namespace Mi
open PySem L2
noncomputable def ze6(o:Option (List D))(t:D)(n:Nat):RF:=match o with|some ts=> .ex t ts n|none=> .no
noncomputable def _root_.Mi.RS.finX(k:Nat):RS->RF
 | .nx s'=>finO (z08 s'.tm) .non s'.n
 | .rt t s'=>finO (z08 s'.tm) t s'.n
 | .ex d s'=>ze6 (z08 (z3n k s'.tm)) d s'.n
 |_=> .no
theorem zig{k:Nat}{t:D}{σ tm:List (Option D)}{n:Nat}:(RS.rt t ⟨σ,tm,n⟩).finX k=finO (z08 tm) t n:=(rfl)
theorem zih{k:Nat}{σ tm:List (Option D)}{n:Nat}:(RS.nx ⟨σ,tm,n⟩).finX k=finO (z08 tm) .non n:=(rfl)
theorem zii{k:Nat}{t:D}{σ tm:List (Option D)}{n:Nat}:(RS.ex t ⟨σ,tm,n⟩).finX k=ze6 (z08 (z3n k tm)) t n:=(rfl)
theorem zgs{nl:Nat}{mb:MS}{ts:List D}{n:Nat}:runX nl mb ts n=(mb ⟨ts.map some++List.replicate (nl -ts.length) none,ts.map some,n⟩).finX ts.length:=by
 unfold runX RS.finX finO ze6
 cases mb ⟨ts.map some++List.replicate (nl -ts.length) none,ts.map some,n⟩<;>rfl
theorem ze7{f:FM}{ms:List (M D)}{s:Stt}:z2T f ms s=(mArgs ms s).bnd fun ts s1=>z4p (f ts s1.n) ts s1:=by
 unfold z2T bd Res.bnd
 cases mArgs ms s<;>rfl
theorem zij{t:D}{ts:List D}{n':Nat}{s:Stt}:z4p (.ok t ts n') ts s= .ok t {s with n:=n'}:=by
 unfold z4p;simp
theorem zik{t:D}{ts:List D}{n':Nat}{s:Stt}:z4p (.ex t ts n') ts s= .ex t {s with n:=n'}:=by
 unfold z4p;simp
noncomputable def iK(tb:Str->Option Bool):D->M D
 | .exc c=>(match tb c with|some b=>rt (.bool b)|none=>fl)
 |_=>fl
theorem zil{tb:Str->Option Bool}{m:M D}{s:Stt}:mIsX tb m s=(m s).bnd (iK tb):=by
 unfold mIsX bd Res.bnd
 cases m s with
 |ok d s1=>cases d<;>rfl
 |ex d s1=>rfl
 |no=>rfl
theorem z41{tb:Str->Option Bool}{c:Str}{b:Bool}{s:Stt}(h:tb c=some b):iK tb (.exc c) s= .ok (.bool b) s:=by
 show(match tb c with|some b=>rt (D.bool b)|none=>fl) s=_
 rw[h];rfl
theorem ze8{c:Str}{s:Stt}:z2S c s= .ex (.exc c) s:=(rfl)
noncomputable def tK(k:Str->Bool)(ie N:Nat)(mh:MS):RS->RS
 | .ex (.exc c) s'=>if k c then(match mh {σ:=s'.σ.set ie (some (.exc c)),tm:=z3n N s'.tm,n:=s'.n} with
  | .rt d s''=> .rt d s''
  |_=> .no) else .no
 | .ex _ _=> .no
 |r=>r
theorem zim{k:Str->Bool}{ie:Nat}{mb mh:MS}{s:Stt}:sTry k ie mb mh s=tK k ie s.tm.length mh (mb s):=by
 unfold sTry tK
 cases mb s with
 |ex d s'=>cases d<;>rfl
 |_=>rfl
theorem zin{k:Str->Bool}{ie N:Nat}{mh:MS}{s:Stt}:tK k ie N mh (.nx s)= .nx s:=(rfl)
noncomputable def rtO:RS->RS
 | .rt d s''=> .rt d s''
 |_=> .no
theorem zgt{d:D}{s:Stt}:rtO (.rt d s)= .rt d s:=(rfl)
theorem zio{k:Str->Bool}{ie N:Nat}{mh:MS}{c:Str}{σ tm:List (Option D)}{n:Nat}(h:k c=true):tK k ie N mh (.ex (.exc c) ⟨σ,tm,n⟩)=rtO (mh ⟨σ.set ie (some (.exc c)),z3n N tm,n⟩):=by
 unfold tK rtO;simp only[h,if_true]
theorem ziq{α:Type}{d:D}{s:Stt}{f:α->MS}:((Res.ex d s:Res α).lf f:RS)= .ex d s:=(rfl)
theorem zir{d:D}{s:Stt}{m:MS}:((RS.ex d s).sq m:RS)= .ex d s:=(rfl)
end Mi
set_option maxHeartbeats 4000000
namespace Mi
open PySem L2
theorem zgu(lo:Int)(N i:Nat)(rest:List (Option D)):(kRng lo N).at' i ([]++rest)=some (z1h lo N)[i]? :=by
 simp only[kRng,z1h,List.getElem?_map]
 by_cases hi:i<N
 ·rw[if_pos hi,List.getElem?_range hi];rfl
 ·rw[if_neg hi,List.getElem?_eq_none (by simpa using hi)];rfl
end Mi
set_option maxHeartbeats 40000
namespace Mi
open PySem L2
section
variable{α β:Type}{m ma mb mc:M D}{s:Stt}{ms:List (M D)}{σ tm l:List (Option D)}{n i j k p:Nat}{x y z u d:D}{g g2:D->D->M D}{h:List D->M D}
variable{a0 a1 a2 a3 a4 a5 a6 a7 a8 a9 a10 a11 a12 a13 a14 a15 v:Option D}
theorem qg1:(a0::a1::l)[1]? =some a1:=(rfl)
theorem qg2:(a0::a1::a2::l)[2]? =some a2:=(rfl)
theorem qg3:(a0::a1::a2::a3::l)[3]? =some a3:=(rfl)
theorem qg4:(a0::a1::a2::a3::a4::l)[4]? =some a4:=(rfl)
theorem qg5:(a0::a1::a2::a3::a4::a5::l)[5]? =some a5:=(rfl)
theorem qg6:(a0::a1::a2::a3::a4::a5::a6::l)[6]? =some a6:=(rfl)
theorem qg7:(a0::a1::a2::a3::a4::a5::a6::a7::l)[7]? =some a7:=(rfl)
theorem qg8:(a0::a1::a2::a3::a4::a5::a6::a7::a8::l)[8]? =some a8:=(rfl)
theorem qg9:(a0::a1::a2::a3::a4::a5::a6::a7::a8::a9::l)[9]? =some a9:=(rfl)
theorem qg10:(a0::a1::a2::a3::a4::a5::a6::a7::a8::a9::a10::l)[10]? =some a10:=(rfl)
theorem qg11:(a0::a1::a2::a3::a4::a5::a6::a7::a8::a9::a10::a11::l)[11]? =some a11:=(rfl)
theorem qg12:(a0::a1::a2::a3::a4::a5::a6::a7::a8::a9::a10::a11::a12::l)[12]? =some a12:=(rfl)
theorem qh1:(a0::a1::l).set 1 v=a0::v::l:=(rfl)
theorem qh2:(a0::a1::a2::l).set 2 v=a0::a1::v::l:=(rfl)
theorem qh3:(a0::a1::a2::a3::l).set 3 v=a0::a1::a2::v::l:=(rfl)
theorem qh4:(a0::a1::a2::a3::a4::l).set 4 v=a0::a1::a2::a3::v::l:=(rfl)
theorem qh5:(a0::a1::a2::a3::a4::a5::l).set 5 v=a0::a1::a2::a3::a4::v::l:=(rfl)
theorem qh6:(a0::a1::a2::a3::a4::a5::a6::l).set 6 v=a0::a1::a2::a3::a4::a5::v::l:=(rfl)
theorem qh7:(a0::a1::a2::a3::a4::a5::a6::a7::l).set 7 v=a0::a1::a2::a3::a4::a5::a6::v::l:=(rfl)
theorem qh8:(a0::a1::a2::a3::a4::a5::a6::a7::a8::l).set 8 v=a0::a1::a2::a3::a4::a5::a6::a7::v::l:=(rfl)
theorem qh9:(a0::a1::a2::a3::a4::a5::a6::a7::a8::a9::l).set 9 v=a0::a1::a2::a3::a4::a5::a6::a7::a8::v::l:=(rfl)
theorem qh10:(a0::a1::a2::a3::a4::a5::a6::a7::a8::a9::a10::l).set 10 v=a0::a1::a2::a3::a4::a5::a6::a7::a8::a9::v::l:=(rfl)
theorem qh11:(a0::a1::a2::a3::a4::a5::a6::a7::a8::a9::a10::a11::l).set 11 v=a0::a1::a2::a3::a4::a5::a6::a7::a8::a9::a10::v::l:=(rfl)
theorem ov:mVar i s=match s.σ[i]? with|some (some t)=> .ok t s|_=> .no:=rfl
noncomputable def cv(g:D->D->M D)(a:D)(b:Option (Option D))(s:Stt):Res D:=match b with
 |some (some b)=>g a b s
 |_=> .no
theorem ze9:cv g x (some (some y)) s=g x y s:=(rfl)
theorem x_bC:mBin m (mC y) g s=(m s).bnd fun x s1=>g x y s1:=by
 rw[zcc];cases m s<;>rfl
theorem x_bV:mBin m (mVar j) g s=(m s).bnd fun x s1=>cv g x s1.σ[j]? s1:=by
 rw[zcc];cases m s with
 |ok x s1=>rw[z1v,z1v];unfold mVar cv;dsimp only[Stt.psh];cases s1.σ[j]? with
  |none=>rfl
  |some o=>cases o<;>rfl
 |ex d s1=>rfl
 |no=>rfl
noncomputable def qc1(h:List D->M D)(a:Option (Option D))(s:Stt):Res D:=match a with
 |some (some a)=>h [a] s
 |_=> .no
theorem zcg:qc1 h (some (some x)) s=h [x] s:=(rfl)
theorem x_c1:mCB [mVar i] h ⟨σ,tm,n⟩=qc1 h σ[i]? ⟨σ,tm,n⟩:=by
 rw[x_cb];unfold mVar qc1 mArgs bd;dsimp only
 cases σ[i]? with
 |none=>rfl
 |some o=>cases o<;>rfl
theorem zaX:mArgs [m] s=(m s).bnd fun x s1=> .ok [x] s1:=by
 rw[z4i];cases m s<;>rfl
noncomputable def qa1(a:Option (Option D))(s:Stt):Res (List D):=match a with
 |some (some a)=> .ok [a] s
 |_=> .no
theorem z8W:qa1 (some (some x)) s= .ok [x] s:=(rfl)
theorem x_a1:mArgs [mVar i] ⟨σ,tm,n⟩=qa1 σ[i]? ⟨σ,tm,n⟩:=by
 rw[zaX];unfold mVar qa1;dsimp only
 cases σ[i]? with
 |none=>rfl
 |some o=>cases o<;>rfl
noncomputable def qa2(a b:Option (Option D))(s:Stt):Res (List D):=match a,b with
 |some (some a),some (some b)=> .ok [a,b] s
 |_,_=> .no
theorem z7a:qa2 (some (some x)) (some (some y)) s= .ok [x,y] s:=(rfl)
theorem x_a2:mArgs [mVar i,mVar j] ⟨σ,tm,n⟩=qa2 σ[i]? σ[j]? ⟨σ,tm,n⟩:=by
 rw[z4i];unfold mVar qa2;dsimp only
 cases σ[i]? with
 |none=>rfl
 |some o=>cases o with
  |none=>rfl
  |some a=>rw[z1v];show Res.bnd _ (mArgs [mVar j] ⟨σ,_,_⟩)=_;rw[x_a1];unfold qa1;cases σ[j]? with
   |none=>rfl
   |some o=>cases o<;>rfl
noncomputable def qa3(a b c:Option (Option D))(s:Stt):Res (List D):=match a,b,c with
 |some (some a),some (some b),some (some c)=> .ok [a,b,c] s
 |_,_,_=> .no
theorem zch:qa3 (some (some x)) (some (some y)) (some (some z)) s= .ok [x,y,z] s:=(rfl)
theorem x_a3:mArgs [mVar i,mVar j,mVar k] ⟨σ,tm,n⟩=qa3 σ[i]? σ[j]? σ[k]? ⟨σ,tm,n⟩:=by
 rw[z4i];unfold mVar qa3;dsimp only
 cases σ[i]? with
 |none=>rfl
 |some o=>cases o with
  |none=>rfl
  |some a=>rw[z1v];show Res.bnd _ (mArgs [mVar j,mVar k] ⟨σ,_,_⟩)=_;rw[x_a2];unfold qa2;cases σ[j]? with
   |none=>rfl
   |some o=>cases o with
    |none=>rfl
    |some b=>cases σ[k]? with
     |none=>rfl
     |some o=>cases o<;>rfl
noncomputable def qa4(a b c d:Option (Option D))(s:Stt):Res (List D):=match a,b,c,d with
 |some (some a),some (some b),some (some c),some (some d)=> .ok [a,b,c,d] s
 |_,_,_,_=> .no
theorem zci:qa4 (some (some x)) (some (some y)) (some (some z)) (some (some u)) s= .ok [x,y,z,u] s:=(rfl)
theorem x_a4:mArgs [mVar i,mVar j,mVar k,mVar p] ⟨σ,tm,n⟩=qa4 σ[i]? σ[j]? σ[k]? σ[p]? ⟨σ,tm,n⟩:=by
 rw[z4i];unfold mVar qa4;dsimp only
 cases σ[i]? with
 |none=>rfl
 |some o=>cases o with
  |none=>rfl
  |some a=>rw[z1v];show Res.bnd _ (mArgs [mVar j,mVar k,mVar p] ⟨σ,_,_⟩)=_;rw[x_a3];unfold qa3;cases σ[j]? with
   |none=>rfl
   |some o=>cases o with
    |none=>rfl
    |some b=>cases σ[k]? with
     |none=>rfl
     |some o=>cases o with
      |none=>rfl
      |some c=>cases σ[p]? with
       |none=>rfl
       |some o=>cases o<;>rfl
theorem zea:mArgs [mVar i,mC y] ⟨σ,tm,n⟩=qa2 σ[i]? (some (some y)) ⟨σ,tm,n⟩:=by
 rw[z4i];unfold mVar qa2;dsimp only
 cases σ[i]? with
 |none=>rfl
 |some o=>cases o<;>rfl
theorem zgv:mArgs [mVar i,mC y,mC z] ⟨σ,tm,n⟩=qa3 σ[i]? (some (some y)) (some (some z)) ⟨σ,tm,n⟩:=by
 rw[z4i];unfold mVar qa3;dsimp only
 cases σ[i]? with
 |none=>rfl
 |some o=>cases o<;>rfl
theorem zis:z0y ma (mVar i) mc g g2 s=(ma s).bnd fun x s1=>(mVar i s1).bnd fun y s3=>z9p y (bd (mBoo (g x y)) fun k=>iteM k (bd mc fun z=>g2 y z) (rt (.bool false))) s3:=by
 rw[zaO];cases ma s with
 |ok x s1=>rw[z1v,z1v];unfold mVar;dsimp only[Stt.psh];cases s1.σ[i]? with
  |none=>rfl
  |some o=>cases o<;>rfl
 |ex d s1=>rfl
 |no=>rfl
theorem zgw:sAsg (.nm i) m s=(m s).lf fun d s1=> .nx ⟨s1.σ.set i (some d),s1.tm,s1.n⟩:=by
 rw[zgi];cases m s<;>rfl
end
theorem z09{t:D}{l n' n:Nat}{b b' r:List D}{σ tm:List (Option D)}{σ1 tm1:D->List (Option D)}(hb:z02 b=[])(hb':z02 b'=[])(hr:z02 r=[])(f1: ∀q,rpO (pl l q) σ=σ1 q)(f2: ∀q,rpO (pl l q) tm=tm1 q)(e1:σ1 (.lst l b)=σ:=by rfl)(e2:tm1 (.lst l b)=tm:=by rfl):
 z6J (.ok t (.lst l b'::r) n') (.lst l b::r) ⟨σ,tm,n⟩= .ok t ⟨σ1 (.lst l b'),tm1 (.lst l b'),n'⟩:=by
 rw[z0M hb hb' hr ((f1 _).trans e1) ((f2 _).trans e2),f1,f2]
end Mi
set_option maxHeartbeats 1000000
namespace My
open PySem L2 Mi
theorem BA{a b:Prop}(h:a)(k:b):a/\b:=⟨h,k⟩
noncomputable def B_0:=BA (BA (BA (BA (BA (BA @zhT @x_bd) (BA @z1v (BA @zaK @z8l))) (BA (BA @zhR (BA @x_rt @zcE)) (BA @zhU (BA @zg5 @zcb)))) (BA (BA (BA @zhV (BA @x_C @zcc)) (BA @zg6 (BA @zcF @zg7))) (BA (BA @x_tB (BA @x_tT @zhW)) (BA @x_or (BA @zhX @zg8))))) (BA (BA (BA (BA @zg9 (BA @zhY @x_it)) (BA @x_if (BA @zdX @z4i))) (BA (BA @x_cb (BA @zaM @zaN)) (BA @zhZ (BA @zaO @zi0)))) (BA (BA (BA @zaP (BA @zdY @zdZ)) (BA @zga (BA @x_sl @zcG))) (BA (BA @zi1 (BA @y_lt @y_le)) (BA @y_gt (BA @y_ge @zi2)))))) (BA (BA (BA (BA (BA @zi4 @zi5) (BA @zi6 (BA @zi7 @zi8))) (BA (BA @zi9 (BA @zgb @zgc)) (BA @zgd (BA @zia @zib)))) (BA (BA (BA @zge (BA @zgf @z8n)) (BA @zid (BA @zgg @ze2))) (BA (BA @zgh (BA @x_sT @x_sF)) (BA @zaS (BA @zgi @zie))))) (BA (BA (BA (BA @zgk (BA @zif @z9C)) (BA @zhS (BA @zaL @List.map_cons.{0,0}))) (BA (BA @List.map_nil.{0,0} (BA @List.nil_append.{0} @List.cons_append.{0})) (BA @List.append_nil.{0} (BA @List.getElem?_cons_zero.{0} @List.getElem?_cons_succ.{0})))) (BA (BA (BA @List.getElem?_nil.{0} (BA @List.set_cons_zero.{0} @List.set_cons_succ.{0})) (BA @List.length_cons.{0} (BA @List.length_nil.{0} @Option.map_some.{0,0}))) (BA (BA @Option.map_none.{0,0} (BA @Bool.not_true @Bool.not_false)) (BA @beq_self_eq_true.{0} (BA @Nat.zero_add @Nat.sub_self))))))
local macro_rules | `(tactic| walk_at "") => `(tactic| (simp (config := { dsimp := false }) only [B_0, isiD, z08, asg, asgL, List.replicate, Nat.reduceAdd, Nat.reduceSub, String.reduceBEq]))
noncomputable def isInt:D->Bool
 | .int _=>true
 |_=>false
noncomputable def inR(lo hi:Int):D->Bool
 | .int i=>decide (lo<=i)&&decide (i<=hi)
 |_=>false
theorem zgx(t:D)(n:Nat)(h:plain t=true):z2d [t] n= .ok (.bool (isInt t)) [t] n:=by
 unfold z2d z3b
 cases t<;>first|(simp[Mi.plain] at h;done)|(walk_at "";first|done|rfl)
theorem z42(t:D)(lo hi:Int)(n:Nat)(h:plain t=true):z0l [t, .int lo, .int hi] n= .ok (.bool (inR lo hi t)) [t, .int lo, .int hi] n:=by
 unfold z0l z3E
 walk_at ""
 rw[zgx t n h]
 cases t<;>(try simp only[isInt,inR])<;>walk_at "" <;>try rfl
 rename_i i
 by_cases h1:lo<=i
 ·simp only[h1,decide_true];walk_at "";simp
 ·simp only[h1,decide_false];walk_at "";simp
noncomputable def rowB(lo hi top:Int):D->Bool
 | .tup ds=>decide (lo<=(ds.length:Int))&&decide ((ds.length:Int)<=hi)&&ds.all (inR 0 top)
 |_=>false
theorem z1g: ∀{ds:List D} {d:D},z2t ds=true->d∈ds->plain d=true
 |x::ds,d,h,m=>by
  simp only[z2t,Bool.and_eq_true] at h
  rcases List.mem_cons.mp m with rfl|m
  ·exact h.1
  ·exact z1g h.2 m
theorem zaY(t:D)(lo hi top:Int)(n:Nat)(h:plain t=true)(hh:hi<1000000): ∃n',n<=n'/\z2h [t, .int lo, .int hi, .int top] n= .ok (.bool (rowB lo hi top t)) [t, .int lo, .int hi, .int top] n':=by
 unfold z2h z4R
 walk_at ""
 cases t with
 |tup ds=>
  walk_at ""
  by_cases h1:lo<=(ds.length:Int)
  ·by_cases h2:(ds.length:Int)<=hi
   ·simp only[h1,h2,decide_true,rowB,Bool.true_and]
    walk_at ""
    simp only[h2,decide_true]
    walk_at ""
    have hz:ds.length<sizeLine:=by have:sizeLine=16777216:=rfl;lia
    obtain⟨n',hn,hc⟩:=z62 (mc:=mVar 0) (me:=z03 z0l [mVar 0,mC (D.int 0),mVar 1]) (g:=fun d=> .bool (inR 0 top d)) (ds:=ds) (ix:=[3]) (s:=⟨[some (.tup ds),some (.int lo),some (.int hi),some (.int top)],[some (.tup ds),some (.int lo),some (.int hi),some (.int top)],n⟩) (s1:=⟨[some (.tup ds),some (.int lo),some (.int hi),some (.int top)],[some (.tup ds),some (.int lo),some (.int hi),some (.int top)],n⟩) (by walk_at "") hz (by
     intro d hd tm m
     refine⟨m,Nat.le_refl _, ?_⟩
     show z03 _ _ ⟨[some d,some (.int top)],tm,m⟩=_
     walk_at ""
     rw[z42 d 0 top m (z1g (by simpa[Mi.plain] using h) hd)]
     walk_at ""
     rfl)
    refine⟨n'+1,by simp only at hn;lia, ?_⟩
    rw[hc]
    walk_at ""
    rw[ze1 (z4w ds (inR 0 top))]
    walk_at ""
    simp only[List.all_map]
    rfl
   ·refine⟨n,Nat.le_refl _, ?_⟩
    simp only[h1,h2,decide_true,decide_false,rowB,Bool.true_and,Bool.false_and]
    walk_at ""
    simp only[h2,decide_false]
    walk_at ""
  ·refine⟨n,Nat.le_refl _, ?_⟩
   simp only[h1,decide_false,rowB,Bool.false_and]
   walk_at ""
 |dct _ _ _=>simp[Mi.plain] at h
 |obj _ _ _ _=>simp[Mi.plain] at h
 |exc _=>simp[Mi.plain] at h
 |fn _=>simp[Mi.plain] at h
 |fdc _ _=>simp[Mi.plain] at h
 |_=>refine⟨n,Nat.le_refl _, ?_⟩;walk_at "";rfl
theorem at0{a:D}{l:List D}:atI (a::l) 0=some a:=z63 (by decide) rfl
theorem at1{a b:D}{l:List D}:atI (a::b::l) 1=some b:=z63 (by decide) rfl
theorem at2{a b c:D}{l:List D}:atI (a::b::c::l) 2=some c:=z63 (by decide) rfl
theorem at3{a b c d:D}{l:List D}:atI (a::b::c::d::l) 3=some d:=z63 (by decide) rfl
theorem zgy{i j:Int}{s:Stt}:eqD (.int i) (.int j) s= .ok (.bool (i==j)) s:=by
 rw[y_eq (by simp[eqC,Mi.plain,er,PyData.canLay0,PyData.depth])];simp only[er,PyData.eqv]
theorem c0:((0:Nat):Int)=0:=rfl
theorem c1:((1:Nat):Int)=1:=rfl
theorem c2:((2:Nat):Int)=2:=rfl
theorem c3:((3:Nat):Int)=3:=rfl
theorem c4:((4:Nat):Int)=4:=rfl
noncomputable def Gd(t:D):Prop:=plain t=true/\(er t).canLay0=true
noncomputable def GdL(ds:List D):Prop:=z2t ds=true/\PyData.canLayAll0 (erL ds)=true
theorem Gd.tup{ds:List D}:Gd (.tup ds)↔GdL ds:=by simp only[Gd,GdL,Mi.plain,er,PyData.canLay0]
theorem Gd.lst{l:Nat}{ds:List D}:Gd (.lst l ds)↔GdL ds:=by simp only[Gd,GdL,Mi.plain,er,PyData.canLay0]
theorem GdL.cons{d:D}{ds:List D}:GdL (d::ds)↔Gd d/\GdL ds:=by
 simp only[Gd,GdL,z2t,erL,PyData.canLayAll0,Bool.and_eq_true]
 constructor
 ·rintro ⟨⟨a,b⟩,c,d⟩;exact⟨⟨a,c⟩,b,d⟩
 ·rintro ⟨⟨a,c⟩,b,d⟩;exact⟨⟨a,b⟩,c,d⟩
noncomputable def zgz(x:Str):D->Bool
 | .str y=>y==x
 |_=>false
theorem zgA{t:D}{x:Str}{s:Stt}(g:Gd t)(h:PyData.strOk x=true):eqD t (.str x) s= .ok (.bool (zgz x t)) s:=by
 have e:eqC t (.str x)=true:=by
  simp only[eqC,g.1,g.2,Mi.plain,er,PyData.canLay0,h,Bool.true_and,decide_eq_true_eq]
  simp[PyData.depth]
 rw[y_eq e]
 cases t<;>simp[er,PyData.eqv,zgz]
theorem zl:sizeLine=16777216:=rfl
section
variable{a b c d:D}{s:Stt}
theorem t0:tupD [] s= .ok (.tup []) s:=zaR (by decide)
theorem t1:tupD [a] s= .ok (.tup [a]) s:=zaR (by rw[zl];simp)
theorem t2:tupD [a,b] s= .ok (.tup [a,b]) s:=zaR (by rw[zl];simp)
theorem t3:tupD [a,b,c] s= .ok (.tup [a,b,c]) s:=zaR (by rw[zl];simp)
theorem t4:tupD [a,b,c,d] s= .ok (.tup [a,b,c,d]) s:=zaR (by rw[zl];simp)
theorem k0{σ tm:List (Option D)}{n:Nat}:lstM [] ⟨σ,tm,n⟩= .ok (.lst n []) ⟨σ,tm,n+1⟩:=z8m (by rw[zl];simp)
theorem k1{σ tm:List (Option D)}{n:Nat}:lstM [a] ⟨σ,tm,n⟩= .ok (.lst n [a]) ⟨σ,tm,n+1⟩:=z8m (by rw[zl];simp)
theorem k2{σ tm:List (Option D)}{n:Nat}:lstM [a,b] ⟨σ,tm,n⟩= .ok (.lst n [a,b]) ⟨σ,tm,n+1⟩:=z8m (by rw[zl];simp)
theorem k3{σ tm:List (Option D)}{n:Nat}:lstM [a,b,c] ⟨σ,tm,n⟩= .ok (.lst n [a,b,c]) ⟨σ,tm,n+1⟩:=z8m (by rw[zl];simp)
theorem k4{σ tm:List (Option D)}{n:Nat}:lstM [a,b,c,d] ⟨σ,tm,n⟩= .ok (.lst n [a,b,c,d]) ⟨σ,tm,n+1⟩:=z8m (by rw[zl];simp)
end
noncomputable def B_1:=BA (BA (BA (BA (BA @t0 @t1) (BA @t2 @t3)) (BA (BA @t4 @k0) (BA @k1 @k2))) (BA (BA (BA @k3 @k4) (BA @Bool.or_false @Bool.false_or)) (BA (BA @Bool.true_or @Bool.or_true) (BA @Bool.and_true @Bool.true_and)))) (BA (BA (BA (BA @Bool.and_false @Bool.false_and) (BA @at0 @at1)) (BA (BA @at2 @at3) (BA @zgy @zgm))) (BA (BA (BA @z2O @z54) (BA @z40 @zgn)) (BA (BA @ze3 @zgo) (BA @zcI (BA @ze4 @zcf)))))
noncomputable def B_2:=BA @zcd @zce
local macro_rules | `(tactic| walk_at "") => `(tactic| (simp (config := { dsimp := false }) only [B_0, B_1, B_2, isiD, z08, asg, asgL, List.replicate, Nat.reduceAdd, Nat.reduceSub, String.reduceBEq, Int.reduceBEq]))
noncomputable def Bg(c x:Int):Prop:=0<=c/\0<=x/\x<2147483647
theorem z0p(l:Nat)(c x top:Int)(n:Nat)(h:Bg c x)(ht:0<top)(ht':top<1000000): ∃r c' x',0<=r/\r<top/\Bg c' x'/\z07 [.lst l [.int c, .int x], .int top] n= .ok (.int r) [.lst l [.int c', .int x'], .int top] n:=by
 unfold z07 z73
 obtain⟨h0,h1,h2⟩:=h
 by_cases hc:0<c
 ·refine⟨c %top,c/top,x,Int.emod_nonneg _ (by lia),Int.emod_lt_of_pos _ ht,⟨Int.ediv_nonneg h0 (by lia),h1,h2⟩, ?_⟩
  walk_at ""
  simp only[hc,decide_true]
  walk_at ""
  rw[z4x ht]
  walk_at ""
  rw[zaQ ⟨ht,by lia⟩]
  walk_at ""
  rw[zgj (j:=0) rfl (by simp[labs])]
  walk_at ""
 ·have hx0:=Int.emod_nonneg (x*48271+7919) (show(2147483647:Int)≠0 by decide)
  have hx1:=Int.emod_lt_of_pos (x*48271+7919) (show(0:Int)<2147483647 by decide)
  generalize hy:(x*48271+7919) %2147483647=y at hx0 hx1
  refine⟨(y^(3:Int).toNat %2147483587/7*69621 %1073741789) %top,c,y,Int.emod_nonneg _ (by lia),Int.emod_lt_of_pos _ ht,⟨h0,hx0,hx1⟩, ?_⟩
  walk_at ""
  simp only[hc,decide_false]
  walk_at ""
  rw[z9D (.inl ⟨by lia,by lia⟩)]
  walk_at ""
  rw[z4x (by decide),hy]
  walk_at ""
  rw[zgj (j:=1) rfl (by simp[labs])]
  walk_at ""
  rw[ze0 ⟨by decide,by decide,by lia⟩]
  walk_at ""
  rw[z4x (by decide)]
  walk_at ""
  rw[zaQ ⟨by decide,by decide⟩]
  walk_at ""
  rw[z9D (.inr ⟨by decide,by decide⟩)]
  walk_at ""
  rw[z4x (by decide)]
  walk_at ""
  rw[z4x ht]
  walk_at ""
noncomputable def B_3:=BA (BA @ze5 @z7L) (BA @zgp @Int.zero_add)
local macro_rules | `(tactic| walk_at "") => `(tactic| (simp (config := { dsimp := false }) only [B_0, B_1, B_2, B_3, isiD, z08, asg, asgL, List.replicate, Nat.reduceAdd, Nat.reduceSub, String.reduceBEq, Int.reduceBEq]))
theorem zcJ{ns:List Int}{a:Nat}(h:a<ns.length):atI (ns.map D.int) (a:Int)=some (.int ns[a]):=z63 (by lia) (by simp[h])
theorem zcK(ns:List Int)(a n:Nat)(ha:a<1000)(hl:ns.length<1000): ∃c x,Bg c x/\z4g [.ro (ns.map .int), .int a] n= .ok (.lst n [.int c, .int x]) [.ro (ns.map .int), .int a] (n+1):=by
 unfold z4g z8i
 walk_at ""
 have key: ∃c:Int,0<=c/\iteS (decide ((a:Int)<((ns.map D.int).length:Int))) (sAsg (Tg.nm 2) (mCB [mBin (mVar 0) (mVar 1) ixD] absD)) sNx ⟨[some (.ro (ns.map .int)),some (.int a),some (.int 0),none,none],[some (.ro (ns.map .int)),some (.int a)],n⟩= .nx ⟨[some (.ro (ns.map .int)),some (.int a),some (.int c),none,none],[some (.ro (ns.map .int)),some (.int a)],n⟩:=by
  by_cases h:a<ns.length
  ·refine⟨if ns[a]<0 then -ns[a] else ns[a], ?_, ?_⟩
   rotate_left
   ·rw[show decide ((a:Int)<((ns.map D.int).length:Int))=true by simp[h]]
    walk_at ""
    rw[zcJ h]
    walk_at ""
   ·split<;>lia
  ·refine⟨0,by decide, ?_⟩
   rw[show decide ((a:Int)<((ns.map D.int).length:Int))=false by simp;lia]
   walk_at ""
 obtain⟨c,hc,e1⟩:=key
 rw[e1]
 walk_at ""
 rw[z4x (by decide)]
 walk_at ""
 rw[z9D (.inl ⟨by decide,by decide⟩)]
 walk_at ""
 have q0:=Int.emod_nonneg c (show(2147483629:Int)≠0 by decide)
 have q1:=Int.emod_lt_of_pos c (show(0:Int)<2147483629 by decide)
 rw[ze0 ⟨by decide,by decide,by lia⟩]
 walk_at ""
 rw[z4x (by decide)]
 walk_at ""
 have w0:((ns.map D.int).length:Int)=ns.length:=by simp
 rw[w0]
 generalize hk:(if(60:Int)<(ns.length:Int) then(60:Int) else(ns.length:Int))=k
 have hk0:0<=k/\k<=60/\k<=ns.length:=by split at hk<;>lia
 rw[z7M ⟨by lia,by lia⟩]
 walk_at ""
 have p0:=Int.emod_nonneg ((c %2147483629+104729*(a:Int)+17)^(5:Int).toNat) (show(2147483647:Int)≠0 by decide)
 have p1:=Int.emod_lt_of_pos ((c %2147483629+104729*(a:Int)+17)^(5:Int).toNat) (show(0:Int)<2147483647 by decide)
 generalize (c %2147483629+104729*(a:Int)+17)^(5:Int).toNat %2147483647=x0 at p0 p1
 obtain⟨s',e2,x,o,hx0,hx1,rfl⟩:=z8o (P:=fun i s=> ∃(x:Int) (o:Option D),0<=x/\x<2147483647/\s=⟨[some (.ro (ns.map .int)),some (.int a),some (.int c),some (.int x),o],[some (.ro (ns.map .int)),some (.int a)],n⟩) (lo:=0) (N:=k.toNat) (g:= .nm 4) (b:=sAsg (.nm 3) (mBin (mBin (mBin (mBin (mVar 3) (mC (.int 48271)) mulD) (mBin (mBin (mBin (mVar 0) (mVar 4) ixD) (mC (.int 2147483587)) modD) (mBin (mVar 4) (mC (.int 3)) addD) mulD) addD) (mVar 4) addD) (mC (.int 2147483629)) modD)) (by
  rintro i hi s ⟨x,o,h0,h1,rfl⟩
  have hi':i<ns.length:=by lia
  refine⟨[some (.ro (ns.map .int)),some (.int a),some (.int c),some (.int x),some (.int i)],by simp only[Int.zero_add];rfl, ?_⟩
  refine⟨⟨[some (.ro (ns.map .int)),some (.int a),some (.int c),some (.int ((x*48271+ns[i] %2147483587*(i+3)+i) %2147483629)),some (.int i)],[some (.ro (ns.map .int)),some (.int a)],n⟩, ?_, ?_⟩
  ·walk_at ""
   rw[z9D (.inl ⟨by lia,by lia⟩)]
   walk_at ""
   rw[zcJ hi']
   walk_at ""
   rw[z4x (by decide)]
   walk_at ""
   rw[z9D (.inr ⟨by lia,by lia⟩)]
   walk_at ""
   rw[z4x (by decide)]
   walk_at ""
  ·have r0:=Int.emod_nonneg (x*48271+ns[i] %2147483587*(i+3)+i) (show(2147483629:Int)≠0 by decide)
   have r1:=Int.emod_lt_of_pos (x*48271+ns[i] %2147483587*(i+3)+i) (show(0:Int)<2147483629 by decide)
   exact⟨_,_,r0,by lia,rfl⟩) k.toNat 0 ⟨[some (.ro (ns.map .int)),some (.int a),some (.int c),some (.int x0),none],[some (.ro (ns.map .int)),some (.int a)],n⟩ (by lia) ⟨x0,none,p0,p1,rfl⟩
 rw[e2]
 walk_at ""
 rw[ze0 ⟨by decide,by decide,by decide⟩]
 walk_at ""
 by_cases h:c<10^(18:Int).toNat
 ·refine⟨0,x,⟨by decide,hx0,hx1⟩, ?_⟩
  simp only[h,decide_true]
  walk_at ""
 ·refine⟨c,x,⟨hc,hx0,hx1⟩, ?_⟩
  simp only[h,decide_false]
  walk_at ""
theorem zgB{l k:Nat}{d:D}{ds:List D}(h:k≠l):rp (pl l d) (.lst k ds)= .lst k (rpL (pl l d) ds):=by simp only[rp,pl,if_neg h]
mutual
noncomputable def Rs(n:Nat):D->Bool
 | .non=>true| .bool _=>true| .int _=>true| .str x=>PyData.strOk x
 | .tup ds=>decide (ds.length<=2000)&&RsL n ds
 | .lst l ds=>decide (n<=l)&&(decide (ds.length<=2000)&&RsL n ds)
 | .ro _=>false| .dct _ _ _=>false| .obj _ _ _ _=>false| .exc _=>false| .fn _=>false| .fdc _ _=>false
noncomputable def RsL(n:Nat):List D->Bool
 |[]=>true
 |d::ds=>Rs n d&&RsL n ds
end
theorem zgC{α:Type}{ds:List α}{r:Int}(h0:0<=r)(h1:r<ds.length): ∃d∈ds,atI ds r=some d:=by
 have h:r.toNat<ds.length:=by lia
 exact⟨ds[r.toNat],List.getElem_mem h,z63 h0 (by simp[h])⟩
mutual
noncomputable def Tr:D->Bool
 | .non=>true| .bool _=>true| .int _=>true| .str x=>PyData.strOk x
 | .tup ds=>decide (ds.length<=900)&&TrL ds
 | .lst _ _=>false| .ro _=>false| .dct _ _ _=>false| .obj _ _ _ _=>false| .exc _=>false| .fn _=>false| .fdc _ _=>false
noncomputable def TrL:List D->Bool
 |[]=>true
 |d::ds=>Tr d&&TrL ds
end
theorem zaZ: ∀{ds:List D},TrL ds=true↔∀d∈ds,Tr d=true
 |[]=>by simp[TrL]
 |d::ds=>by simp only[TrL,Bool.and_eq_true,zaZ (ds:=ds),List.forall_mem_cons]
theorem zb0{k:Nat}: ∀{ds:List D},PyData.depthAll (erL ds)<=k↔∀d∈ds,(er d).depth<=k
 |[]=>by simp[erL,PyData.depthAll]
 |d::ds=>by simp only[erL,PyData.depthAll,List.forall_mem_cons,<-zb0 (ds:=ds)];lia
mutual
theorem zb1: ∀t:D,Tr t=true->labs t=[]
 | .non,_=>rfl
 | .bool _,_=>rfl
 | .int _,_=>rfl
 | .str _,_=>rfl
 | .tup ds,h=>by simp only[Tr,Bool.and_eq_true] at h;simp only[labs];exact z8X ds h.2
 | .lst _ _,h=>by simp[Tr] at h
 | .ro _,h=>by simp[Tr] at h
 | .dct _ _ _,h=>by simp[Tr] at h
 | .obj _ _ _ _,h=>by simp[Tr] at h
 | .exc _,h=>by simp[Tr] at h
 | .fn _,h=>by simp[Tr] at h
 | .fdc _ _,h=>by simp[Tr] at h
theorem z8X: ∀t:List D,TrL t=true->z02 t=[]
 |[],_=>rfl
 |d::ds,h=>by simp only[TrL,Bool.and_eq_true] at h;simp only[z02,zb1 d h.1,z8X ds h.2,List.append_nil]
end
mutual
theorem zeb{n:Nat}: ∀t:D,Tr t=true->Rs n t=true
 | .non,_=>rfl
 | .bool _,_=>rfl
 | .int _,_=>rfl
 | .str _,h=>by simpa[Tr,Rs] using h
 | .tup ds,h=>by
  simp only[Tr,Bool.and_eq_true,decide_eq_true_eq] at h;simp only[Rs,Bool.and_eq_true,decide_eq_true_eq];exact⟨by lia,zcL ds h.2⟩
 | .lst _ _,h=>by simp[Tr] at h
 | .ro _,h=>by simp[Tr] at h
 | .dct _ _ _,h=>by simp[Tr] at h
 | .obj _ _ _ _,h=>by simp[Tr] at h
 | .exc _,h=>by simp[Tr] at h
 | .fn _,h=>by simp[Tr] at h
 | .fdc _ _,h=>by simp[Tr] at h
theorem zcL{n:Nat}: ∀t:List D,TrL t=true->RsL n t=true
 |[],_=>rfl
 |d::ds,h=>by simp only[TrL,Bool.and_eq_true] at h;simp only[RsL,zeb d h.1,zcL ds h.2,Bool.and_true]
end
mutual
theorem zec{n:Nat}: ∀t:D,Rs n t=true->Gd t
 | .non,_=>⟨rfl,rfl⟩
 | .bool _,_=>⟨rfl,rfl⟩
 | .int _,_=>⟨rfl,rfl⟩
 | .str _,h=>⟨rfl,by simpa[Rs,er,PyData.canLay0] using h⟩
 | .tup ds,h=>by simp only[Rs,Bool.and_eq_true] at h;exact Gd.tup.mpr (zb2 ds h.2)
 | .lst _ ds,h=>by simp only[Rs,Bool.and_eq_true] at h;exact Gd.lst.mpr (zb2 ds h.2.2)
 | .ro _,h=>by simp[Rs] at h
 | .dct _ _ _,h=>by simp[Rs] at h
 | .obj _ _ _ _,h=>by simp[Rs] at h
 | .exc _,h=>by simp[Rs] at h
 | .fn _,h=>by simp[Rs] at h
 | .fdc _ _,h=>by simp[Rs] at h
theorem zb2{n:Nat}: ∀t:List D,RsL n t=true->GdL t
 |[],_=>⟨rfl,rfl⟩
 |d::ds,h=>by simp only[RsL,Bool.and_eq_true] at h;exact GdL.cons.mpr ⟨zec d h.1,zb2 ds h.2⟩
end
mutual
theorem zgD{n k:Nat}: ∀t:D,Rs n t=true->k∈labs t->n<=k
 | .non,_,h=>by simp[labs] at h
 | .bool _,_,h=>by simp[labs] at h
 | .int _,_,h=>by simp[labs] at h
 | .str _,_,h=>by simp[labs] at h
 | .tup ds,h,m=>by simp only[Rs,Bool.and_eq_true] at h;simp only[labs] at m;exact z8p ds h.2 m
 | .lst _ ds,h,m=>by
  simp only[Rs,Bool.and_eq_true,decide_eq_true_eq] at h
  simp only[labs,List.mem_cons] at m
  rcases m with rfl|m
  ·exact h.1
  ·exact z8p ds h.2.2 m
 | .ro _,h,_=>by simp[Rs] at h
 | .dct _ _ _,h,_=>by simp[Rs] at h
 | .obj _ _ _ _,h,_=>by simp[Rs] at h
 | .exc _,h,_=>by simp[Rs] at h
 | .fn _,h,_=>by simp[Rs] at h
 | .fdc _ _,h,_=>by simp[Rs] at h
theorem z8p{n k:Nat}: ∀t:List D,RsL n t=true->k∈z02 t->n<=k
 |[],_,h=>by simp[z02] at h
 |d::ds,h,m=>by
  simp only[RsL,Bool.and_eq_true] at h
  simp only[z02,List.mem_append] at m
  rcases m with m|m
  ·exact zgD d h.1 m
  ·exact z8p ds h.2 m
end
theorem labsL_mem{k:Nat}: ∀{es:List D},k∈z02 es->∃e∈es,k∈labs e
 |e::es,h=>by
  simp only[z02,List.mem_append] at h
  rcases h with h|h
  ·exact⟨e,List.mem_cons_self,h⟩
  ·obtain⟨e',h1,h2⟩:=labsL_mem h
   exact⟨e',List.mem_cons_of_mem _ h1,h2⟩
theorem z8q{y d:D}{s:Stt}(gy:Gd y)(gd:Gd d)(e:er y=er d)(hd:(er d).depth<=60):neD y d s= .ok (.bool false) s:=by
 rw[y_ne (by simp only[eqC,gy.1,gd.1,gy.2,gd.2,e,Bool.true_and,decide_eq_true_eq];lia),e,PySem.SeqAt.eqv_refl _ gd.2];rfl
theorem z1N{f:Nat->Option D}{o:Option D}{r:List (Option D)}:rpO f (o::r)=o.map (rp f)::rpO f r:=by cases o<;>rfl
theorem k5{a b c d e:D}{σ tm:List (Option D)}{n:Nat}:lstM [a,b,c,d,e] ⟨σ,tm,n⟩= .ok (.lst n [a,b,c,d,e]) ⟨σ,tm,n+1⟩:=z8m (by rw[zl];simp)
theorem z8Y{k:Nat}{es:List D}(hl:es.length<=900)(h: ∀e∈es,Tr e=true/\(er e).depth<=k):Tr (.tup es)=true/\(er (.tup es)).depth<=k+1:=by
 refine⟨?_, ?_⟩
 ·simp only[Tr,Bool.and_eq_true,decide_eq_true_eq];exact⟨hl,zaZ.mpr fun d m=>(h d m).1⟩
 ·simp only[er,PyData.depth];exact Nat.succ_le_succ (zb0.mpr fun d m=>(h d m).2)
theorem z8Z{k:Nat}{i:Int}:Tr (.int i)=true/\(er (.int i)).depth<=k:=⟨rfl,by simp[er,PyData.depth]⟩
theorem zgE{k:Nat}{x:Str}(h:PyData.strOk x=true):Tr (.str x)=true/\(er (.str x)).depth<=k:=⟨h,by simp[er,PyData.depth]⟩
noncomputable abbrev Fd(lim:Int)(bar:List D):D:= .tup [.int lim, .tup bar]
noncomputable abbrev Sd(ss:List D)(b e:Int)(m:D):D:= .tup [.tup ss, .int b, .int e,m]
theorem zit{i j:Int}{s:Stt}:neD (.int i) (.int j) s= .ok (.bool (!(i==j))) s:=by
 rw[y_ne (by simp[eqC,Mi.plain,er,PyData.canLay0,PyData.depth])];simp only[er,PyData.eqv]
noncomputable def isNon:D->Bool
 | .non=>true
 |_=>false
theorem ziu{d:D}{s:Stt}:isN d .non s= .ok (.bool (isNon d)) s:=by cases d<;>rfl
theorem zgF{d:D}{s:Stt}:notN d .non s= .ok (.bool (!isNon d)) s:=by cases d<;>rfl
theorem ziv{m m':M D}{s:Stt}:mOrX m m' s=(m s).bnd fun d s1=>(truD d s1).bnd fun b=>iteM b (rt d) m':=(rfl)
theorem x_tN{s:Stt}:truD .non s= .ok false s:=(rfl)
noncomputable def B_4:=BA (BA (BA (BA (BA @qg1 @qg2) (BA @qg3 @qg4)) (BA (BA @qg5 @qg6) (BA @qg7 @qg8))) (BA (BA (BA @qg9 @qg10) (BA @qg11 @qg12)) (BA (BA @qh1 @qh2) (BA @qh3 (BA @qh4 @qh5))))) (BA (BA (BA (BA @qh6 @qh7) (BA @qh8 @qh9)) (BA (BA @qh10 @qh11) (BA @x_bC (BA @x_bV @x_c1)))) (BA (BA (BA @x_a1 @x_a2) (BA @x_a3 @x_a4)) (BA (BA @zea @zgv) (BA @zaX (BA @zis @zgw)))))
noncomputable def B_5:=BA (BA (BA (BA @ze9 (BA @zcg @z8W)) (BA @z7a (BA @zch @zci))) (BA (BA @zit (BA @z1N @zgs)) (BA (BA @zig @zih) (BA @zii @ze7)))) (BA (BA (BA @zij (BA @zik @zil)) (BA @ze8 (BA @zim @zin))) (BA (BA @zgt (BA @ziq @zir)) (BA (BA @ziu @zgF) (BA @ziv @x_tN))))
local macro_rules | `(tactic| walk_at "") => `(tactic| (simp (config := { dsimp := false }) only [B_0, B_1, B_3, ↓B_4, B_5, isiD, z08, asg, asgL, List.replicate, Nat.reduceAdd, Nat.reduceSub, String.reduceBEq, Int.reduceBEq]))
theorem z2s{ws:List D}{l:Nat}:cutA ws none (some (l:Int))=ws.take l:=by
 unfold cutA
 rw[HT.sIx_nat,HT.sIx_none,List.drop_zero,Nat.sub_zero]
 rcases Nat.le_total l ws.length with h|h
 ·rw[Nat.min_eq_left h]
 ·rw[Nat.min_eq_right h,List.take_length,List.take_of_length_le h]
theorem z29{ws:List D}{l:Nat}:cutA ws (some (l:Int)) none=ws.drop l:=by
 unfold cutA
 rw[HT.sIx_nat,HT.sIx_none]
 rcases Nat.le_total l ws.length with h|h
 ·rw[Nat.min_eq_left h,List.take_of_length_le (by simp)]
 ·rw[Nat.min_eq_right h,List.drop_length,List.take_nil,List.drop_eq_nil_of_le h]
theorem z1O(t:D)(lo hi:Int)(n:Nat)(h:plain t=true):z0o [t, .int lo, .int hi] n= .ok (.bool (inR lo hi t)) [t, .int lo, .int hi] n:=by
 unfold z0o z4h
 cases t with
 |int i=>
  walk_at ""
  by_cases h1:lo<=i
  ·simp only[h1,decide_true,inR];walk_at ""
  ·simp only[h1,decide_false,inR];walk_at ""
 |dct _ _ _=>simp[Mi.plain] at h
 |obj _ _ _ _=>simp[Mi.plain] at h
 |exc _=>simp[Mi.plain] at h
 |fn _=>simp[Mi.plain] at h
 |fdc _ _=>simp[Mi.plain] at h
 |_=>walk_at "";rfl
theorem zb3(t:D)(lo hi:Int)(n:Nat)(h:plain t=true)(hh:hi<1000000): ∃n',n<=n'/\z1d [t, .int lo, .int hi] n= .ok (.bool (rowB lo hi 1039 t)) [t, .int lo, .int hi] n':=by
 unfold z1d z3f
 walk_at ""
 cases t with
 |tup ds=>
  walk_at ""
  by_cases h1:lo<=(ds.length:Int)
  ·by_cases h2:(ds.length:Int)<=hi
   ·simp only[h1,h2,decide_true,rowB,Bool.true_and]
    walk_at ""
    simp only[h2,decide_true]
    walk_at ""
    obtain⟨n',hn,hc⟩:=z62 (mc:=mVar 0) (me:=z03 z0o [mVar 0,mC (D.int 0),mC (D.int 1039)]) (g:=fun d=> .bool (inR 0 1039 d)) (ds:=ds) (ix:=[]) (s:=⟨[some (.tup ds),some (.int lo),some (.int hi)],[some (.tup ds),some (.int lo),some (.int hi)],n⟩) (s1:=⟨[some (.tup ds),some (.int lo),some (.int hi)],[some (.tup ds),some (.int lo),some (.int hi)],n⟩) (by walk_at "") (by rw[zl];lia) (by
     intro d hd tm m
     refine⟨m,Nat.le_refl _, ?_⟩
     show z03 _ _ ⟨[some d],tm,m⟩=_
     walk_at ""
     rw[z1O d 0 1039 m (z1g (by simpa[Mi.plain] using h) hd)]
     walk_at "")
    refine⟨n'+1,by simp only at hn;lia, ?_⟩
    rw[hc]
    walk_at ""
    rw[ze1 (z4w ds (inR 0 1039))]
    walk_at ""
    simp only[List.all_map]
    rfl
   ·refine⟨n,Nat.le_refl _, ?_⟩
    simp only[h1,h2,decide_true,decide_false,rowB,Bool.true_and,Bool.false_and]
    walk_at ""
    simp only[h2,decide_false]
    walk_at ""
  ·refine⟨n,Nat.le_refl _, ?_⟩
   simp only[h1,decide_false,rowB,Bool.false_and]
   walk_at ""
 |dct _ _ _=>simp[Mi.plain] at h
 |obj _ _ _ _=>simp[Mi.plain] at h
 |exc _=>simp[Mi.plain] at h
 |fn _=>simp[Mi.plain] at h
 |fdc _ _=>simp[Mi.plain] at h
 |_=>refine⟨n,Nat.le_refl _, ?_⟩;walk_at "";rfl
theorem len2{ds:List D}(h:((ds.length:Int)==2)=true): ∃a b,ds=[a,b]:=by
 simp only[beq_iff_eq] at h
 match ds,h with
 |[a,b],_=>exact⟨a,b,rfl⟩
 |[],h=>simp at h
 |[_],h=>simp at h
 |_::_::_::_,h=>simp only[List.length_cons] at h;lia
theorem len4{ds:List D}(h:((ds.length:Int)==4)=true): ∃a b c d,ds=[a,b,c,d]:=by
 simp only[beq_iff_eq] at h
 match ds,h with
 |[a,b,c,d],_=>exact⟨a,b,c,d,rfl⟩
 |[],h=>simp at h
 |[_],h=>simp at h
 |[_,_],h=>simp at h
 |[_,_,_],h=>simp at h
 |_::_::_::_::_::_,h=>simp only[List.length_cons] at h;lia
noncomputable def bsB(len:Int)(b e:D):Bool:=match b,e with
 | .int b, .int e=>decide (0<=b)&&decide (b<=e)&&decide (e<=len)
 |_,_=>false
noncomputable def stB(len:Int)(m:D):Bool:=match m with
 | .non=>true
 | .tup [.int a, .int b]=>decide (0<=a)&&decide (a<b)&&decide (b<=len)&&decide (b<=a+96)
 |_=>false
noncomputable def outS(ss:List D)(m:D):List D:=match m with
 | .tup [.int a, .int b]=>ss.take a.toNat++ss.drop b.toNat
 |_=>ss
noncomputable def inB(bar:List D)(d:D):Bool:=(erL bar).any fun y=>PyData.eqv y (er d)
noncomputable def stdB(lim:Int)(bar:List D)(t:D):Bool:=match t with
 | .tup [.tup ss,b,e,m]=>ss.all (inR 0 1039)&&(bsB ss.length b e&&(stB ss.length m&&(decide (((outS ss m).length:Int)<=lim)&& !((outS ss m).any (inB bar)))))
 |_=>false
theorem z1i{lo hi:Int}{d:D}(h:inR lo hi d=true): ∃i,d= .int i/\lo<=i/\i<=hi:=by
 cases d<;>simp only[inR,Bool.and_eq_true,decide_eq_true_eq] at h<;>first|(cases h;done)|exact⟨_,rfl,h.1,h.2⟩
theorem z6z{lo hi i:Int}(h:inR lo hi (.int i)=false): ¬(lo<=i/\i<=hi):=by
 simp only[inR,Bool.and_eq_false_iff,decide_eq_false_iff_not] at h
 lia
theorem z25{lo hi i:Int}(h:lo<=i/\i<=hi):inR lo hi (.int i)=true:=by simp only[inR,h.1,h.2,decide_true,Bool.and_self]
theorem zb4{len:Int}{ds:List D}(h:((ds.length:Int)==2)=false):stB len (.tup ds)=false:=by
 match ds,h with
 |[a,b],h=>simp at h
 |[],_=>rfl
 |[a],_=>cases a<;>rfl
 |a::b::_::_,_=>cases a<;>cases b<;>rfl
theorem zb5{len:Int}{a b:D}(h:inR 0 len a=false):stB len (.tup [a,b])=false:=by
 cases a with
 |int i=>
  cases b with
  |int j=>
   have:=z6z h
   simp only[stB,Bool.and_eq_false_iff,decide_eq_false_iff_not]
   lia
  |_=>rfl
 |_=>rfl
theorem zgG(m:D)(len:Int)(n:Nat)(h:plain m=true)(hm:isNon m=false):z0A [m, .int len] n= .ok (.bool (stB len m)) [m, .int len] n:=by
 unfold z0A z0Z
 walk_at ""
 cases m with
 |non=>simp[isNon] at hm
 |tup ds=>
  walk_at ""
  cases hq:(((ds.length:Nat):Int)==2) with
  |true=>
   obtain⟨a,b,rfl⟩:=len2 hq
   have ha:plain a=true:=z1g (ds:=[a,b]) (by simpa[Mi.plain] using h) (by simp)
   have hb:plain b=true:=z1g (ds:=[a,b]) (by simpa[Mi.plain] using h) (by simp)
   walk_at ""
   rw[z42 a 0 len n ha]
   walk_at ""
   cases hi:inR 0 len a with
   |false=>walk_at "";rw[zb5 hi]
   |true=>
    obtain⟨i,rfl,h0,h1⟩:=z1i hi
    walk_at ""
    rw[z42 b _ _ n hb]
    walk_at ""
    cases b with
    |int j=>
     simp only[inR,stB,RF.ok.injEq,D.bool.injEq,and_true]
     rw[Bool.eq_iff_iff]
     simp only[Bool.and_eq_true,decide_eq_true_eq]
     split<;>lia
    |_=>rfl
  |false=>
   walk_at ""
   rw[zb4 hq]
 |dct _ _ _=>simp[Mi.plain] at h
 |obj _ _ _ _=>simp[Mi.plain] at h
 |exc _=>simp[Mi.plain] at h
 |fn _=>simp[Mi.plain] at h
 |fdc _ _=>simp[Mi.plain] at h
 |_=>walk_at "";rfl
theorem zgH(m:D)(len:Int)(n:Nat)(h:plain m=true):z1L [m, .int len] n= .ok (.bool (stB len m)) [m, .int len] n:=by
 unfold z1L z2N
 walk_at ""
 cases m with
 |non=>simp only[isNon];walk_at "";rfl
 |tup ds=>
  simp only[isNon]
  walk_at ""
  cases hq:(((ds.length:Nat):Int)==2) with
  |true=>
   obtain⟨a,b,rfl⟩:=len2 hq
   have ha:plain a=true:=z1g (ds:=[a,b]) (by simpa[Mi.plain] using h) (by simp)
   have hb:plain b=true:=z1g (ds:=[a,b]) (by simpa[Mi.plain] using h) (by simp)
   walk_at ""
   rw[z1O a 0 len n ha]
   walk_at ""
   cases hi:inR 0 len a with
   |false=>walk_at "";rw[zb5 hi]
   |true=>
    obtain⟨i,rfl,h0,h1⟩:=z1i hi
    walk_at ""
    rw[z1O b _ _ n hb]
    walk_at ""
    cases hj:inR 0 len b with
    |false=>
     walk_at ""
     cases b with
     |int j=>
      have:=z6z hj
      rw[show stB len (.tup [.int i, .int j])=false by simp only[stB,Bool.and_eq_false_iff,decide_eq_false_iff_not];lia]
     |_=>rfl
    |true=>
     obtain⟨j,rfl,h2,h3⟩:=z1i hj
     walk_at ""
     by_cases hc:1<=j -i
     ·simp only[hc,decide_true]
      walk_at ""
      simp only[stB,RF.ok.injEq,D.bool.injEq,and_true]
      rw[Bool.eq_iff_iff]
      simp only[Bool.and_eq_true,decide_eq_true_eq]
      lia
     ·simp only[hc,decide_false]
      walk_at ""
      rw[show stB len (.tup [.int i, .int j])=false by simp only[stB,Bool.and_eq_false_iff,decide_eq_false_iff_not];lia]
  |false=>
   walk_at ""
   rw[zb4 hq]
 |dct _ _ _=>simp[Mi.plain] at h
 |obj _ _ _ _=>simp[Mi.plain] at h
 |exc _=>simp[Mi.plain] at h
 |fn _=>simp[Mi.plain] at h
 |fdc _ _=>simp[Mi.plain] at h
 |_=>simp only[isNon];walk_at "";rfl
theorem z67{len:Int}{m:D}(h:stB len m=true):m= .non\/∃a b:Nat,m= .tup [.int a, .int b]/\a<b/\(b:Int)<=len/\b<=a+96:=by
 unfold stB at h
 split at h
 ·exact .inl rfl
 ·rename_i a b
  simp only[Bool.and_eq_true,decide_eq_true_eq] at h
  obtain⟨k,rfl⟩:=Int.eq_ofNat_of_zero_le h.1.1.1
  obtain⟨j,rfl⟩:=Int.eq_ofNat_of_zero_le (show 0<=b by lia)
  exact .inr ⟨k,j,rfl,by lia,by lia,by lia⟩
 ·cases h
theorem zb6(ss:List D)(m:D)(n:Nat)(hs:ss.length<=2000)(h:stB ss.length m=true):z0O [.tup ss,m] n= .ok (.tup (outS ss m)) [.tup ss,m] n:=by
 unfold z0O z2I
 walk_at ""
 rcases z67 h with rfl|⟨a,b,rfl,h1,h2,h3⟩
 ·simp only[isNon]
  walk_at ""
  rfl
 ·simp only[isNon]
  walk_at ""
  rw[z2s,z29,z0E (by rw[zl];simp only[List.length_take,List.length_drop];lia)]
  walk_at ""
  simp only[outS,Int.toNat_natCast]
theorem z8r{ss:List D}{m d:D}(h:d∈outS ss m):d∈ss:=by
 unfold outS at h
 split at h
 ·rcases List.mem_append.mp h with h|h
  ·exact List.mem_of_mem_take h
  ·exact List.mem_of_mem_drop h
 ·exact h
theorem zcj{bar:List D}{i:Int}{s:Stt}(g:GdL bar):inD (.int i) (.tup bar) s= .ok (.bool (inB bar (.int i))) s:=y_in rfl (by
 simp only[inC,g.1,g.2,Mi.plain,er,PyData.canLay0,PyData.depth,Bool.and_self,Bool.true_and,decide_eq_true_eq];lia)
theorem zb7(bar ss:List D)(n:Nat)(g:GdL bar)(hs:ss.length<=2000)(hi: ∀d∈ss,inR 0 1039 d=true): ∃n',n<=n'/\z0P [.tup bar, .tup ss] n= .ok (.bool (ss.any (inB bar))) [.tup bar, .tup ss] n':=by
 unfold z0P z2J
 walk_at ""
 obtain⟨n',hn,hc⟩:=z62 (mc:=mVar 1) (me:=mBin (mVar 0) (mVar 1) inD) (g:=fun d=> .bool (inB bar d)) (ds:=ss) (ix:=[0]) (s:=⟨[some (.tup bar),some (.tup ss)],[some (.tup bar),some (.tup ss)],n⟩) (s1:=⟨[some (.tup bar),some (.tup ss)],[some (.tup bar),some (.tup ss)],n⟩) (by walk_at "") (by rw[zl];lia) (by
  intro d hd tm m
  obtain⟨i,rfl,_,_⟩:=z1i (hi d hd)
  refine⟨m,Nat.le_refl _, ?_⟩
  show mBin _ _ _ ⟨[some (.int i),some (.tup bar)],tm,m⟩=_
  walk_at ""
  rw[zcj g]
  rfl)
 refine⟨n'+1,by simp only at hn;lia, ?_⟩
 rw[hc]
 walk_at ""
 rw[zic (z4w ss (inB bar))]
 walk_at ""
 simp only[List.any_map]
 rfl
theorem z90{lim:Int}{bar ds:List D}(h:((ds.length:Int)==4)=false):stdB lim bar (.tup ds)=false:=by
 unfold stdB
 split
 ·rename_i e;cases e;simp at h
 ·rfl
theorem z91{lo hi top:Int}{d:D}(h:rowB lo hi top d=true): ∃ss,d= .tup ss/\lo<=(ss.length:Int)/\(ss.length:Int)<=hi/\∀e∈ss,inR 0 top e=true:=by
 cases d<;>simp only[rowB,Bool.and_eq_true,decide_eq_true_eq,List.all_eq_true] at h<;>first|(cases h;done)|exact⟨_,rfl,h.1.1,h.1.2,h.2⟩
theorem z92{lim hi:Int}{bar:List D}{s b e m:D}(hh:lim+96<=hi)(h:rowB 0 hi 1039 s=false):stdB lim bar (.tup [s,b,e,m])=false:=by
 unfold stdB
 split
 ·rename_i ss b' e' m' he
  simp only[D.tup.injEq,List.cons.injEq,and_true] at he
  obtain⟨rfl,rfl,rfl,rfl⟩:=he
  cases h1:ss.all (inR 0 1039) with
  |false=>rfl
  |true=>
   simp only[rowB,h1,Bool.and_true,Bool.and_eq_false_iff,decide_eq_false_iff_not] at h
   cases h2:stB ss.length m with
   |false=>simp only[Bool.false_and,Bool.and_false]
   |true=>
    have: ¬(((outS ss m).length:Int)<=lim):=by
     rcases z67 h2 with rfl|⟨a,c,rfl,q1,q2,q3⟩
     ·simp only[outS];lia
     ·simp only[outS,List.length_append,List.length_take,List.length_drop,Int.toNat_natCast];lia
    simp only[this,decide_false,Bool.false_and,Bool.and_false]
 ·rfl
theorem z4y{lim:Int}{bar ss:List D}{b e m:D}(h:bsB ss.length b e=false):stdB lim bar (.tup [.tup ss,b,e,m])=false:=by
 simp only[stdB,h,Bool.false_and,Bool.and_false]
theorem z93{lim:Int}{bar ss:List D}{b e m:D}(h:stB ss.length m=false):stdB lim bar (.tup [.tup ss,b,e,m])=false:=by
 simp only[stdB,h,Bool.false_and,Bool.and_false]
theorem z7b{lim:Int}{bar ss:List D}{b e m:D}(h1: ∀d∈ss,inR 0 1039 d=true)(h2:bsB ss.length b e=true)(h3:stB ss.length m=true):stdB lim bar (.tup [.tup ss,b,e,m])=(decide (((outS ss m).length:Int)<=lim)&& !((outS ss m).any (inB bar))):=by
 simp only[stdB,h2,h3,List.all_eq_true.mpr h1,Bool.true_and]
theorem zb8(lim:Int)(bar:List D)(t:D)(n:Nat)(h0:0<=lim)(h1:lim<=60)(gb:GdL bar)(h:plain t=true): ∃n',n<=n'/\z18 [Fd lim bar,t] n= .ok (.bool (stdB lim bar t)) [Fd lim bar,t] n':=by
 unfold z18 z2o
 walk_at ""
 cases t with
 |tup ds=>
  walk_at ""
  cases hq:(((ds.length:Nat):Int)==4) with
  |false=>
   refine⟨n,Nat.le_refl _, ?_⟩
   walk_at ""
   rw[z90 hq]
  |true=>
   obtain⟨s,b,e,m,rfl⟩:=len4 hq
   have hp:=fun d hd=>z1g (ds:=[s,b,e,m]) (d:=d) (by simpa[Mi.plain] using h) hd
   have hs:=hp s (by simp)
   have hb:=hp b (by simp)
   have he:=hp e (by simp)
   have hm:=hp m (by simp)
   walk_at ""
   obtain⟨n1,hn1,e1⟩:=zaY s 0 (lim+96) 1039 n hs (by lia)
   rw[e1]
   walk_at ""
   cases hr:rowB 0 (lim+96) 1039 s with
   |false=>
    refine⟨n1,hn1, ?_⟩
    walk_at ""
    rw[z92 (Int.le_refl _) hr]
   |true=>
    obtain⟨ss,rfl,l0,l1,hi⟩:=z91 hr
    walk_at ""
    rw[z42 b 0 ss.length n1 hb]
    walk_at ""
    cases hbi:inR 0 ss.length b with
    |false=>
     refine⟨n1,hn1, ?_⟩
     walk_at ""
     rw[z4y (by
      cases b<;>cases e<;>first|rfl|skip
      have:=z6z hbi
      simp only[bsB,Bool.and_eq_false_iff,decide_eq_false_iff_not]
      lia)]
    |true=>
     obtain⟨bi,rfl,b0,b1⟩:=z1i hbi
     walk_at ""
     rw[z42 e bi ss.length n1 he]
     walk_at ""
     cases hei:inR bi ss.length e with
     |false=>
      refine⟨n1,hn1, ?_⟩
      walk_at ""
      rw[z4y (by
       cases e<;>first|rfl|skip
       have:=z6z hei
       simp only[bsB,Bool.and_eq_false_iff,decide_eq_false_iff_not]
       lia)]
     |true=>
      obtain⟨ei,rfl,e0,e1⟩:=z1i hei
      have hbs:bsB ss.length (.int bi) (.int ei)=true:=by simp only[bsB,Bool.and_eq_true,decide_eq_true_eq];lia
      walk_at ""
      have rest:stB ss.length m=true->∃n',n<=n'/\((seqS (sAsg (.nm 8) (z03 z0O [(mVar 4),(mVar 7)])) (sRet (z3r (mBin (mCB [(mVar 8)] lenD) (mVar 2) leD) (z7p (z03 z0P [(mVar 3),(mVar 8)]))))) ⟨[some (Fd lim bar),some (.tup [.tup ss, .int bi, .int ei,m]),some (.int lim),some (.tup bar),some (.tup ss),some (.int bi),some (.int ei),some m,none],[some (Fd lim bar),some (.tup [.tup ss, .int bi, .int ei,m])],n1⟩).fin= .ok (.bool (stdB lim bar (.tup [.tup ss, .int bi, .int ei,m]))) [Fd lim bar, .tup [.tup ss, .int bi, .int ei,m]] n':=by
       intro hst
       rw[z7b hi hbs hst]
       walk_at ""
       rw[zb6 ss m n1 (by lia) hst]
       walk_at ""
       by_cases hl:(((outS ss m).length:Int)<=lim)
       ·simp only[hl,decide_true]
        walk_at ""
        obtain⟨n2,hn2,e2⟩:=zb7 bar (outS ss m) n1 gb (by lia) (fun d hd=>hi d (z8r hd))
        rw[e2]
        walk_at ""
        exact⟨n2,by lia,rfl⟩
       ·simp only[hl,decide_false]
        walk_at ""
        exact⟨n1,hn1,rfl⟩
      cases hnm:isNon m with
      |true=>
       have:m= .non:=by cases m<;>simp[isNon] at hnm⊢
       subst this
       obtain⟨n',q1,q2⟩:=rest rfl
       refine⟨n',q1, ?_⟩
       rw[<-q2]
       walk_at ""
      |false=>
       walk_at ""
       rw[zgG m ss.length n1 hm hnm]
       walk_at ""
       cases hst:stB ss.length m with
       |true=>
        obtain⟨n',q1,q2⟩:=rest hst
        refine⟨n',q1, ?_⟩
        rw[<-q2]
        walk_at ""
       |false=>
        refine⟨n1,hn1, ?_⟩
        walk_at ""
        rw[z93 hst]
 |dct _ _ _=>simp[Mi.plain] at h
 |obj _ _ _ _=>simp[Mi.plain] at h
 |exc _=>simp[Mi.plain] at h
 |fn _=>simp[Mi.plain] at h
 |fdc _ _=>simp[Mi.plain] at h
 |_=>refine⟨n,Nat.le_refl _, ?_⟩;walk_at "";rfl
theorem zgI{xs:List D}{k k':Nat}{s:Stt}(g:GdL xs):eqD (.lst k xs) (.lst k' []) s= .ok (.bool xs.isEmpty) s:=by
 rw[y_eq (by simp only[eqC,Mi.plain,er,erL,z2t,PyData.canLay0,PyData.canLayAll0,g.1,g.2,Bool.and_self,Bool.true_and,decide_eq_true_eq,PyData.depth,PyData.depthAll];lia)]
 cases xs<;>simp[er,erL,PyData.eqv,PyData.eqvAll]
theorem zb9{xs ys:List D}(g:GdL xs)(h: ∀d∈ys,d∈xs):GdL ys:=by
 have ga: ∀{zs:List D},GdL zs↔∀d∈zs,Gd d:=by
  intro zs
  induction zs with
  |nil=>exact Iff.intro (fun _ d h=>absurd h List.not_mem_nil) (fun _=>⟨rfl,rfl⟩)
  |cons z zs ih=>rw[GdL.cons,ih];simp only[List.forall_mem_cons]
 exact ga.mpr fun d hd=>ga.mp g d (h d hd)
theorem z0J{xs:List D}(h: ∀d∈xs,inR 0 1039 d=true):GdL xs:=by
 induction xs with
 |nil=>exact⟨rfl,rfl⟩
 |cons z zs ih=>
  rw[GdL.cons]
  obtain⟨i,rfl,_,_⟩:=z1i (h z (by simp))
  exact⟨⟨rfl,rfl⟩,ih fun d hd=>h d (List.mem_cons_of_mem _ hd)⟩
theorem z94{xs:List D}{p:D->Bool}:(xs.filter p).isEmpty= !(xs.any p):=by
 induction xs with
 |nil=>rfl
 |cons z zs ih=>rw[List.filter_cons,List.any_cons];cases p z<;>simp[ih]
theorem zba(lim:Int)(bar:List D)(t:D)(n:Nat)(h0:0<=lim)(h1:lim<=60)(gb:GdL bar)(h:plain t=true): ∃n',n<=n'/\z0n [Fd lim bar,t] n= .ok (.bool (stdB lim bar t)) [Fd lim bar,t] n':=by
 unfold z0n z2q
 walk_at ""
 cases t with
 |tup ds=>
  walk_at ""
  cases hq:(((ds.length:Nat):Int)==4) with
  |false=>
   refine⟨n,Nat.le_refl _, ?_⟩
   walk_at ""
   rw[z90 hq]
  |true=>
   obtain⟨s,b,e,m,rfl⟩:=len4 hq
   have hp:=fun d hd=>z1g (ds:=[s,b,e,m]) (d:=d) (by simpa[Mi.plain] using h) hd
   have hs:=hp s (by simp)
   have hb:=hp b (by simp)
   have he:=hp e (by simp)
   have hm:=hp m (by simp)
   walk_at ""
   obtain⟨n1,hn1,e1⟩:=zb3 s 0 999 n hs (by lia)
   rw[e1]
   walk_at ""
   cases hr:rowB 0 999 1039 s with
   |false=>
    refine⟨n1,hn1, ?_⟩
    walk_at ""
    rw[z92 (by lia) hr]
   |true=>
    obtain⟨ss,rfl,l0,l1,hi⟩:=z91 hr
    walk_at ""
    rw[z1O b 0 ss.length n1 hb]
    walk_at ""
    cases hbi:inR 0 ss.length b with
    |false=>
     refine⟨n1,hn1, ?_⟩
     walk_at ""
     rw[z4y (by
      cases b<;>cases e<;>first|rfl|skip
      have:=z6z hbi
      simp only[bsB,Bool.and_eq_false_iff,decide_eq_false_iff_not]
      lia)]
    |true=>
     obtain⟨bi,rfl,b0,b1⟩:=z1i hbi
     walk_at ""
     rw[z1O e 0 ss.length n1 he]
     walk_at ""
     cases hei:inR 0 ss.length e with
     |false=>
      refine⟨n1,hn1, ?_⟩
      walk_at ""
      rw[z4y (by
       cases e<;>first|rfl|skip
       have:=z6z hei
       simp only[bsB,Bool.and_eq_false_iff,decide_eq_false_iff_not]
       lia)]
     |true=>
      obtain⟨ei,rfl,e0,e1⟩:=z1i hei
      walk_at ""
      by_cases hlt:ei<bi
      ·simp only[hlt,decide_true]
       refine⟨n1,hn1, ?_⟩
       walk_at ""
       rw[z4y (by
        simp only[bsB,Bool.and_eq_false_iff,decide_eq_false_iff_not]
        lia)]
      ·simp only[hlt,decide_false]
       have hbs:bsB ss.length (.int bi) (.int ei)=true:=by simp only[bsB,Bool.and_eq_true,decide_eq_true_eq];lia
       walk_at ""
       rw[zgH m ss.length n1 hm]
       walk_at ""
       cases hst:stB ss.length m with
       |false=>
        refine⟨n1,hn1, ?_⟩
        walk_at ""
        rw[z93 hst]
       |true=>
        rw[z7b hi hbs hst]
        have rest: ∀(a c:Nat),a<=c->outS ss m=ss.take a++ss.drop c->∃n',n<=n'/\((seqS (sAsg (.nm 9) (z0t (mEnm [(mVar 2)]) (.tp [(.nm 0),(.nm 1)]) (mNot (mBoo (z0y (mVar 2) (mVar 0) (mVar 3) leD ltD))) (mVar 1) 2 [7,8]))
 (sRet (z3r (mBin (mCB [(mVar 9)] lenD) (mBin (mVar 0) (mC (.int 0)) ixD) leD) (mBin (z0t (z1j (mVar 9)) (.nm 0) (mBoo (mBin (mVar 0) (mBin (mVar 1) (mC (.int 1)) ixD) inD)) (mVar 0) 1 [0]) (mCB [] lstM) eqD)))) ⟨[some (Fd lim bar),some (.tup [.tup ss, .int bi, .int ei,m]),some (.tup ss),some (.int bi),some (.int ei),some m,some (.int ss.length),some (.int a),some (.int c),none],[some (Fd lim bar),some (.tup [.tup ss, .int bi, .int ei,m])],n1⟩).fin= .ok (.bool (decide (((outS ss m).length:Int)<=lim)&& !((outS ss m).any (inB bar)))) [Fd lim bar, .tup [.tup ss, .int bi, .int ei,m]] n':=by
         intro a c hac ho
         walk_at ""
         obtain⟨n2,hn2,e2⟩:=z7Q (ms:=[mVar 2]) (mt:=mNot (mBoo (z0y (mVar 2) (mVar 0) (mVar 3) leD ltD))) (me:=mVar 1) (p:=fun k _=> !(decide ((a:Int)<=(k:Int))&&decide ((k:Int)<(c:Int)))) (g:=fun _ d=>d) (ds:=ss) (ix:=[7,8]) (σ:=[some (Fd lim bar),some (.tup [.tup ss, .int bi, .int ei,m]),some (.tup ss),some (.int bi),some (.int ei),some m,some (.int ss.length),some (.int a),some (.int c),none]) (tm:=[some (Fd lim bar),some (.tup [.tup ss, .int bi, .int ei,m])]) (n:=n1) (s:=⟨[some (Fd lim bar),some (.tup [.tup ss, .int bi, .int ei,m]),some (.tup ss),some (.int bi),some (.int ei),some m,some (.int ss.length),some (.int a),some (.int c),none],[some (Fd lim bar),some (.tup [.tup ss, .int bi, .int ei,m])],n1⟩) (by walk_at "") (by rw[zl];lia)
          (by
           intro k d hd tm n
           refine⟨n,Nat.le_refl _, ?_⟩
           simp only[List.map_cons,List.map_nil,List.getElem?_cons_zero,List.getElem?_cons_succ,Option.getD_some]
           walk_at ""
           by_cases hk:(a:Int)<=(k:Int)
           ·simp only[hk,decide_true];walk_at ""
           ·simp only[hk,decide_false];walk_at "")
          (by
           intro k d hd hp tm n
           refine⟨n,Nat.le_refl _, ?_⟩
           simp only[List.map_cons,List.map_nil,List.getElem?_cons_zero,List.getElem?_cons_succ,Option.getD_some]
           walk_at "")
         rw[e2,zaW ss a c hac,<-ho]
         walk_at ""
         by_cases hl:(((outS ss m).length:Int)<=lim)
         ·simp only[hl,decide_true]
          walk_at ""
          obtain⟨n3,hn3,e3⟩:=z6y (mc:=mVar 9) (mt:=mBoo (mBin (mVar 0) (mBin (mVar 1) (mC (.int 1)) ixD) inD)) (me:=mVar 0) (p:=inB bar) (g:=fun d=>d) (l:=n2) (ds:=outS ss m) (ix:=[0]) (σ:=[some (Fd lim bar),some (.tup [.tup ss, .int bi, .int ei,m]),some (.tup ss),some (.int bi),some (.int ei),some m,some (.int ss.length),some (.int a),some (.int c),some (.lst n2 (outS ss m))]) (tm:=[some (Fd lim bar),some (.tup [.tup ss, .int bi, .int ei,m])]) (n:=n2+1) (s:=⟨[some (Fd lim bar),some (.tup [.tup ss, .int bi, .int ei,m]),some (.tup ss),some (.int bi),some (.int ei),some m,some (.int ss.length),some (.int a),some (.int c),some (.lst n2 (outS ss m))],[some (Fd lim bar),some (.tup [.tup ss, .int bi, .int ei,m])],n2+1⟩) (by walk_at "") (by rw[zl];lia)
           (by
            intro d hd tm n
            obtain⟨i,rfl,_,_⟩:=z1i (hi d (z8r hd))
            refine⟨n,Nat.le_refl _, ?_⟩
            simp only[List.map_cons,List.map_nil,List.getElem?_cons_zero,List.getElem?_cons_succ,Option.getD_some]
            walk_at ""
            rw[zcj gb]
            walk_at "")
           (by
            intro d hd hp tm n
            refine⟨n,Nat.le_refl _, ?_⟩
            simp only[List.map_cons,List.map_nil,List.getElem?_cons_zero,List.getElem?_cons_succ,Option.getD_some]
            walk_at "")
          rw[e3]
          walk_at ""
          have gx:GdL (List.map (fun d=>d) ((outS ss m).filter (inB bar))):=zb9 (z0J hi) fun d hd=>by
           rw[List.map_id'] at hd
           exact z8r (List.mem_filter.mp hd).1
          rw[zgI gx]
          walk_at ""
          refine⟨n3+1+1,by lia, ?_⟩
          rw[List.map_id',z94]
         ·simp only[hl,decide_false]
          walk_at ""
          exact⟨n2+1,by lia,rfl⟩
        rcases z67 hst with rfl|⟨a,c,rfl,q1,q2,q3⟩
        ·obtain⟨n',q1,q2⟩:=rest 0 0 (Nat.le_refl _) (by simp[outS])
         refine⟨n',q1, ?_⟩
         rw[<-q2]
         walk_at ""
         rfl
        ·obtain⟨n',q1,q2⟩:=rest a c (by lia) (by simp only[outS,Int.toNat_natCast])
         refine⟨n',q1, ?_⟩
         rw[<-q2]
         walk_at ""
         simp only[List.isEmpty_cons,Bool.not_false]
         walk_at ""
 |dct _ _ _=>simp[Mi.plain] at h
 |obj _ _ _ _=>simp[Mi.plain] at h
 |exc _=>simp[Mi.plain] at h
 |fn _=>simp[Mi.plain] at h
 |fdc _ _=>simp[Mi.plain] at h
 |_=>refine⟨n,Nat.le_refl _, ?_⟩;walk_at "";rfl
noncomputable def Sg(ys:List D):Prop:= ∀d∈ys,inR 0 1039 d=true
theorem z26: ∀{ys:List D},Sg ys->z02 ys=[]
 |[],_=>rfl
 |y::ys,h=>by
  obtain⟨i,rfl,_,_⟩:=z1i (h y (by simp))
  simp only[z02,labs,List.nil_append]
  exact z26 fun z hz=>h z (by simp[hz])
theorem z6k{ys:List D}(h:Sg ys): ∀k d,rpL (pl k d) ys=ys:=fun k d=>z4Z ys fun j hj=>by rw[z26 h] at hj;cases hj
theorem zbb{ys:List D}(h:Sg ys)(k:Nat):Sg (ys.take k):=fun d hd=>h d (List.mem_of_mem_take hd)
theorem zck{ys:List D}(h:Sg ys)(k:Nat):Sg (ys.drop k):=fun d hd=>h d (List.mem_of_mem_drop hd)
theorem z68{ys zs:List D}(h:Sg ys)(g:Sg zs):Sg (ys++zs):=fun d hd=>by
 rcases List.mem_append.mp hd with hd|hd
 ·exact h d hd
 ·exact g d hd
theorem zed(l:Nat)(c x far:Int)(n:Nat)(h:Bg c x)(hf:0<=far): ∃r c' x',(0<=r/\r<=1039)/\Bg c' x'/\z4t [.lst l [.int c, .int x], .int far] n= .ok (.int r) [.lst l [.int c', .int x'], .int far] n:=by
 unfold z4t z74
 walk_at ""
 obtain⟨w,c1,x1,hw0,hw1,b1,e1⟩:=z0p l c x 4 n h (by decide) (by decide)
 rw[e1,z0M rfl rfl rfl (by walk_at "") (by walk_at "")]
 walk_at ""
 cases hw:(w==0) with
 |true=>
  walk_at ""
  obtain⟨r,c2,x2,hr0,hr1,b2,e2⟩:=z0p l c1 x1 1040 n b1 (by decide) (by decide)
  rw[e2,z0M rfl rfl rfl (by walk_at "") (by walk_at "")]
  walk_at ""
  exact⟨r,c2,x2,⟨hr0,by lia⟩,b2,rfl⟩
 |false=>
  walk_at ""
  obtain⟨r,c2,x2,hr0,hr1,b2,e2⟩:=z0p l c1 x1 9 n b1 (by decide) (by decide)
  rw[e2,z0M rfl rfl rfl (by walk_at "") (by walk_at "")]
  walk_at ""
  rw[z4x (by decide)]
  walk_at ""
  exact⟨_,c2,x2,⟨Int.emod_nonneg _ (by decide),by have:=Int.emod_lt_of_pos (far+r) (show(0:Int)<1040 by decide);lia⟩,b2,rfl⟩
theorem z5k(l:Nat)(c x far many:Int)(n:Nat)(h:Bg c x)(hn:l<n)(hf:0<=far)(h0:0<=many)(h1:many<=1000): ∃ys c' x' n',Sg ys/\(ys.length:Int)=many/\Bg c' x'/\n<=n'/\z1E [.lst l [.int c, .int x], .int far, .int many] n= .ok (.tup ys) [.lst l [.int c', .int x'], .int far, .int many] n':=by
 unfold z1E z5V
 walk_at ""
 obtain⟨ys,b',n',g1,g2,g3,⟨c3,x3,rfl,h3⟩,g5,g6⟩:=zaU (ms:=[mVar 2]) (me:=z03 z4t [mVar 1,mVar 2]) (N:=many.toNat) (ix:=[0,1]) (s:=⟨[some (.lst l [.int c, .int x]),some (.int far),some (.int many)],[some (.lst l [.int c, .int x]),some (.int far),some (.int many)],n⟩) (l:=l) (n:=n) (j:=many) (σ0:=[some (.lst l [.int c, .int x]),some (.int far),some (.int many)]) (tm0:=[some (.lst l [.int c, .int x]),some (.int far),some (.int many)]) (b:=[.int c, .int x]) (Bg:=fun b=> ∃c x,b=[.int c, .int x]/\Bg c x) (Q:=fun _ d=>inR 0 1039 d=true) (fun _ _ _ _ h=>h)
  (by walk_at "") rfl ⟨by lia,by lia⟩ (by rw[zl];lia) ⟨c,x,rfl,h⟩ hn (by walk_at "") (by walk_at "") (by simp only[List.map_cons,List.map_nil,List.getElem?_cons_zero,List.getElem?_cons_succ,Option.getD_some];walk_at "") (by
   rintro i hi b tm m ⟨c,x,rfl,hb⟩ hm hfr
   obtain⟨r,c',x',hr,h',e'⟩:=zed l c x far m hb hf
   refine⟨.int r,[.int c', .int x'],m,⟨c',x',rfl,h'⟩,z25 hr,Nat.le_refl _,by simp[labs], ?_⟩
   simp only[List.map_cons,List.map_nil,List.getElem?_cons_zero,List.getElem?_cons_succ,Option.getD_some]
   walk_at ""
   rw[e',z0M rfl rfl rfl (by walk_at "") hfr]
   walk_at "")
 rw[g6]
 walk_at ""
 exact⟨ys,c3,x3,n'+1,g2,by lia,h3,by lia,rfl⟩
theorem at4'{a b c d w:Int}(h0:0<=w)(h1:w<4): ∃v,(v=a\/v=b\/v=c\/v=d)/\atI [D.int a,D.int b,D.int c,D.int d] w=some (.int v):=by
 obtain⟨e,he,q⟩:=zgC (ds:=[D.int a,D.int b,D.int c,D.int d]) h0 (by simpa using h1)
 simp only[List.mem_cons,List.not_mem_nil,or_false] at he
 rcases he with rfl|rfl|rfl|rfl
 ·exact⟨a,by simp,q⟩
 ·exact⟨b,by simp,q⟩
 ·exact⟨c,by simp,q⟩
 ·exact⟨d,by simp,q⟩
theorem z95(l:Nat)(c x far:Int)(n:Nat)(h:Bg c x)(hn:l<n)(hf:0<=far): ∃lim bar c' x' n',(0<=lim/\lim<=60)/\Sg bar/\bar.length<=20/\Bg c' x'/\n<=n'/\z2p [.lst l [.int c, .int x], .int far] n= .ok (Fd lim bar) [.lst l [.int c', .int x'], .int far] n':=by
 unfold z2p z5W
 walk_at ""
 obtain⟨w,c1,x1,hw0,hw1,b1,e1⟩:=z0p l c x 4 n h (by decide) (by decide)
 rw[e1,z0M rfl rfl rfl (by walk_at "") (by walk_at "")]
 walk_at ""
 obtain⟨v,hv,ev⟩:=at4' (a:=61) (b:=12) (c:=25) (d:=61) hw0 hw1
 rw[ev]
 walk_at ""
 obtain⟨lim,c2,x2,hl0,hl1,b2,e2⟩:=z0p l c1 x1 v (n+1) b1 (by lia) (by lia)
 rw[e2,z0M rfl rfl rfl (by walk_at "") (by walk_at "")]
 walk_at ""
 obtain⟨u,hu,eu⟩:=at4' (a:=21) (b:=2) (c:=3) (d:=4) hw0 hw1
 rw[eu]
 walk_at ""
 obtain⟨m,c3,x3,hm0,hm1,b3,e3⟩:=z0p l c2 x2 u (n+1+1) b2 (by lia) (by lia)
 rw[e3,z0M rfl rfl rfl (by walk_at "") (by walk_at "")]
 walk_at ""
 obtain⟨ys,c4,x4,n',hy,hl,b4,hn',e4⟩:=z5k l c3 x3 far m (n+1+1) b3 (by lia) hf hm0 (by lia)
 rw[e4,z0M rfl rfl rfl (by walk_at "") (by walk_at "")]
 walk_at ""
 exact⟨lim,ys,c4,x4,n',⟨hl0,by lia⟩,hy,by lia,b4,by lia,rfl⟩
theorem zgJ(f:Nat->Int): ∀(m:Nat) (B:List Int),(∀i j,i<j->j<m->f i≠f j)->(∀k,k<m->f k∈B)->m<=B.length
 |0,_,_,_=>Nat.zero_le _
 |m+1,B,h1,h2=>by
  have hm:=h2 m (Nat.lt_succ_self m)
  have:=zgJ f m (B.erase (f m)) (fun i j a b=>h1 i j a (by lia)) fun k hk=>(List.mem_erase_of_ne (h1 k m hk (Nat.lt_succ_self m))).mpr (h2 k (by lia))
  rw[List.length_erase_of_mem hm] at this
  have:0<B.length:=List.length_pos_of_mem hm
  lia
noncomputable def ofI:D->Int
 | .int i=>i
 |_=>0
theorem zee{bar:List D}{v:Int}(hb:Sg bar)(h:inB bar (.int v)=true):v∈bar.map ofI:=by
 induction bar with
 |nil=>simp[inB,erL] at h
 |cons d ds ih=>
  obtain⟨i,rfl,_,_⟩:=z1i (hb d (by simp))
  simp only[inB,erL,er,List.any_cons,PyData.eqv,Bool.or_eq_true,beq_iff_eq] at h
  rcases h with h|h
  ·simp[ofI,h]
  ·exact List.mem_cons_of_mem _ (ih (fun e he=>hb e (List.mem_cons_of_mem _ he)) h)
theorem zgK{bar:List D}{i:Int}{s:Stt}(g:GdL bar):ninD (.int i) (.tup bar) s= .ok (.bool (!inB bar (.int i))) s:=zi3 rfl (by
 simp only[inC,g.1,g.2,Mi.plain,er,PyData.canLay0,PyData.depth,Bool.and_self,Bool.true_and,decide_eq_true_eq];lia)
noncomputable def z4X(d:D):D:= .int (ofI d %1040)
theorem z4z{lo:Int}{N:Nat}{d:D}(h:d∈z1h lo N): ∃k:Nat,k<N/\d= .int (lo+k):=by
 simp only[z1h,List.mem_map,List.mem_range] at h
 obtain⟨k,hk,rfl⟩:=h
 exact⟨k,hk,rfl⟩
theorem zcl(lim:Int)(bar:List D)(v:Int)(n:Nat)(hb:Sg bar)(hl:bar.length<=20)(hv0:0<=v)(hv1:v<=1039): ∃r n',(0<=r/\r<=1039)/\inB bar (.int r)=false/\n<=n'/\z2g [Fd lim bar, .int v] n= .ok (.int r) [Fd lim bar, .int v] n':=by
 have gb:GdL bar:=z0J hb
 unfold z2g z75
 walk_at ""
 obtain⟨n',h1,h2⟩:=z3L (mi:=z80 [(mVar 1),(mBin (mVar 1) (mC (.int 21)) addD)]) (K:=kRng v 21) (mt:=mBoo (mBin (mBin (mVar 0) (mC (.int 1040)) modD) (mBin (mVar 1) (mC (.int 1)) ixD) ninD)) (me:=mBin (mVar 0) (mC (.int 1040)) modD) (p:=fun d=> !inB bar (z4X d)) (g:=z4X) (items:=z1h v 21) (its:=[]) (ix:=[0]) (s:=⟨[some (Fd lim bar),some (.int v)],[some (Fd lim bar),some (.int v)],n⟩) (σ:=[some (Fd lim bar),some (.int v)]) (tm:=[some (Fd lim bar),some (.int v)]) (n:=n)
  (by
   show bd (mArgs _) rng2 _=_
   walk_at ""
   have:rng2 [.int v, .int (v+21)] ⟨[some (Fd lim bar),some (.int v)],[some (Fd lim bar),some (.int v)],n⟩= .ok (kRng v (v+21 -v).toNat) ⟨[some (Fd lim bar),some (.int v)],[some (Fd lim bar),some (.int v)],n⟩:=by
    simp only[rng2]
    rw[if_pos (by lia)]
    rfl
   rw[this,show(v+21 -v).toNat=21 by lia]
   try rfl) rfl (by simp[z1h,zl]) (fun i rest=>by
    simp only[kRng,z1h,List.getElem?_map]
    by_cases h:i<21
    ·rw[if_pos h,List.getElem?_range h];rfl
    ·rw[if_neg h,List.getElem?_eq_none (by simp;lia)];rfl) (by simp only[z1h,List.length_map,List.length_range];rfl)
  (by
   intro d hd tm m
   obtain⟨k,hk,rfl⟩:=z4z hd
   refine⟨m,Nat.le_refl _, ?_⟩
   simp only[List.map_cons,List.map_nil,List.getElem?_cons_zero,Option.getD_some]
   walk_at ""
   rw[z4x (by decide)]
   walk_at ""
   rw[zgK gb]
   walk_at ""
   rfl)
  (by
   intro d hd hp tm m
   obtain⟨k,hk,rfl⟩:=z4z hd
   refine⟨m,Nat.le_refl _, ?_⟩
   simp only[List.map_cons,List.map_nil,List.getElem?_cons_zero,Option.getD_some]
   walk_at ""
   rw[z4x (by decide)]
   rfl)
 rw[h2]
 walk_at ""
 cases hf:(z1h v 21).filter (fun d=> !inB bar (z4X d)) with
 |nil=>
  exfalso
  have:=zgJ (fun k=>(v+(k:Nat)) %1040) 21 (bar.map ofI) (fun i j hij hj=>by lia) (fun k hk=>by
   refine zee hb ?_
   have:=List.filter_eq_nil_iff.mp hf (.int (v+(k:Nat))) (by simp only[z1h,List.mem_map,List.mem_range];exact⟨k,hk,rfl⟩)
   simpa[z4X,ofI] using this)
  rw[List.length_map] at this
  lia
 |cons d ds=>
  simp only[List.map_cons]
  walk_at ""
  exact⟨_,n'+1,⟨Int.emod_nonneg _ (by decide),by have:=Int.emod_lt_of_pos (ofI d) (show(0:Int)<1040 by decide);lia⟩,by
   have hm:d∈(z1h v 21).filter (fun d=> !inB bar (z4X d)):=by rw[hf];exact List.mem_cons_self ..
   have:=(List.mem_filter.mp hm).2
   simpa[z4X] using this,by lia,rfl⟩
noncomputable def Mk(len:Nat)(m:D):Prop:=m= .non\/∃a b:Nat,m= .tup [.int a, .int b]/\a<b/\b<=len/\b<=a+96
theorem zef{len:Nat}{m:D}(h:Mk len m):labs m=[]:=by
 rcases h with rfl|⟨a,b,rfl,_⟩<;>simp[labs,z02]
theorem zgL{len:Nat}{m:D}(h:Mk len m): ∀k d,rp (pl k d) m=m:=fun k d=>z1n (by rw[zef h];exact List.not_mem_nil)
noncomputable def NB(bar ys:List D):Prop:= ∀d∈ys,inB bar d=false
theorem zeg{bar ys:List D}(h:NB bar ys)(k:Nat):NB bar (ys.take k):=fun d hd=>h d (List.mem_of_mem_take hd)
theorem zeh{bar ys:List D}(h:NB bar ys)(k:Nat):NB bar (ys.drop k):=fun d hd=>h d (List.mem_of_mem_drop hd)
theorem z96{bar ys zs:List D}(h:NB bar ys)(g:NB bar zs):NB bar (ys++zs):=fun d hd=>by
 rcases List.mem_append.mp hd with q|q
 ·exact h d q
 ·exact g d q
structure Stn(lim:Int)(bar ss:List D)(b e:Nat)(m:D):Prop where
 sg:Sg ss
 mkd:Mk ss.length m
 be:b<=e
 el:e<=ss.length
 ln:((outS ss m).length:Int)<=lim
 nb:NB bar (outS ss m)
theorem z97{lim:Int}{bar ys:List D}{σ tm:List (Option D)}{n:Nat}{mc:M D}{s:Stt}(hb:Sg bar)(hl:bar.length<=20)(hy:Sg ys)(hz:ys.length<=1000)(hσ:σ[1]? =some (some (Fd lim bar)))(hc:mc s= .ok (.tup ys) ⟨σ,tm,n⟩):
 ∃zs n',Sg zs/\NB bar zs/\zs.length=ys.length/\n<=n'/\z0t (z1j mc) (.nm 0) (rt true) (z03 z2g [(mVar 1),(mVar 0)]) 1 [1] s= .ok (.lst n' zs) ⟨σ,tm,n'+1⟩:=by
 have fe: ∀d∈ys,∀n,∃r n',(0<=r/\r<=1039)/\inB bar (.int r)=false/\n<=n'/\z2g [Fd lim bar,d] n= .ok (.int r) [Fd lim bar,d] n':=fun d hd n=>by
  obtain⟨i,rfl,h0,h1⟩:=z1i (hy d hd)
  exact zcl lim bar i n hb hl h0 h1
 obtain⟨zs,n',h1,h2,h3⟩:=z9K (mc:=mc) (me:=z03 z2g [(mVar 1),(mVar 0)]) (Q:=fun _ _ y=>inR 0 1039 y=true/\inB bar y=false) (fun _ _ _ _ _ h=>h) (ix:=[1]) hc (by rw[zl];lia) (by
  intro d hd tm n
  obtain⟨r,n',hr,hi,hn,e⟩:=fe d hd n
  refine⟨.int r,n',hn,⟨z25 hr,hi⟩, ?_⟩
  simp only[List.map_cons,List.map_nil,hσ,Option.getD_some]
  walk_at ""
  rw[e]
  walk_at "")
 have h4:=h1.right (P:=fun y=>inR 0 1039 y=true/\inB bar y=false) (fun a b _ h=>h)
 exact⟨zs,n',fun d hd=>(h4 d hd).1,fun d hd=>(h4 d hd).2,h1.len.symm,h2,h3⟩
theorem zbc{zs us:List D}{q:Nat}(h:q<=zs.length):outS (zs.take q++us++zs.drop q) (.tup [.int q, .int ((q:Int)+us.length)])=zs:=by
 have e1:(zs.take q++us++zs.drop q).take q=zs.take q:=by rw[List.append_assoc,List.take_append_of_le_length (by simp;lia),List.take_take,Nat.min_self]
 have e2:(zs.take q++us++zs.drop q).drop (q+us.length)=zs.drop q:=by
  rw[show q+us.length=(zs.take q++us).length by simp;lia,List.drop_left]
 show List.take (Int.toNat q) _++List.drop (Int.toNat ((q:Int)+us.length)) _=zs
 rw[show((q:Int)+us.length).toNat=q+us.length by lia,Int.toNat_natCast,e1,e2,List.take_append_drop]
theorem z8s(l:Nat)(c x lim far:Int)(bar:List D)(n:Nat)(h:Bg c x)(hn:l<n)(hf:0<=far)(hl0:0<=lim)(hl1:lim<=60)(hb:Sg bar)(hl:bar.length<=20): ∃ss,∃b e:Nat,∃m c' x' n',Stn lim bar ss b e m/\Bg c' x'/\n<=n'/\
 z2v [.lst l [.int c, .int x],Fd lim bar, .int far] n= .ok (Sd ss b e m) [.lst l [.int c', .int x'],Fd lim bar, .int far] n':=by
 have rb:=z6k hb
 unfold z2v z3J
 walk_at ""
 obtain⟨w,c1,x1,hw0,hw1,b1,e1⟩:=z0p l c x 8 n h (by decide) (by decide)
 rw[e1,z09 rfl rfl rfl (fun q=>by walk_at "";try simp only[rb];rfl) (fun q=>by walk_at "";try simp only[rb];rfl)]
 try (walk_at "")
 obtain⟨M0,c2,x2,hM0,hM1,b2,e2⟩:=z0p l c1 x1 (lim+1) n b1 (by lia) (by lia)
 rw[e2,z09 rfl rfl rfl (fun q=>by walk_at "";try simp only[rb];rfl) (fun q=>by walk_at "";try simp only[rb];rfl)]
 try (walk_at "")
 rw[z4x (by decide)]
 walk_at ""
 have key: ∃M:Int,0<=M/\M<=lim/\iteS (w %4==0) (sAsg (.nm 4) (mBin (mVar 1) (mC (.int 0)) ixD)) sNx ⟨[some (.lst l [.int c2, .int x2]),some (Fd lim bar),some (.int far),some (.int w),some (.int M0),none,none,none,none,none],[some (.lst l [.int c2, .int x2]),some (Fd lim bar),some (.int far)],n⟩= .nx ⟨[some (.lst l [.int c2, .int x2]),some (Fd lim bar),some (.int far),some (.int w),some (.int M),none,none,none,none,none],[some (.lst l [.int c2, .int x2]),some (Fd lim bar),some (.int far)],n⟩:=by
  cases(w %4==0) with
  |true=>exact⟨lim,hl0,Int.le_refl _,by walk_at ""⟩
  |false=>exact⟨M0,hM0,by lia,by walk_at ""⟩
 obtain⟨M,m0,m1,ek⟩:=key
 rw[ek]
 walk_at ""
 obtain⟨ys,c3,x3,n3,hy,ly,b3,hn3,e3⟩:=z5k l c2 x2 far M n b2 hn hf m0 (by lia)
 have ry:=z6k hy
 obtain⟨zs,n4,hz,nz,lz,hn4,e4⟩:=z97 (lim:=lim) (bar:=bar) (ys:=ys) (σ:=[some (.lst l [.int c3, .int x3]),some (Fd lim bar),some (.int far),some (.int w),some (.int M),none,none,none,none,none]) (tm:=[some (.lst l [.int c3, .int x3]),some (Fd lim bar),some (.int far)]) (n:=n3) (mc:=z03 z1E [(mVar 0),(mVar 2),(mVar 4)]) (s:=⟨[some (.lst l [.int c2, .int x2]),some (Fd lim bar),some (.int far),some (.int w),some (.int M),none,none,none,none,none],[some (.lst l [.int c2, .int x2]),some (Fd lim bar),some (.int far)],n⟩) hb hl hy (by lia) rfl (by
  walk_at ""
  rw[e3,z09 rfl rfl rfl (fun q=>by walk_at "";try simp only[rb];rfl) (fun q=>by walk_at "";try simp only[rb];rfl)]
  try (walk_at ""))
 rw[e4]
 walk_at ""
 have rz:=z6k hz
 rw[z4x (by decide)]
 walk_at ""
 have key2: ∃(ss:List D) (m:D) (o7 o8:Option D) (c' x':Int) (n':Nat),Sg ss/\ss.length<=160/\Mk ss.length m/\((outS ss m).length:Int)<=lim/\NB bar (outS ss m)/\(∀k d,Option.map (rp (pl k d)) o7=o7)/\(∀k d,Option.map (rp (pl k d)) o8=o8)/\Bg c' x'/\n<=n'/\iteS (w %2==0) (seqS (sAsg (.nm 7) (z03 z1E [(mVar 0),(mVar 2),(mBin (mC (.int 1)) (z03 z07 [(mVar 0),(mBin (mCB [(mC (.int 96)),(mC (.int 5)),(mC (.int 9)),(mC (.int 5))] lstM) (mBin (mVar 3) (mC (.int 2)) z6a) ixD)]) addD)]))
  (seqS (sAsg (.nm 8) (z03 z07 [(mVar 0),(mBin (mVar 4) (mC (.int 1)) addD)]))
  (seqS (sAsg (.nm 5) (mBin (mBin (mSl (mVar 5) none (some (mVar 8))) (mVar 7) addD) (mSl (mVar 5) (some (mVar 8)) none) addD))
  (sAsg (.nm 6) (mCB [(mVar 8),(mBin (mVar 8) (mCB [(mVar 7)] lenD) addD)] tupD))))) sNx ⟨[some (.lst l [.int c3, .int x3]),some (Fd lim bar),some (.int far),some (.int w),some (.int M),some (.tup zs),some .non,none,none,none],[some (.lst l [.int c3, .int x3]),some (Fd lim bar),some (.int far)],n4+1⟩= .nx ⟨[some (.lst l [.int c', .int x']),some (Fd lim bar),some (.int far),some (.int w),some (.int M),some (.tup ss),some m,o7,o8,none],[some (.lst l [.int c', .int x']),some (Fd lim bar),some (.int far)],n'⟩:=by
  cases(w %2==0) with
  |false=>exact⟨zs, .non,none,none,c3,x3,n4+1,hz,by lia, .inl rfl,by show(zs.length:Int)<=lim;lia,nz,fun _ _=>rfl,fun _ _=>rfl,b3,by lia,by walk_at ""⟩
  |true=>
   walk_at ""
   rw[zaQ ⟨by decide,by decide⟩]
   walk_at ""
   obtain⟨v,hv,ev⟩:=at4' (a:=96) (b:=5) (c:=9) (d:=5) (w:=w/2) (by lia) (by lia)
   rw[ev]
   walk_at ""
   obtain⟨r,c4,x4,hr0,hr1,b4,e4⟩:=z0p l c3 x3 v (n4+1+1) b3 (by lia) (by lia)
   rw[e4,z09 rfl rfl rfl (fun q=>by walk_at "";try simp only[rb,rz];rfl) (fun q=>by walk_at "";try simp only[rb,rz];rfl)]
   try (walk_at "")
   obtain⟨us,c5,x5,n5,hu,lu,b5,hn5,e5⟩:=z5k l c4 x4 far (1+r) (n4+1+1) b4 (by lia) hf (by lia) (by lia)
   have ru:=z6k hu
   rw[e5,z09 rfl rfl rfl (fun q=>by walk_at "";try simp only[rb,rz];rfl) (fun q=>by walk_at "";try simp only[rb,rz];rfl)]
   try (walk_at "")
   obtain⟨p,c6,x6,hp0,hp1,b6,e6⟩:=z0p l c5 x5 (M+1) n5 b5 (by lia) (by lia)
   rw[e6,z09 rfl rfl rfl (fun q=>by walk_at "";try simp only[rb,rz,ru];rfl) (fun q=>by walk_at "";try simp only[rb,rz,ru];rfl)]
   try (walk_at "")
   obtain⟨q,rfl⟩:=Int.eq_ofNat_of_zero_le hp0
   rw[z2s,z0E (by rw[zl];simp only[List.length_take];lia)]
   walk_at ""
   rw[z29,z0E (by rw[zl];simp only[List.length_append,List.length_take,List.length_drop];lia)]
   walk_at ""
   refine⟨zs.take q++us++zs.drop q, .tup [.int q, .int ((q:Int)+us.length)],some (.tup us),some (.int q),c6,x6,n5,z68 (z68 (zbb hz _) hu) (zck hz _), ?_, .inr ⟨q,q+us.length,by simp,by lia, ?_,by lia⟩, ?_, ?_,fun k d=>by simp only[Option.map_some,zcI,ru],fun k d=>by simp only[Option.map_some,z40],b6,by lia,rfl⟩
   ·simp only[List.length_append,List.length_take,List.length_drop];lia
   ·simp only[List.length_append,List.length_take,List.length_drop];lia
   ·rw[zbc (by lia)];lia
   ·rw[zbc (by lia)];exact nz
 obtain⟨ss,m,o7,o8,c5,x5,n5,hs,ls,hm,hol,hnb,r7,r8,b5,hn5,e5⟩:=key2
 rw[e5]
 have rs:=z6k hs
 have rm:=zgL hm
 walk_at ""
 obtain⟨b,c6,x6,hb0,hb1,b6,e6⟩:=z0p l c5 x5 ((ss.length:Int)+1) n5 b5 (by lia) (by lia)
 rw[e6,z09 rfl rfl rfl (fun q=>by walk_at "";try simp only[rb,rs,rm,r7,r8];rfl) (fun q=>by walk_at "";try simp only[rb];rfl)]
 try (walk_at "")
 obtain⟨e,c7,x7,he0,he1,b7,e7⟩:=z0p l c6 x6 ((ss.length:Int) -b+1) n5 b6 (by lia) (by lia)
 rw[e7,z09 rfl rfl rfl (fun q=>by walk_at "";try simp only[rb,rs,rm,r7,r8];rfl) (fun q=>by walk_at "";try simp only[rb,rs,rm];rfl)]
 try (walk_at "")
 obtain⟨b,rfl⟩:=Int.eq_ofNat_of_zero_le hb0
 obtain⟨e,rfl⟩:=Int.eq_ofNat_of_zero_le he0
 exact⟨ss,b,b+e,m,c7,x7,n5,⟨hs,hm,by lia,by lia,hol,hnb⟩,b7,hn5,rfl⟩
noncomputable abbrev wE(a b:Str)(r:Bool):Prop:= ∀{s:Stt},eqD (.str a) (.str b) s= .ok (.bool r) s
theorem wT:wE "mark" "mark" true/\wE "mark" "unmark" false/\wE "mark" "commit" false/\wE "mark" "choose" false/\wE "mark" "put" false/\wE "mark" "out" false/\wE "mark" "stand" false/\wE "unmark" "mark" false/\wE "unmark" "unmark" true/\wE "unmark" "commit" false/\wE "unmark" "choose" false/\wE "unmark" "put" false/\wE "unmark" "out" false/\wE "unmark" "stand" false/\wE "commit" "mark" false/\wE "commit" "unmark" false/\wE "commit" "commit" true/\wE "commit" "choose" false/\wE "commit" "put" false/\wE "commit" "out" false/\wE "commit" "stand" false/\wE "choose" "mark" false/\wE "choose" "unmark" false/\wE "choose" "commit" false/\wE "choose" "choose" true/\wE "choose" "put" false/\wE "choose" "out" false/\wE "choose" "stand" false/\wE "put" "mark" false/\wE "put" "unmark" false/\wE "put" "commit" false/\wE "put" "choose" false/\wE "put" "put" true/\wE "put" "out" false/\wE "put" "stand" false/\wE "out" "mark" false/\wE "out" "unmark" false/\wE "out" "commit" false/\wE "out" "choose" false/\wE "out" "put" false/\wE "out" "out" true/\wE "out" "stand" false/\wE "stand" "mark" false/\wE "stand" "unmark" false/\wE "stand" "commit" false/\wE "stand" "choose" false/\wE "stand" "put" false/\wE "stand" "out" false/\wE "stand" "stand" true:=by
 and_intros<;>(intro s;rw[zgA ⟨rfl,by decide+kernel⟩ (by decide+kernel)];rfl)
theorem Stn.len{lim:Int}{bar ss:List D}{b e:Nat}{m:D}(h:Stn lim bar ss b e m)(h1:lim<=60):ss.length<=156:=by
 have:=h.ln
 rcases h.mkd with rfl|⟨a,c,rfl,h2,h3,h4⟩
 ·have e:outS ss .non=ss:=rfl
  rw[e] at this;lia
 ·simp only[outS,Int.toNat_natCast,List.length_append,List.length_take,List.length_drop] at this;lia
noncomputable def fI(b:Nat):D->Nat
 | .tup [.int a, .int _]=>a.toNat
 |_=>b
noncomputable def bI(e:Nat):D->Nat
 | .tup [.int _, .int c]=>c.toNat
 |_=>e
noncomputable def rep(ss us:List D)(b e:Nat)(m:D):List D:=ss.take (fI b m)++us++ss.drop (bI e m)
noncomputable def B_6:=BA (BA @List.isEmpty_cons.{0} (BA @c0 @c1)) (BA @c2 (BA @c3 @wT))
local macro_rules | `(tactic| walk_at "") => `(tactic| (simp (config := { dsimp := false }) only [B_0, B_1, B_3, ↓B_4, B_5, B_6, isiD, z08, asg, asgL, List.replicate, Nat.reduceAdd, Nat.reduceSub, String.reduceBEq, Int.reduceBEq]))
theorem zbd{lim:Int}{bar ss us:List D}{b e:Nat}{m:D}(h:Stn lim bar ss b e m)(h1:lim<=60)(hu:us.length<=100)(n:Nat):z1u [Sd ss b e m, .tup us] n= .ok (.tup [.tup (rep ss us b e m), .int (fI b m:Nat), .int ((fI b m:Nat)+us.length)]) [Sd ss b e m, .tup us] n:=by
 have hl:=h.len h1
 unfold z1u z3H
 rcases h.mkd with rfl|⟨a,c,rfl,h2,h3,h4⟩
 ·walk_at ""
  simp only[isNon]
  walk_at ""
  rw[z2s,z0E (by rw[zl];simp only[List.length_take];lia)]
  walk_at ""
  rw[z29,z0E (by rw[zl];simp only[List.length_append,List.length_take,List.length_drop];lia)]
  walk_at ""
  rfl
 ·walk_at ""
  simp only[isNon]
  walk_at ""
  rw[z2s,z0E (by rw[zl];simp only[List.length_take];lia)]
  walk_at ""
  rw[z29,z0E (by rw[zl];simp only[List.length_append,List.length_take,List.length_drop];lia)]
  walk_at ""
  rfl
theorem zcm{lim:Int}{bar ss us:List D}{b e:Nat}{m:D}(h:Stn lim bar ss b e m)(h1:lim<=60)(hu:us.length<=100)(n:Nat):z1K [Sd ss b e m, .tup us] n= .ok (.tup [.tup (rep ss us b e m), .int ((fI b m:Nat)+us.length), .int ((fI b m:Nat)+us.length), .tup [.int (fI b m:Nat), .int ((fI b m:Nat)+us.length)]]) [Sd ss b e m, .tup us] n:=by
 unfold z1K z2K
 walk_at ""
 rw[zbd h h1 hu]
 walk_at ""
theorem zei{lim:Int}{bar ss:List D}{b e:Nat}{m:D}(h:Stn lim bar ss b e m)(h1:lim<=60)(n:Nat):z1k [Sd ss b e m] n=if isNon m then .ex (.exc "NoMark") [Sd ss b e m] n else .ok (.tup [.tup (rep ss [] b e m), .int (fI b m:Nat), .int (fI b m:Nat), .non]) [Sd ss b e m] n:=by
 unfold z1k z20
 walk_at ""
 cases hm:isNon m with
 |true=>walk_at "";rfl
 |false=>
  walk_at ""
  rw[zbd h h1 (by simp)]
  walk_at ""
  rfl
theorem zcM(lim k:Int)(bar us:List D)(n:Nat)(gb:Sg bar)(hu:Sg us)(hl:us.length<=100): ∃n',n<=n'/\z0K [Fd lim bar, .tup us, .int k] n=if us.any (inB bar) then .ex (.exc "Barred") [Fd lim bar, .tup us, .int k] n' else if lim<k then .ex (.exc "TooLong") [Fd lim bar, .tup us, .int k] n' else .ok .non [Fd lim bar, .tup us, .int k] n':=by
 unfold z0K z21
 obtain⟨n',hn,e⟩:=zb7 bar us n (z0J gb) (by lia) hu
 refine⟨n',hn, ?_⟩
 walk_at ""
 rw[e]
 walk_at ""
 cases us.any (inB bar) with
 |true=>walk_at "";rfl
 |false=>
  walk_at ""
  by_cases hk:lim<k
  ·simp only[hk,decide_true];walk_at "";(try simp only[hk,if_true,if_false]);first|done|rfl
  ·simp only[hk,decide_false];walk_at "";(try simp only[hk,if_true,if_false]);first|done|rfl
theorem zej{lim:Int}{bar ss us:List D}{b e:Nat}{m:D}(h:Stn lim bar ss b e m)(h1:lim<=60)(gb:Sg bar)(su:Sg us)(hu:us.length<=100)(n:Nat): ∃n',n<=n'/\z1l [Fd lim bar,Sd ss b e m, .tup us] n=
 if us.any (inB bar) then .ex (.exc "Barred") [Fd lim bar,Sd ss b e m, .tup us] n' else if lim<((rep ss us b e m).length:Int) then .ex (.exc "TooLong") [Fd lim bar,Sd ss b e m, .tup us] n'
 else .ok (.tup [.tup (rep ss us b e m), .int ((fI b m:Nat)+us.length), .int ((fI b m:Nat)+us.length), .non]) [Fd lim bar,Sd ss b e m, .tup us] n':=by
 obtain⟨n',hn,er⟩:=zcM lim (rep ss us b e m).length bar us n gb su hu
 refine⟨n',hn, ?_⟩
 unfold z1l z22
 walk_at ""
 rw[zbd h h1 hu]
 walk_at ""
 rw[er]
 cases us.any (inB bar) with
 |true=>simp only[if_true];walk_at "";rfl
 |false=>
  simp only[Bool.false_eq_true,if_false]
  by_cases hk:lim<((rep ss us b e m).length:Int)
  ·simp only[hk,if_true];walk_at "";rfl
  ·simp only[hk,if_false];walk_at ""
theorem zek(ss:List D)(b e b' e':Int)(m:D)(n:Nat):z1m [Sd ss b e m, .int b', .int e'] n=if(ss.length:Int)<e' then .ex (.exc "NoPlace") [Sd ss b e m, .int b', .int e'] n else .ok (.tup [.tup ss, .int b', .int e',m]) [Sd ss b e m, .int b', .int e'] n:=by
 unfold z1m z23
 walk_at ""
 by_cases hk:(ss.length:Int)<e'
 ·simp only[hk,decide_true];walk_at "";(try simp only[hk,if_true,if_false]);first|done|rfl
 ·simp only[hk,decide_false];walk_at "";(try simp only[hk,if_true,if_false]);first|done|rfl
theorem k7{a b c d e f g:D}{σ tm:List (Option D)}{n:Nat}:lstM [a,b,c,d,e,f,g] ⟨σ,tm,n⟩= .ok (.lst n [a,b,c,d,e,f,g]) ⟨σ,tm,n+1⟩:=z8m (by rw[zl];simp)
theorem c1d{a:D}{ws:List D}:cutA (a::ws) (some (1:Int)) none=ws:=z29 (l:=1)
theorem ziw{l:Nat}{ds:List D}{k:Bool}{bs:List Bool}{s:Stt}(h:z1s ds=some bs):cntD (.lst l ds) [.bool k] s= .ok (.int (bs.count k:Nat)) s:=by simp only[cntD,h];rfl
theorem zix{l:Nat}{ds:List D}{k:Bool}{bs:List Bool}{s:Stt}(h:z1s ds=some bs)(hk:k∈bs):idxD (.lst l ds) [.bool k] s= .ok (.int (bs.idxOf k:Nat)) s:=by simp only[idxD,h,if_pos hk];rfl
theorem zgM{a b c:Option D}:z3n 3 [a,b,c]=[a,b,c]:=rfl
local macro_rules | `(tactic| walk_at "") => `(tactic| (simp (config := { dsimp := false }) only [B_0, B_1, B_3, ↓B_4, B_5, B_6, c1d, isiD, z08, asg, asgL, List.replicate, Nat.reduceAdd, Nat.reduceSub, String.reduceBEq, Int.reduceBEq]))
theorem z4A(c w:Str)(k:Nat)(h:tb_0 c=some (k==0)/\tb_1 c=some (k==1)/\tb_2 c=some (k==2)/\tb_3 c=some (k==3)/\tb_4 c=some (k==4)/\tb_5 c=some (k==5)/\tb_6 c=some (k==6)/\tb_7 c=some false/\tb_8 c=some false/\tb_9 c=some true)(hw:([.str "deed", .str "standing", .str "place", .str "mark", .str "marked", .str "barred", .str "long"]:List D)[k]? =some (.str w))(hk:k<7)(n:Nat): ∃n',n<=n'/\z4u [.exc c] n= .ok (.str w) [.exc c] n':=by
 obtain⟨h0,h1,h2,h3,h4,h5,h6,h7,h8,h9⟩:=h
 have hc:(List.count true [k==0,k==1,k==2,k==3,k==4,k==5,k==6])=1:=by(rcases(show k=0\/k=1\/k=2\/k=3\/k=4\/k=5\/k=6 by lia) with rfl|rfl|rfl|rfl|rfl|rfl|rfl)<;>decide
 have hi:(List.idxOf true [k==0,k==1,k==2,k==3,k==4,k==5,k==6])=k:=by(rcases(show k=0\/k=1\/k=2\/k=3\/k=4\/k=5\/k=6 by lia) with rfl|rfl|rfl|rfl|rfl|rfl|rfl)<;>decide
 have hm:true∈[k==0,k==1,k==2,k==3,k==4,k==5,k==6]:=by(rcases(show k=0\/k=1\/k=2\/k=3\/k=4\/k=5\/k=6 by lia) with rfl|rfl|rfl|rfl|rfl|rfl|rfl)<;>decide
 refine⟨n+2+2,by lia, ?_⟩
 unfold z4u z77
 walk_at ""
 rw[z41 h0]
 walk_at ""
 rw[z41 h1]
 walk_at ""
 rw[z41 h2]
 walk_at ""
 rw[z41 h3]
 walk_at ""
 rw[z41 h4]
 walk_at ""
 rw[z41 h5]
 walk_at ""
 rw[z41 h6]
 walk_at ""
 rw[zcH (by rw[zl];simp)]
 walk_at ""
 rw[z41 h7]
 walk_at ""
 rw[z41 h8]
 walk_at ""
 rw[ziw (bs:=[k==0,k==1,k==2,k==3,k==4,k==5,k==6]) rfl,hc]
 walk_at ""
 rw[z41 h9]
 walk_at ""
 rw[k7]
 walk_at ""
 rw[zix (bs:=[k==0,k==1,k==2,k==3,k==4,k==5,k==6]) rfl hm,hi]
 walk_at ""
 rw[z63 (by lia) (by simpa using hw)]
 walk_at ""
theorem zel(n:Nat):z0j [.tup [.str "unmark"]] n= .ok (.bool true) [.tup [.str "unmark"]] n:=by
 unfold z0j z19
 walk_at ""
 try rfl
theorem zem(S:D)(n:Nat):z0j [.tup [.str "stand",S]] n= .ok (.bool true) [.tup [.str "stand",S]] n:=by
 unfold z0j z19
 walk_at ""
 try rfl
theorem rowY{us:List D}{a b:Int}(su:Sg us)(h0:a<=us.length)(h1:us.length<=b):rowB a b 1039 (.tup us)=true:=by
 simp only[rowB,Bool.and_eq_true,decide_eq_true_eq,List.all_eq_true];exact⟨⟨by lia,by lia⟩,su⟩
theorem zcN{w:Str}(hw:w= "mark" \/w= "commit")(us:List D)(n:Nat)(su:Sg us)(h0:1<=us.length)(h1:us.length<=96): ∃n',n<=n'/\z0j [.tup [.str w, .tup us]] n= .ok (.bool true) [.tup [.str w, .tup us]] n':=by
 obtain⟨n',hn,er⟩:=zaY (.tup us) 1 96 1039 n (z0J su).1 (by decide)
 refine⟨n',hn, ?_⟩
 rw[rowY su (by lia) (by lia)] at er
 unfold z0j z19
 rcases hw with rfl|rfl
 all_goals
  walk_at ""
  rw[er]
  walk_at ""
theorem zen(b e:Int)(n:Nat)(h0:0<=b)(h1:b<=e)(h2:e<=999):z0j [.tup [.str "choose", .int b, .int e]] n= .ok (.bool true) [.tup [.str "choose", .int b, .int e]] n:=by
 unfold z0j z19
 walk_at ""
 rw[z42 _ _ _ _ rfl,z25 ⟨h0,by lia⟩]
 walk_at ""
 rw[z42 _ _ _ _ rfl,z25 ⟨h1,h2⟩]
 walk_at ""
theorem zeo(p:Int)(us:List D)(n:Nat)(h0:0<=p)(h1:p<=999)(su:Sg us)(u0:1<=us.length)(u1:us.length<=24): ∃n',n<=n'/\z0j [.tup [.str "put", .int p, .tup us]] n= .ok (.bool true) [.tup [.str "put", .int p, .tup us]] n':=by
 obtain⟨n',hn,er⟩:=zaY (.tup us) 1 24 1039 n (z0J su).1 (by decide)
 refine⟨n',hn, ?_⟩
 rw[rowY su (by lia) (by lia)] at er
 unfold z0j z19
 walk_at ""
 rw[z42 _ _ _ _ rfl,z25 ⟨h0,h1⟩]
 walk_at ""
 rw[er]
 walk_at ""
theorem zep(p k:Int)(n:Nat)(h0:0<=p)(h1:p<=999)(k0:1<=k)(k1:k<=60):z0j [.tup [.str "out", .int p, .int k]] n= .ok (.bool true) [.tup [.str "out", .int p, .int k]] n:=by
 unfold z0j z19
 walk_at ""
 rw[z42 _ _ _ _ rfl,z25 ⟨h0,h1⟩]
 walk_at ""
 rw[z42 _ _ _ _ rfl,z25 ⟨k0,k1⟩]
 walk_at ""
noncomputable def Nx(c:Str):Prop:=c= "NoPlace" \/c= "NoMark" \/c= "Marked" \/c= "Barred" \/c= "TooLong"
noncomputable def nmN:Option Str->Str
 |none=> "done"
 |some c=>if c= "NoPlace" then "place" else if c= "NoMark" then "mark" else if c= "Marked" then "marked" else if c= "Barred" then "barred" else "long"
noncomputable def z8t(r S:D):Option Str->D
 |none=> .tup [.str "done",r]
 |some c=> .tup [.str (nmN (some c)),S]
noncomputable def Nm(o:Option Str):Prop:= ∀c,o=some c->Nx c
theorem kbN{c:Str}(h:Nx c):z2c c=true:=by
 rcases h with rfl|rfl|rfl|rfl|rfl<;>decide+kernel
theorem ziy{c:Str}(h:Nx c)(n:Nat): ∃n',n<=n'/\z4u [.exc c] n= .ok (.str (nmN (some c))) [.exc c] n':=by
 rcases h with rfl|rfl|rfl|rfl|rfl
 ·exact z4A "NoPlace" "place" 2 (by decide+kernel) rfl (by decide) n
 ·exact z4A "NoMark" "mark" 3 (by decide+kernel) rfl (by decide) n
 ·exact z4A "Marked" "marked" 4 (by decide+kernel) rfl (by decide) n
 ·exact z4A "Barred" "barred" 5 (by decide+kernel) rfl (by decide) n
 ·exact z4A "TooLong" "long" 6 (by decide+kernel) rfl (by decide) n
noncomputable def reN(ts:List D)(n:Nat)(r:D):Option Str->RF
 |none=> .ok r ts n
 |some c=> .ex (.exc c) ts n
theorem z3M{F S d r:D}{n n1:Nat}{o:Option Str}(ho:Nm o)(h:z0m [F,S,d] n=reN [F,S,d] n1 r o): ∃n',n1<=n'/\z0I [F,S,d] n= .ok (z8t r S o) [F,S,d] n':=by
 cases o with
 |none=>
  refine⟨n1,Nat.le_refl _, ?_⟩
  unfold z0I z5j
  walk_at ""
  rw[h]
  simp only[reN]
  walk_at ""
  rfl
 |some c=>
  obtain⟨n2,hn,en⟩:=ziy (ho c rfl) n1
  refine⟨n2,hn, ?_⟩
  unfold z0I z5j
  walk_at ""
  rw[h]
  simp only[reN]
  walk_at ""
  rw[zio (kbN (ho c rfl)),zgM]
  walk_at ""
  rw[en]
  walk_at ""
  rfl
noncomputable def unN(m:D):Option Str:=if isNon m then some "NoMark" else none
noncomputable def comN(lim:Int)(bar us rs:List D):Option Str:=if us.any (inB bar) then some "Barred" else if lim<(rs.length:Int) then some "TooLong" else none
noncomputable def choN(ss:List D)(e':Int):Option Str:=if(ss.length:Int)<e' then some "NoPlace" else none
theorem zeq{lim:Int}{bar ss us:List D}{b e:Nat}{m:D}(h:Stn lim bar ss b e m)(h1:lim<=60)(su:Sg us)(u0:1<=us.length)(u1:us.length<=96)(n:Nat): ∃n',n<=n'/\
 z0m [Fd lim bar,Sd ss b e m, .tup [.str "mark", .tup us]] n= .ok (.tup [.tup (rep ss us b e m), .int ((fI b m:Nat)+us.length), .int ((fI b m:Nat)+us.length), .tup [.int (fI b m:Nat), .int ((fI b m:Nat)+us.length)]]) [Fd lim bar,Sd ss b e m, .tup [.str "mark", .tup us]] n':=by
 obtain⟨n',hn,ed⟩:=zcN (.inl rfl) us n su u0 u1
 refine⟨n',hn, ?_⟩
 unfold z0m z1D
 walk_at ""
 rw[ed]
 walk_at ""
 rw[zcm h h1 (by lia)]
 walk_at ""
theorem zgN{lim:Int}{bar ss:List D}{b e:Nat}{m:D}(h:Stn lim bar ss b e m)(h1:lim<=60)(n:Nat):
 z0m [Fd lim bar,Sd ss b e m, .tup [.str "unmark"]] n=if isNon m then .ex (.exc "NoMark") [Fd lim bar,Sd ss b e m, .tup [.str "unmark"]] n else .ok (.tup [.tup (rep ss [] b e m), .int (fI b m:Nat), .int (fI b m:Nat), .non]) [Fd lim bar,Sd ss b e m, .tup [.str "unmark"]] n:=by
 unfold z0m z1D
 walk_at ""
 rw[zel]
 walk_at ""
 rw[zei h h1]
 cases isNon m with
 |true=>simp only[if_true];walk_at "";rfl
 |false=>simp only[Bool.false_eq_true,if_false];walk_at ""
theorem zgO{lim:Int}{bar ss us:List D}{b e:Nat}{m:D}(h:Stn lim bar ss b e m)(h1:lim<=60)(gb:Sg bar)(su:Sg us)(u0:1<=us.length)(u1:us.length<=96)(n:Nat): ∃n',n<=n'/\
 z0m [Fd lim bar,Sd ss b e m, .tup [.str "commit", .tup us]] n=
 if us.any (inB bar) then .ex (.exc "Barred") [Fd lim bar,Sd ss b e m, .tup [.str "commit", .tup us]] n' else if lim<((rep ss us b e m).length:Int) then .ex (.exc "TooLong") [Fd lim bar,Sd ss b e m, .tup [.str "commit", .tup us]] n'
 else .ok (.tup [.tup (rep ss us b e m), .int ((fI b m:Nat)+us.length), .int ((fI b m:Nat)+us.length), .non]) [Fd lim bar,Sd ss b e m, .tup [.str "commit", .tup us]] n':=by
 obtain⟨n1,hn,ed⟩:=zcN (.inr rfl) us n su u0 u1
 obtain⟨n2,hn2,ec⟩:=zej h h1 gb su (by lia) n1
 refine⟨n2,by lia, ?_⟩
 unfold z0m z1D
 walk_at ""
 rw[ed]
 walk_at ""
 rw[ec]
 cases us.any (inB bar) with
 |true=>simp only[if_true];walk_at "";rfl
 |false=>
  simp only[Bool.false_eq_true,if_false]
  by_cases hk:lim<((rep ss us b e m).length:Int)
  ·simp only[hk,if_true];walk_at "";rfl
  ·simp only[hk,if_false];walk_at ""
theorem zgP(F:D)(ss:List D)(b e b' e':Int)(m:D)(h0:0<=b')(h1:b'<=e')(h2:e'<=999)(n:Nat):z0m [F,Sd ss b e m, .tup [.str "choose", .int b', .int e']] n=if(ss.length:Int)<e' then .ex (.exc "NoPlace") [F,Sd ss b e m, .tup [.str "choose", .int b', .int e']] n else .ok (.tup [.tup ss, .int b', .int e',m]) [F,Sd ss b e m, .tup [.str "choose", .int b', .int e']] n:=by
 unfold z0m z1D
 walk_at ""
 rw[zen b' e' n h0 h1 h2]
 walk_at ""
 rw[zek]
 by_cases hk:(ss.length:Int)<e'
 ·simp only[hk,if_true];walk_at "";rfl
 ·simp only[hk,if_false];walk_at ""
noncomputable def mvOn(p k a:Nat):Nat:=if p<a then a+k else a
noncomputable def mvB(p k a:Nat):Nat:=if p+k<=a then a -k else min a p
noncomputable def mkOn(p k:Nat):D->D
 | .tup [.int a, .int c]=>if(p:Int)<=a then .tup [.int (a+k), .int (c+k)] else .tup [.int a, .int c]
 |d=>d
noncomputable def mkB(p k:Nat):D->D
 | .tup [.int a, .int c]=> .tup [.int (mvB p k a.toNat:Nat), .int (mvB p k c.toNat:Nat)]
 |d=>d
noncomputable def midB(p:Nat):D->Bool
 | .tup [.int a, .int c]=>decide (a<(p:Int))&&decide ((p:Int)<c)
 |_=>false
noncomputable def lapB(p k:Nat):D->Bool
 | .tup [.int a, .int c]=>decide (a<((p:Int)+k))&&decide ((p:Int)<c)
 |_=>false
noncomputable def putN(lim:Int)(bar ss us:List D)(p:Nat)(m:D):Option Str:=
 if(ss.length:Int)<(p:Int) then some "NoPlace" else if midB p m=true then some "Marked" else if us.any (inB bar)=true then some "Barred" else if lim<((outS ss m).length:Int)+us.length then some "TooLong" else none
noncomputable def putS(ss us:List D)(p b e:Nat)(m:D):D:= .tup [.tup (ss.take p++us++ss.drop p), .int (mvOn p us.length b:Nat), .int (mvOn p us.length e:Nat),mkOn p us.length m]
noncomputable def outN(ss:List D)(p k:Nat)(m:D):Option Str:=
 if(ss.length:Int)<(p:Int)+k then some "NoPlace" else if lapB p k m=true then some "Marked" else none
noncomputable def outR(ss:List D)(p k b e:Nat)(m:D):D:= .tup [.tup (ss.take p++ss.drop (p+k)), .int (mvB p k b:Nat), .int (mvB p k e:Nat),mkB p k m]
theorem zgQ{len:Nat}{m:D}(h:Mk len m):stB len m=true:=by
 rcases h with rfl|⟨a,b,rfl,h1,h2,h3⟩
 ·rfl
 ·simp only[stB,Bool.and_eq_true,decide_eq_true_eq];lia
theorem z6A(a p k n:Nat):z1Q [.int a, .int p, .int k] n= .ok (.int (mvOn p k a:Nat)) [.int a, .int p, .int k] n:=by
 unfold z1Q z3I mvOn
 walk_at ""
 by_cases h:p<a
 ·have h':(p:Int)<(a:Int):=by lia
  simp only[h',decide_true,if_pos h]
  walk_at ""
  rfl
 ·have h': ¬(p:Int)<(a:Int):=by lia
  simp only[h',decide_false,if_neg h]
  walk_at ""
theorem z43(a p k n:Nat):z0C [.int a, .int p, .int k] n= .ok (.int (mvB p k a:Nat)) [.int a, .int p, .int k] n:=by
 unfold z0C z2L mvB
 walk_at ""
 by_cases h:p+k<=a
 ·have h':(p:Int)+(k:Int)<=(a:Int):=by lia
  simp only[h',decide_true,if_pos h]
  walk_at ""
  rw[show(a:Int) -(k:Int)=((a -k:Nat):Int) by lia]
 ·have h': ¬(p:Int)+(k:Int)<=(a:Int):=by lia
  simp only[h',decide_false,if_neg h]
  walk_at ""
  rw[show(if(p:Int)<(a:Int) then(p:Int) else(a:Int))=((min a p:Nat):Int) by split<;>lia]
theorem zer{lim:Int}{bar ss us:List D}{b e:Nat}{m:D}(h:Stn lim bar ss b e m)(h1:lim<=60)(gb:Sg bar)(su:Sg us)(hu:us.length<=24)(p n:Nat): ∃n',n<=n'/\z2e [Fd lim bar,Sd ss b e m, .int p, .tup us] n=
 reN [Fd lim bar,Sd ss b e m, .int p, .tup us] n' (putS ss us p b e m) (putN lim bar ss us p m):=by
 have hl:=h.len h1
 obtain⟨n',hn,er⟩:=zcM lim (((outS ss m).length:Int)+us.length) bar us n gb su (by lia)
 have ef:=zb6 ss m n (by lia) (zgQ h.mkd)
 unfold z2e z3d putN
 by_cases hp:(ss.length:Int)<(p:Int)
 ·refine⟨n,Nat.le_refl _, ?_⟩
  walk_at ""
  simp only[hp,decide_true,if_true,reN]
  walk_at ""
  rfl
 ·simp only[hp,if_false]
  rcases h.mkd with rfl|⟨a,c,rfl,h2,h3,h4⟩
  ·refine⟨n',hn, ?_⟩
   walk_at ""
   simp only[hp,decide_false]
   walk_at ""
   simp only[isNon]
   walk_at ""
   rw[ef]
   walk_at ""
   rw[er]
   simp only[midB,Bool.false_eq_true,if_false]
   cases us.any (inB bar) with
   |true=>simp only[if_true,reN];walk_at "";rfl
   |false=>
    simp only[Bool.false_eq_true,if_false]
    by_cases hk:lim<((outS ss .non).length:Int)+us.length
    ·simp only[hk,if_true,reN];walk_at "";rfl
    ·simp only[hk,if_false,reN];walk_at ""
     simp only[isNon]
     walk_at ""
     rw[z2s,z0E (by rw[zl];simp only[List.length_take];lia)]
     walk_at ""
     rw[z29,z0E (by rw[zl];simp only[List.length_append,List.length_take,List.length_drop];lia)]
     walk_at ""
     rw[z6A]
     walk_at ""
     rw[z6A]
     walk_at ""
     rfl
  ·by_cases ha:((a:Int)<(p:Int))/\((p:Int)<(c:Int))
   ·refine⟨n,Nat.le_refl _, ?_⟩
    have hm:midB p (.tup [.int a, .int c])=true:=by simp only[midB,ha.1,ha.2,decide_true,Bool.and_self]
    rw[if_pos hm]
    walk_at ""
    simp only[hp,decide_false]
    walk_at ""
    simp only[isNon]
    walk_at ""
    simp only[ha.1,decide_true]
    walk_at ""
    simp only[ha.2,decide_true]
    walk_at ""
    rfl
   ·refine⟨n',hn, ?_⟩
    have hm:midB p (.tup [.int a, .int c])=false:=by
     simp only[midB,Bool.and_eq_false_iff,decide_eq_false_iff_not]
     rcases Decidable.not_and_iff_not_or_not.mp ha with z|z
     ·exact .inl z
     ·exact .inr z
    rw[if_neg (by rw[hm];exact Bool.false_ne_true)]
    walk_at ""
    simp only[hp,decide_false]
    walk_at ""
    simp only[isNon]
    walk_at ""
    have hm2:(∀s:Stt,True):=fun _=>trivial
    by_cases ha1:(a:Int)<(p:Int)
    ·have ha2: ¬(p:Int)<(c:Int):=fun z=>ha ⟨ha1,z⟩
     simp only[ha1,decide_true]
     walk_at ""
     simp only[ha2,decide_false]
     walk_at ""
     rw[ef]
     walk_at ""
     rw[er]
     cases us.any (inB bar) with
     |true=>simp only[if_true,reN];walk_at "";rfl
     |false=>
      simp only[Bool.false_eq_true,if_false]
      by_cases hk:lim<((outS ss (.tup [.int a, .int c])).length:Int)+us.length
      ·simp only[hk,if_true,reN];walk_at "";rfl
      ·simp only[hk,if_false,reN];walk_at ""
       simp only[isNon]
       walk_at ""
       have ha3: ¬(p:Int)<=(a:Int):=by lia
       simp only[ha3,decide_false]
       walk_at ""
       rw[z2s,z0E (by rw[zl];simp only[List.length_take];lia)]
       walk_at ""
       rw[z29,z0E (by rw[zl];simp only[List.length_append,List.length_take,List.length_drop];lia)]
       walk_at ""
       rw[z6A]
       walk_at ""
       rw[z6A]
       walk_at ""
       simp only[putS,mkOn,ha3,if_false]
    ·simp only[ha1,decide_false]
     walk_at ""
     rw[ef]
     walk_at ""
     rw[er]
     cases us.any (inB bar) with
     |true=>simp only[if_true,reN];walk_at "";rfl
     |false=>
      simp only[Bool.false_eq_true,if_false]
      by_cases hk:lim<((outS ss (.tup [.int a, .int c])).length:Int)+us.length
      ·simp only[hk,if_true,reN];walk_at "";rfl
      ·simp only[hk,if_false,reN];walk_at ""
       simp only[isNon]
       walk_at ""
       have ha3:(p:Int)<=(a:Int):=by lia
       simp only[ha3,decide_true]
       walk_at ""
       rw[z2s,z0E (by rw[zl];simp only[List.length_take];lia)]
       walk_at ""
       rw[z29,z0E (by rw[zl];simp only[List.length_append,List.length_take,List.length_drop];lia)]
       walk_at ""
       rw[z6A]
       walk_at ""
       rw[z6A]
       walk_at ""
       simp only[putS,mkOn,ha3,if_true]
theorem zcO{lim:Int}{bar ss us:List D}{p:Nat}{m:D}:Nm (putN lim bar ss us p m):=by
 intro c h;unfold putN at h;(repeat' split at h)<;>cases h<;>simp[Nx]
theorem zcP{ss:List D}{p k:Nat}{m:D}:Nm (outN ss p k m):=by
 intro c h;unfold outN at h;(repeat' split at h)<;>cases h<;>simp[Nx]
theorem zgR{m:D}:Nm (unN m):=by
 intro c h;unfold unN at h;(repeat' split at h)<;>cases h<;>simp[Nx]
theorem zcQ{lim:Int}{bar us rs:List D}:Nm (comN lim bar us rs):=by
 intro c h;unfold comN at h;(repeat' split at h)<;>cases h<;>simp[Nx]
theorem zcR{ss:List D}{e:Int}:Nm (choN ss e):=by
 intro c h;unfold choN at h;(repeat' split at h)<;>cases h<;>simp[Nx]
theorem zes{lim:Int}{bar ss:List D}{b e:Nat}{m:D}(h:Stn lim bar ss b e m)(h1:lim<=60)(p k n:Nat):z2f [Sd ss b e m, .int p, .int k] n=
 reN [Sd ss b e m, .int p, .int k] n (outR ss p k b e m) (outN ss p k m):=by
 have hl:=h.len h1
 unfold z2f z3e outN
 have hpk:(p:Int)+(k:Int)=((p+k:Nat):Int):=by lia
 by_cases hp:(ss.length:Int)<(p:Int)+(k:Int)
 ·walk_at ""
  simp only[hp,decide_true,if_true,reN]
  walk_at ""
  rfl
 ·simp only[hp,if_false]
  rcases h.mkd with rfl|⟨a,c,rfl,h2,h3,h4⟩
  ·walk_at ""
   simp only[hp,decide_false]
   walk_at ""
   simp only[isNon]
   walk_at ""
   simp only[isNon]
   walk_at ""
   simp only[lapB,Bool.false_eq_true,if_false,reN]
   rw[hpk,z2s,z29,z0E (by rw[zl];simp only[List.length_take,List.length_drop];lia)]
   walk_at ""
   rw[z43]
   walk_at ""
   rw[z43]
   walk_at ""
   rfl
  ·by_cases ha:((a:Int)<(p:Int)+(k:Int))/\((p:Int)<(c:Int))
   ·have hm:lapB p k (.tup [.int a, .int c])=true:=by simp only[lapB,ha.1,ha.2,decide_true,Bool.and_self]
    rw[if_pos hm]
    walk_at ""
    simp only[hp,decide_false]
    walk_at ""
    simp only[isNon]
    walk_at ""
    simp only[ha.1,decide_true]
    walk_at ""
    simp only[ha.2,decide_true]
    walk_at ""
    rfl
   ·have hm:lapB p k (.tup [.int a, .int c])=false:=by
     simp only[lapB,Bool.and_eq_false_iff,decide_eq_false_iff_not]
     rcases Decidable.not_and_iff_not_or_not.mp ha with z|z
     ·exact .inl z
     ·exact .inr z
    rw[if_neg (by rw[hm];exact Bool.false_ne_true)]
    simp only[reN]
    have fin: ∀s3:Stt,True:=fun _=>trivial
    by_cases ha1:(a:Int)<(p:Int)+(k:Int)
    ·have ha2: ¬(p:Int)<(c:Int):=fun z=>ha ⟨ha1,z⟩
     walk_at ""
     simp only[hp,decide_false]
     walk_at ""
     simp only[isNon]
     walk_at ""
     simp only[ha1,decide_true]
     walk_at ""
     simp only[ha2,decide_false]
     walk_at ""
     simp only[isNon]
     walk_at ""
     rw[z43]
     walk_at ""
     rw[z43]
     walk_at ""
     rw[hpk,z2s,z29,z0E (by rw[zl];simp only[List.length_take,List.length_drop];lia)]
     walk_at ""
     rw[z43]
     walk_at ""
     rw[z43]
     walk_at ""
     rfl
    ·walk_at ""
     simp only[hp,decide_false]
     walk_at ""
     simp only[isNon]
     walk_at ""
     simp only[ha1,decide_false]
     walk_at ""
     simp only[isNon]
     walk_at ""
     rw[z43]
     walk_at ""
     rw[z43]
     walk_at ""
     rw[hpk,z2s,z29,z0E (by rw[zl];simp only[List.length_take,List.length_drop];lia)]
     walk_at ""
     rw[z43]
     walk_at ""
     rw[z43]
     walk_at ""
     rfl
theorem zgS{lim:Int}{bar ss us:List D}{b e:Nat}{m:D}(h:Stn lim bar ss b e m)(h1:lim<=60)(gb:Sg bar)(su:Sg us)(u0:1<=us.length)(hu:us.length<=24)(p n:Nat)(hp:p<=999): ∃n',n<=n'/\z0m [Fd lim bar,Sd ss b e m, .tup [.str "put", .int p, .tup us]] n=
 reN [Fd lim bar,Sd ss b e m, .tup [.str "put", .int p, .tup us]] n' (putS ss us p b e m) (putN lim bar ss us p m):=by
 obtain⟨n1,hn,ed⟩:=zeo p us n (by lia) (by lia) su u0 hu
 obtain⟨n2,hn2,ec⟩:=zer h h1 gb su hu p n1
 refine⟨n2,by lia, ?_⟩
 unfold z0m z1D
 walk_at ""
 rw[ed]
 walk_at ""
 rw[ec]
 cases putN lim bar ss us p m with
 |none=>simp only[reN];walk_at ""
 |some c=>simp only[reN];walk_at "";rfl
theorem zgT{lim:Int}{bar ss:List D}{b e:Nat}{m F:D}(h:Stn lim bar ss b e m)(h1:lim<=60)(p k n:Nat)(hp:p<=999)(k0:1<=k)(k1:k<=60):z0m [F,Sd ss b e m, .tup [.str "out", .int p, .int k]] n=
 reN [F,Sd ss b e m, .tup [.str "out", .int p, .int k]] n (outR ss p k b e m) (outN ss p k m):=by
 unfold z0m z1D
 walk_at ""
 rw[zep p k n (by lia) (by lia) (by lia) (by lia)]
 walk_at ""
 rw[zes h h1]
 cases outN ss p k m with
 |none=>simp only[reN];walk_at ""
 |some c=>simp only[reN];walk_at "";rfl
theorem zcS: ∀{ds:List D},(∀d∈ds,Gd d)->GdL ds
 |[],_=>⟨rfl,rfl⟩
 |d::ds,h=>GdL.cons.mpr ⟨h d (List.mem_cons_self ..),zcS fun x hx=>h x (List.mem_cons_of_mem _ hx)⟩
theorem z6B{xs:List D}{k k':Nat}{s:Stt}(g:GdL xs):neD (.lst k xs) (.lst k' []) s= .ok (.bool (!xs.isEmpty)) s:=by
 rw[y_ne (by simp only[eqC,Mi.plain,er,PyData.canLay0,PyData.depth,g.1,g.2,z2t,erL,PyData.canLayAll0,PyData.depthAll];simp)]
 cases xs<;>simp[er,erL,PyData.eqv,PyData.eqvAll]
theorem z7R{xs:List D}{p:D->Bool}:(!((xs.filter p).map fun d=>d).isEmpty)=xs.any p:=by
 rw[List.map_id'',z94,Bool.not_not];exact fun _=>rfl
noncomputable def outW(p q:Int):D->Bool
 | .int j=> !(decide (p<=j)&&decide (j<q))
 |_=>false
theorem zbe(a:Nat):z1h 0 (a+1)=z1h 0 a++[.int a]:=by
 simp only[z1h,List.range_succ,List.map_append,List.map_cons,List.map_nil,Int.zero_add]
theorem z98(p k:Nat): ∀a:Nat,((z1h 0 a).filter (outW p ((p:Int)+k))).length=mvB p k a
 |0=>by simp[z1h,mvB]
 |a+1=>by
  rw[zbe,List.filter_append,List.length_append,z98 p k a]
  have e:(([D.int a]:List D).filter (outW p ((p:Int)+k))).length=if p<=a/\a<p+k then 0 else 1:=by
   rw[List.filter_cons]
   by_cases h:p<=a/\a<p+k
   ·have h1:(p:Int)<=(a:Int):=by lia
    have h2:(a:Int)<(p:Int)+k:=by lia
    simp[outW,h1,h2,h]
   ·have h':outW p ((p:Int)+k) (.int a)=true:=by
     simp only[outW,Bool.not_eq_true',Bool.and_eq_false_iff,decide_eq_false_iff_not];lia
    simp[h',h]
  rw[e]
  unfold mvB
  split<;>(split<;>(split<;>lia))
theorem zbf(p k:Nat): ∀(a N:Nat),((z1h (a:Int) N).any fun d=> !outW p ((p:Int)+k) d)=(decide (a<p+k/\p<a+N/\0<N/\0<k))
 |a,0=>by simp[z1h]
 |a,N+1=>by
  have e:z1h (a:Int) (N+1)=z1h (a:Int) N++[.int ((a+N:Nat):Int)]:=by
   simp only[z1h,List.range_succ,List.map_append,List.map_cons,List.map_nil,Int.natCast_add]
  rw[e,List.any_append,zbf p k a N]
  simp only[List.any_cons,List.any_nil,Bool.or_false,outW,Bool.not_not]
  rw[Bool.eq_iff_iff]
  simp only[Bool.or_eq_true,Bool.and_eq_true,decide_eq_true_eq]
  lia
theorem z7c(a p k n:Nat)(ha:a<=1000): ∃n',n<=n'/\z1e [.int a, .int p, .int ((p:Int)+k)] n= .ok (.int (mvB p k a:Nat)) [.int a, .int p, .int ((p:Int)+k)] n':=by
 obtain⟨n',hn,e⟩:=z9H (ms:=[mVar 0]) (mt:=mNot (mBoo (z0y (mVar 1) (mVar 0) (mVar 2) leD ltD))) (me:=mVar 0) (p:=outW p ((p:Int)+k)) (g:=fun d=>d) (N:=a) (ix:=[1,2]) (s:=⟨[some (.int a),some (.int p),some (.int ((p:Int)+k))],[some (.int a),some (.int p),some (.int ((p:Int)+k))],n⟩)
  (σ:=[some (.int a),some (.int p),some (.int ((p:Int)+k))]) (tm:=[some (.int a),some (.int p),some (.int ((p:Int)+k))]) (n:=n) (by walk_at "") (by rw[zl];lia) (by
   intro d hd tm m
   obtain⟨j,_,rfl⟩:=z4z hd
   refine⟨m,Nat.le_refl _, ?_⟩
   simp only[List.map_cons,List.map_nil,List.getElem?_cons_zero,List.getElem?_cons_succ,Option.getD_some]
   walk_at ""
   by_cases h1:(p:Int)<=(j:Int)
   ·simp only[h1,decide_true]
    walk_at ""
    simp only[outW,h1,decide_true,Bool.true_and]
   ·simp only[h1,decide_false]
    walk_at ""
    simp only[outW,h1,decide_false,Bool.false_and]
    try rfl) (by
   intro d hd _ tm m
   exact⟨m,Nat.le_refl _,rfl⟩)
 refine⟨n'+1,by lia, ?_⟩
 unfold z1e z78
 walk_at ""
 rw[e]
 walk_at ""
 rw[List.map_id',z98]
theorem zet{lim:Int}{bar ss:List D}{b e:Nat}{m:D}(h:Stn lim bar ss b e m)(h1:lim<=60)(p k n:Nat)(k0:1<=k): ∃n',n<=n'/\z5Y [Sd ss b e m, .int p, .int ((p:Int)+k)] n=
 .ok (z8t (outR ss p k b e m) (Sd ss b e m) (outN ss p k m)) [Sd ss b e m, .int p, .int ((p:Int)+k)] n':=by
 have hl:=h.len h1
 have hbe:=h.be
 have hel:=h.el
 unfold z5Y z8j outN
 by_cases hp:(ss.length:Int)<(p:Int)+(k:Int)
 ·refine⟨n,Nat.le_refl _, ?_⟩
  walk_at ""
  simp only[hp,decide_true,if_true,z8t]
  walk_at ""
  rfl
 ·simp only[hp,if_false]
  have fin: ∀(m':D) (n1:Nat),∃n',n1<=n'/\(seqS (sAsg (.nm 7) (mCB [(z0t (mEnm [(mVar 3)]) (.tp [(.nm 0),(.nm 1)]) (mNot (mBoo (z0y (mVar 2) (mVar 0) (mVar 3) leD ltD))) (mVar 1) 2 [1,2])] tupF))
   (sRet (mCB [(mC (.str ("done" :Str))),(mCB [(mVar 7),(z03 z1e [(mVar 4),(mVar 1),(mVar 2)]),(z03 z1e [(mVar 5),(mVar 1),(mVar 2)]),(mVar 6)] tupD)] tupD))) ⟨[some (Sd ss b e m),some (.int p),some (.int ((p:Int)+k)),some (.tup ss),some (.int b),some (.int e),some m',none],[some (Sd ss b e m),some (.int p),some (.int ((p:Int)+k))],n1⟩
   = .rt (.tup [.str "done", .tup [.tup (ss.take p++ss.drop (p+k)), .int (mvB p k b:Nat), .int (mvB p k e:Nat),m']]) ⟨[some (Sd ss b e m),some (.int p),some (.int ((p:Int)+k)),some (.tup ss),some (.int b),some (.int e),some m',some (.tup (ss.take p++ss.drop (p+k)))],[some (Sd ss b e m),some (.int p),some (.int ((p:Int)+k))],n'⟩:=by
   intro m' n1
   obtain⟨n2,hn2,e2⟩:=z7Q (ms:=[mVar 3]) (mt:=mNot (mBoo (z0y (mVar 2) (mVar 0) (mVar 3) leD ltD))) (me:=mVar 1) (p:=fun k' _=> !(decide ((p:Int)<=(k':Int))&&decide ((k':Int)<((p+k:Nat):Int)))) (g:=fun _ d=>d) (ds:=ss) (ix:=[1,2])
    (s:=⟨[some (Sd ss b e m),some (.int p),some (.int ((p:Int)+k)),some (.tup ss),some (.int b),some (.int e),some m',none],[some (Sd ss b e m),some (.int p),some (.int ((p:Int)+k))],n1⟩)
    (σ:=[some (Sd ss b e m),some (.int p),some (.int ((p:Int)+k)),some (.tup ss),some (.int b),some (.int e),some m',none]) (tm:=[some (Sd ss b e m),some (.int p),some (.int ((p:Int)+k))]) (n:=n1) (by walk_at "") (by rw[zl];lia)
    (by
     intro k' d hd tm n
     refine⟨n,Nat.le_refl _, ?_⟩
     simp only[List.map_cons,List.map_nil,List.getElem?_cons_zero,List.getElem?_cons_succ,Option.getD_some,show((p+k:Nat):Int)=(p:Int)+(k:Int) by lia]
     walk_at ""
     by_cases w1:(p:Int)<=(k':Int)
     ·simp only[w1,decide_true]
      walk_at ""
     ·simp only[w1,decide_false]
      walk_at "")
    (by intro k' d hd _ tm n;exact⟨n,Nat.le_refl _,rfl⟩)
   obtain⟨n3,hn3,e3⟩:=z7c b p k (n2+1) (by lia)
   obtain⟨n4,hn4,e4⟩:=z7c e p k n3 (by lia)
   refine⟨n4,by lia, ?_⟩
   walk_at ""
   rw[e2,zaW ss p (p+k) (by lia)]
   walk_at ""
   rw[e3]
   walk_at ""
   rw[e4]
   walk_at ""
  rcases h.mkd with rfl|⟨a,c,rfl,h2,h3,h4⟩
  ·obtain⟨n',hn,ef⟩:=fin .non n
   refine⟨n',hn, ?_⟩
   generalize (seqS (sAsg (.nm 7) (mCB [(z0t (mEnm [(mVar 3)]) (.tp [(.nm 0),(.nm 1)]) (mNot (mBoo (z0y (mVar 2) (mVar 0) (mVar 3) leD ltD))) (mVar 1) 2 [1,2])] tupF))
    (sRet (mCB [(mC (.str ("done" :Str))),(mCB [(mVar 7),(z03 z1e [(mVar 4),(mVar 1),(mVar 2)]),(z03 z1e [(mVar 5),(mVar 1),(mVar 2)]),(mVar 6)] tupD)] tupD)))=mr at ef⊢
   walk_at ""
   simp only[hp,decide_false]
   walk_at ""
   simp only[isNon]
   walk_at ""
   rw[ef]
   walk_at ""
   rfl
  ·obtain⟨n2,hn2,e2⟩:=z3L (mi:=z80 [(mBin (mVar 6) (mC (.int 0)) ixD),(mBin (mVar 6) (mC (.int 1)) ixD)]) (K:=kRng a (c -a)) (mt:=mBoo (z0y (mVar 1) (mVar 0) (mVar 2) leD ltD)) (me:=mVar 0) (p:=fun d=> !outW p ((p:Int)+k) d) (g:=fun d=>d) (items:=z1h a (c -a)) (its:=[]) (ix:=[1,2])
    (s:=⟨[some (.tup [.tup ss, .int b, .int e, .tup [.int a, .int c]]),some (.int p),some (.int ((p:Int)+k)),some (.tup ss),some (.int b),some (.int e),some (.tup [.int a, .int c]),none],[some (.tup [.tup ss, .int b, .int e, .tup [.int a, .int c]]),some (.int p),some (.int ((p:Int)+k))],n⟩)
    (σ:=[some (.tup [.tup ss, .int b, .int e, .tup [.int a, .int c]]),some (.int p),some (.int ((p:Int)+k)),some (.tup ss),some (.int b),some (.int e),some (.tup [.int a, .int c]),none]) (tm:=[some (.tup [.tup ss, .int b, .int e, .tup [.int a, .int c]]),some (.int p),some (.int ((p:Int)+k))]) (n:=n)
    (by
     show bd (mArgs _) rng2 _=_
     walk_at ""
     simp only[rng2]
     rw[if_pos (by lia),show((c:Int) -(a:Int)).toNat=c -a by lia]
     rfl) rfl (by simp only[z1h,List.length_map,List.length_range];rw[zl];lia) (zgu a (c -a)) (by simp only[z1h,List.length_map,List.length_range];rfl)
    (by
     intro d hd tm m
     obtain⟨j,_,rfl⟩:=z4z hd
     refine⟨m,Nat.le_refl _, ?_⟩
     simp only[List.map_cons,List.map_nil,List.getElem?_cons_zero,List.getElem?_cons_succ,Option.getD_some]
     walk_at ""
     by_cases w1:(p:Int)<=(a:Int)+(j:Int)
     ·simp only[w1,decide_true]
      walk_at ""
      simp only[outW,w1,decide_true,Bool.true_and,Bool.not_not]
     ·simp only[w1,decide_false]
      walk_at ""
      simp only[outW,w1,decide_false,Bool.false_and,Bool.not_not])
    (by intro d hd _ tm m;exact⟨m,Nat.le_refl _,rfl⟩)
   have hgd:GdL (((z1h a (c -a)).filter fun d=> !outW p ((p:Int)+k) d).map fun d=>d):=by
    rw[List.map_id']
    exact zcS fun d hd=>by obtain⟨j,_,rfl⟩:=z4z (List.mem_filter.mp hd).1;exact⟨rfl,rfl⟩
   have hany:(!(((z1h a (c -a)).filter fun d=> !outW p ((p:Int)+k) d).map fun d=>d).isEmpty)=decide ((a:Int)<(p:Int)+k/\(p:Int)<c):=by
    rw[z7R,zbf,decide_eq_decide]
    lia
   by_cases ha:((a:Int)<(p:Int)+(k:Int))/\((p:Int)<(c:Int))
   ·refine⟨n2+1+1,by lia, ?_⟩
    have hm:lapB p k (.tup [.int a, .int c])=true:=by simp only[lapB,ha.1,ha.2,decide_true,Bool.and_self]
    rw[if_pos hm]
    walk_at ""
    simp only[hp,decide_false]
    walk_at ""
    simp only[isNon]
    walk_at ""
    rw[e2]
    walk_at ""
    rw[z6B hgd,hany,decide_eq_true ha]
    walk_at ""
    rfl
   ·have hm:lapB p k (.tup [.int a, .int c])=false:=by
     simp only[lapB,Bool.and_eq_false_iff,decide_eq_false_iff_not]
     rcases Decidable.not_and_iff_not_or_not.mp ha with z|z
     ·exact .inl z
     ·exact .inr z
    rw[if_neg (by rw[hm];exact Bool.false_ne_true)]
    obtain⟨n3,hn3,e3⟩:=z7c a p k (n2+1+1) (by lia)
    obtain⟨n4,hn4,e4⟩:=z7c c p k n3 (by lia)
    obtain⟨n',hn,ef⟩:=fin (.tup [.int (mvB p k a:Nat), .int (mvB p k c:Nat)]) n4
    refine⟨n',by lia, ?_⟩
    generalize (seqS (sAsg (.nm 7) (mCB [(z0t (mEnm [(mVar 3)]) (.tp [(.nm 0),(.nm 1)]) (mNot (mBoo (z0y (mVar 2) (mVar 0) (mVar 3) leD ltD))) (mVar 1) 2 [1,2])] tupF))
     (sRet (mCB [(mC (.str ("done" :Str))),(mCB [(mVar 7),(z03 z1e [(mVar 4),(mVar 1),(mVar 2)]),(z03 z1e [(mVar 5),(mVar 1),(mVar 2)]),(mVar 6)] tupD)] tupD)))=mr at ef⊢
    walk_at ""
    simp only[hp,decide_false]
    walk_at ""
    simp only[isNon]
    walk_at ""
    rw[e2]
    walk_at ""
    rw[z6B hgd,hany,decide_eq_false ha]
    walk_at ""
    rw[e3]
    walk_at ""
    rw[e4]
    walk_at ""
    rw[ef]
    walk_at ""
    rfl
noncomputable def shG(p k:Int):D->D
 | .int a=> .int (a+k*(if decide (p<a)=true then 1 else 0))
 |d=>d
theorem zgU(p k a:Nat):shG p k (.int a)= .int (mvOn p k a:Nat):=by
 unfold shG mvOn
 by_cases h:p<a
 ·have h':(p:Int)<(a:Int):=by lia
  simp only[h',decide_true,if_true,if_pos h];congr 1;(try lia)
 ·have h': ¬(p:Int)<(a:Int):=by lia
  simp only[h',decide_false,Bool.false_eq_true,if_false,if_neg h,Int.mul_zero,Int.add_zero]
noncomputable def putT:MS:=(seqS (sIf (mBoo (mBin (z0t (z1j (mVar 3)) (.nm 0) (mBoo (mBin (mVar 0) (mBin (mVar 1) (mC (.int 1)) ixD) inD)) (mVar 0) 1 [0]) (mCB [] lstM) neD)) (sRet (mCB [(mC (.str ("barred" :Str))),(mVar 1)] tupD)) sNx)
 (seqS (sIf (mBoo (mBin (mBin (mVar 9) (mVar 8) addD) (mBin (mVar 0) (mC (.int 0)) ixD) gtD)) (sRet (mCB [(mC (.str ("long" :Str))),(mVar 1)] tupD)) sNx)
 (seqS (sAsg (.tp [(.nm 5),(.nm 6)]) (z0t (z1j (mCB [(mVar 5),(mVar 6)] tupD)) (.nm 0) (rt true) (mBin (mVar 0) (mBin (mVar 1) (mCB [(mBin (mVar 0) (mVar 2) gtD)] intD) mulD) addD) 1 [8,2]))
 (sRet (mCB [(mC (.str ("done" :Str))),(mCB [(mBin (mBin (mSl (mVar 4) none (some (mVar 2))) (mVar 3) addD) (mSl (mVar 4) (some (mVar 2)) none) addD),(mVar 5),(mVar 6),(mVar 7)] tupD)] tupD)))))
theorem zbg(lim:Int)(bar ss us:List D)(b e p:Nat)(S m':D)(fr:Int)(n:Nat)(gb:Sg bar)(su:Sg us)(hu:us.length<=24)(hl:ss.length<=156): ∃n',n<=n'/\
 (putT ⟨[some (Fd lim bar),some S,some (.int p),some (.tup us),some (.tup ss),some (.int b),some (.int e),some m',some (.int us.length),some (.int fr)],[some (Fd lim bar),some S,some (.int p),some (.tup us)],n⟩).fin
  = .ok (if us.any (inB bar)=true then .tup [.str "barred",S] else if lim<fr+us.length then .tup [.str "long",S] else .tup [.str "done", .tup [.tup (ss.take p++us++ss.drop p), .int (mvOn p us.length b:Nat), .int (mvOn p us.length e:Nat),m']]) [Fd lim bar,S, .int p, .tup us] n':=by
 obtain⟨n1,hn1,ec⟩:=z4W (mc:=mVar 3) (mt:=mBoo (mBin (mVar 0) (mBin (mVar 1) (mC (.int 1)) ixD) inD)) (me:=mVar 0) (p:=inB bar) (g:=fun d=>d) (ds:=us) (ix:=[0])
  (σ:=[some (Fd lim bar),some S,some (.int p),some (.tup us),some (.tup ss),some (.int b),some (.int e),some m',some (.int us.length),some (.int fr)]) (tm:=[some (Fd lim bar),some S,some (.int p),some (.tup us)]) (n:=n)
  (s:=⟨[some (Fd lim bar),some S,some (.int p),some (.tup us),some (.tup ss),some (.int b),some (.int e),some m',some (.int us.length),some (.int fr)],[some (Fd lim bar),some S,some (.int p),some (.tup us)],n⟩)
  (by walk_at "") (by rw[zl];lia) (by
   intro d hd tm n
   obtain⟨i,rfl,_,_⟩:=z1i (su d hd)
   refine⟨n,Nat.le_refl _, ?_⟩
   simp only[List.map_cons,List.map_nil,List.getElem?_cons_zero,Option.getD_some]
   walk_at ""
   rw[zcj (z0J gb)]
   walk_at "") (by intro d hd _ tm n;exact⟨n,Nat.le_refl _,rfl⟩)
 obtain⟨n2,hn2,e2⟩:=z4W (mc:=mCB [(mVar 5),(mVar 6)] tupD) (mt:=rt true) (me:=(mBin (mVar 0) (mBin (mVar 1) (mCB [(mBin (mVar 0) (mVar 2) gtD)] intD) mulD) addD)) (p:=fun _=>true) (g:=shG p us.length) (ds:=[.int b, .int e]) (ix:=[8,2])
  (σ:=[some (Fd lim bar),some S,some (.int p),some (.tup us),some (.tup ss),some (.int b),some (.int e),some m',some (.int us.length),some (.int fr)]) (tm:=[some (Fd lim bar),some S,some (.int p),some (.tup us)]) (n:=n1+1+1)
  (s:=⟨[some (Fd lim bar),some S,some (.int p),some (.tup us),some (.tup ss),some (.int b),some (.int e),some m',some (.int us.length),some (.int fr)],[some (Fd lim bar),some S,some (.int p),some (.tup us)],n1+1+1⟩)
  (by walk_at "") (by rw[zl];simp) (by intro d hd tm n;exact⟨n,Nat.le_refl _,rfl⟩) (by
   intro d hd _ tm n
   have hd': ∃a:Nat,d= .int a:=by
    simp only[List.mem_cons,List.not_mem_nil,or_false] at hd
    rcases hd with rfl|rfl
    ·exact⟨b,rfl⟩
    ·exact⟨e,rfl⟩
   obtain⟨a,rfl⟩:=hd'
   refine⟨n,Nat.le_refl _, ?_⟩
   simp only[List.map_cons,List.map_nil,List.getElem?_cons_zero,List.getElem?_cons_succ,Option.getD_some]
   walk_at ""
   rw[z9D (.inl ⟨by lia,by lia⟩)]
   walk_at ""
   rfl)
 have hg:GdL ((us.filter (inB bar)).map fun d=>d):=by
  rw[List.map_id']
  exact zb9 (z0J su) fun d hd=>(List.mem_filter.mp hd).1
 unfold putT
 cases ha:us.any (inB bar) with
 |true=>
  refine⟨n1+1+1,by lia, ?_⟩
  walk_at ""
  rw[ec]
  walk_at ""
  rw[z6B hg,z7R,ha]
  walk_at ""
  rfl
 |false=>
  by_cases hk:lim<fr+us.length
  ·refine⟨n1+1+1,by lia, ?_⟩
   walk_at ""
   rw[ec]
   walk_at ""
   rw[z6B hg,z7R,ha]
   walk_at ""
   simp only[hk,decide_true]
   walk_at ""
   simp only[Bool.false_eq_true,if_false,if_true]
  ·refine⟨n2+1,by lia, ?_⟩
   walk_at ""
   rw[ec]
   walk_at ""
   rw[z6B hg,z7R,ha]
   walk_at ""
   simp only[hk,decide_false]
   walk_at ""
   rw[e2]
   rw[List.filter_eq_self.mpr (by simp)]
   walk_at ""
   rw[zgU,zgU]
   rw[z2s,z0E (by rw[zl];simp only[List.length_take];lia)]
   walk_at ""
   rw[z29,z0E (by rw[zl];simp only[List.length_append,List.length_take,List.length_drop];lia)]
   walk_at ""
   simp only[Bool.false_eq_true,if_false]
theorem zeu{lim:Int}{bar ss us:List D}{b e:Nat}{m:D}(h:Stn lim bar ss b e m)(h1:lim<=60)(gb:Sg bar)(su:Sg us)(hu:us.length<=24)(p n:Nat): ∃n',n<=n'/\z5Z [Fd lim bar,Sd ss b e m, .int p, .tup us] n=
 .ok (z8t (putS ss us p b e m) (Sd ss b e m) (putN lim bar ss us p m)) [Fd lim bar,Sd ss b e m, .int p, .tup us] n':=by
 have hl:=h.len h1
 have e0:z8k=seqS (sAsg (.tp [(.nm 4),(.nm 5),(.nm 6),(.nm 7)]) (mVar 1)) (seqS (sAsg (.nm 8) (mCB [(mVar 3)] lenD)) (seqS (sAsg (.nm 9) (mCB [(mVar 4)] lenD))
  (seqS (sIf (mBoo (mBin (mVar 2) (mCB [(mVar 4)] lenD) gtD)) (sRet (mCB [(mC (.str ("place" :Str))),(mVar 1)] tupD)) sNx)
  (seqS (sIf (mBoo (mBin (mVar 7) (mC .non) notN)) (seqS (sAsg (.nm 9) (mBin (mVar 9) (mBin (mBin (mVar 7) (mC (.int 1)) ixD) (mBin (mVar 7) (mC (.int 0)) ixD) subD) subD))
  (seqS (sIf (mBoo (z0y (mBin (mVar 7) (mC (.int 0)) ixD) (mVar 2) (mBin (mVar 7) (mC (.int 1)) ixD) ltD ltD)) (sRet (mCB [(mC (.str ("marked" :Str))),(mVar 1)] tupD)) sNx)
  (sIf (mBoo (mBin (mVar 2) (mBin (mVar 7) (mC (.int 0)) ixD) leD)) (sAsg (.nm 7) (mCB [(mBin (mBin (mVar 7) (mC (.int 0)) ixD) (mVar 8) addD),(mBin (mBin (mVar 7) (mC (.int 1)) ixD) (mVar 8) addD)] tupD)) sNx))) sNx) putT)))):=rfl
 unfold z5Z
 rw[e0]
 unfold putN
 by_cases hp:(ss.length:Int)<(p:Int)
 ·refine⟨n,Nat.le_refl _, ?_⟩
  walk_at ""
  simp only[hp,decide_true,if_true,z8t]
  walk_at ""
  rfl
 ·simp only[hp,if_false]
  have pick: ∀(A B:Bool) (r S:D),z8t r S (if A=true then some "Barred" else if B=true then some "TooLong" else none)=if A=true then .tup [.str "barred",S] else if B=true then .tup [.str "long",S] else .tup [.str "done",r]:=by
   intro A B r S
   cases A<;>cases B<;>rfl
  rcases h.mkd with rfl|⟨a,c,rfl,h2,h3,h4⟩
  ·obtain⟨n',hn,ef⟩:=zbg lim bar ss us b e p (.tup [.tup ss, .int b, .int e, .non]) .non ss.length n gb su hu hl
   refine⟨n',hn, ?_⟩
   walk_at ""
   simp only[hp,decide_false]
   walk_at ""
   simp only[isNon]
   walk_at ""
   rw[ef]
   have q:=pick (us.any (inB bar)) (decide (lim<((outS ss .non).length:Int)+us.length)) (putS ss us p b e .non) (.tup [.tup ss, .int b, .int e, .non])
   simp only[decide_eq_true_eq] at q
   simp only[midB,Bool.false_eq_true,if_false]
   rw[q]
   rfl
  ·by_cases ha:((a:Int)<(p:Int))/\((p:Int)<(c:Int))
   ·refine⟨n,Nat.le_refl _, ?_⟩
    have hm:midB p (.tup [.int a, .int c])=true:=by simp only[midB,ha.1,ha.2,decide_true,Bool.and_self]
    rw[if_pos hm]
    walk_at ""
    simp only[hp,decide_false]
    walk_at ""
    simp only[isNon]
    walk_at ""
    simp only[ha.1,decide_true]
    walk_at ""
    simp only[ha.2,decide_true]
    walk_at ""
    rfl
   ·have hm:midB p (.tup [.int a, .int c])=false:=by
     simp only[midB,Bool.and_eq_false_iff,decide_eq_false_iff_not]
     rcases Decidable.not_and_iff_not_or_not.mp ha with z|z
     ·exact .inl z
     ·exact .inr z
    rw[if_neg (by rw[hm];exact Bool.false_ne_true)]
    have hfr:(ss.length:Int) -((c:Int) -(a:Int))=((outS ss (.tup [.int a, .int c])).length:Int):=by
     simp only[outS,Int.toNat_natCast,List.length_append,List.length_take,List.length_drop];lia
    obtain⟨n',hn,ef⟩:=zbg lim bar ss us b e p (.tup [.tup ss, .int b, .int e, .tup [.int a, .int c]]) (mkOn p us.length (.tup [.int a, .int c])) ((outS ss (.tup [.int a, .int c])).length:Int) n gb su hu hl
    refine⟨n',hn, ?_⟩
    have q:=pick (us.any (inB bar)) (decide (lim<((outS ss (.tup [.int a, .int c])).length:Int)+us.length)) (putS ss us p b e (.tup [.int a, .int c])) (.tup [.tup ss, .int b, .int e, .tup [.int a, .int c]])
    simp only[decide_eq_true_eq] at q
    rw[q]
    walk_at ""
    simp only[hp,decide_false]
    walk_at ""
    simp only[isNon]
    walk_at ""
    rw[hfr]
    by_cases ha1:(a:Int)<(p:Int)
    ·have ha2: ¬(p:Int)<(c:Int):=fun z=>ha ⟨ha1,z⟩
     have ha3: ¬(p:Int)<=(a:Int):=by lia
     simp only[ha1,decide_true]
     walk_at ""
     simp only[ha2,decide_false]
     walk_at ""
     simp only[ha3,decide_false]
     walk_at ""
     simp only[mkOn,ha3,if_false] at ef
     rw[ef]
     simp only[putS,mkOn,ha3,if_false]
    ·have ha3:(p:Int)<=(a:Int):=by lia
     simp only[ha1,decide_false]
     walk_at ""
     simp only[ha3,decide_true]
     walk_at ""
     simp only[mkOn,ha3,if_true] at ef
     rw[ef]
     simp only[putS,mkOn,ha3,if_true]
theorem zbh{α:Type}{l:List α}{d:α}{i j:Nat}(h:i<=j)(hd:d∈l.take i):d∈l.take j:=by
 have e:l.take i=(l.take j).take i:=by rw[List.take_take,Nat.min_eq_left h]
 rw[e] at hd
 exact List.mem_of_mem_take hd
theorem zbi{α:Type}{l:List α}{d:α}{i j:Nat}(h:i<=j)(hd:d∈l.drop j):d∈l.drop i:=by
 have e:l.drop j=(l.drop i).drop (j -i):=by rw[List.drop_drop,show i+(j -i)=j by lia]
 rw[e] at hd
 exact List.mem_of_mem_drop hd
theorem zbj{α:Type}{l:List α}{d:α}{i j:Nat}(hd:d∈(l.drop i).take (j -i)):d∈l.take j:=by
 rw[<-List.drop_take] at hd
 exact List.mem_of_mem_drop hd
theorem zbk{α:Type}{l:List α}{d:α}{i j:Nat}(hd:d∈(l.take j).drop i):d∈l.drop i:=by
 rw[List.drop_take] at hd
 exact List.mem_of_mem_take hd
theorem zcT{ss us:List D}{a c p:Nat}(hac:a<c)(hc:c<=ss.length)(hp:p<=ss.length)(h:p<=a\/c<=p){d:D}:
 (p<=a->d∈(ss.take p++us++ss.drop p).take (a+us.length)++(ss.take p++us++ss.drop p).drop (c+us.length)->d∈us\/d∈ss.take a++ss.drop c)/\
 (c<=p->d∈(ss.take p++us++ss.drop p).take a++(ss.take p++us++ss.drop p).drop c->d∈us\/d∈ss.take a++ss.drop c):=by
 have lp:(ss.take p).length=p:=by rw[List.length_take];lia
 have lpu:(ss.take p++us).length=p+us.length:=by rw[List.length_append,lp]
 constructor
 ·intro hpa hd
  rcases List.mem_append.mp hd with hd|hd
  ·rw[List.take_append,lpu] at hd
   rcases List.mem_append.mp hd with hd|hd
   ·rcases List.mem_append.mp (List.mem_of_mem_take hd) with hd|hd
    ·exact .inr (List.mem_append_left _ (zbh hpa hd))
    ·exact .inl hd
   ·rw[show a+us.length -(p+us.length)=a -p by lia] at hd
    exact .inr (List.mem_append_left _ (zbj hd))
  ·rw[List.drop_append,lpu,show c+us.length -(p+us.length)=c -p by lia,List.drop_drop,show p+(c -p)=c by lia] at hd
   rcases List.mem_append.mp hd with hd|hd
   ·rw[List.drop_eq_nil_of_le (by rw[lpu];lia)] at hd;cases hd
   ·exact .inr (List.mem_append_right _ hd)
 ·intro hcp hd
  rcases List.mem_append.mp hd with hd|hd
  ·rw[List.take_append,lpu,show a -(p+us.length)=0 by lia,List.take_zero,List.append_nil,List.take_append,lp,show a -p=0 by lia,List.take_zero,List.append_nil,List.take_take,Nat.min_eq_left (by lia)] at hd
   exact .inr (List.mem_append_left _ hd)
  ·rw[List.drop_append,lpu] at hd
   rcases List.mem_append.mp hd with hd|hd
   ·rw[List.drop_append,lp] at hd
    rcases List.mem_append.mp hd with hd|hd
    ·exact .inr (List.mem_append_right _ (zbk hd))
    ·exact .inl (List.mem_of_mem_drop hd)
   ·exact .inr (List.mem_append_right _ (zbi hcp (List.mem_of_mem_drop hd)))
theorem zcU{ss:List D}{a c p k:Nat}(hac:a<c)(hc:c<=ss.length)(hp:p+k<=ss.length){d:D}:
 (p+k<=a->d∈(ss.take p++ss.drop (p+k)).take (a -k)++(ss.take p++ss.drop (p+k)).drop (c -k)->d∈ss.take a++ss.drop c)/\
 (c<=p->d∈(ss.take p++ss.drop (p+k)).take a++(ss.take p++ss.drop (p+k)).drop c->d∈ss.take a++ss.drop c):=by
 have lp:(ss.take p).length=p:=by rw[List.length_take];lia
 constructor
 ·intro hpa hd
  rcases List.mem_append.mp hd with hd|hd
  ·rw[List.take_append,lp] at hd
   rcases List.mem_append.mp hd with hd|hd
   ·exact List.mem_append_left _ (zbh (by lia) (List.mem_of_mem_take hd))
   ·rw[show a -k -p=a -(p+k) by lia] at hd
    exact List.mem_append_left _ (zbj hd)
  ·rw[List.drop_append,lp,List.drop_drop,show p+k+(c -k -p)=c by lia] at hd
   rcases List.mem_append.mp hd with hd|hd
   ·rw[List.drop_eq_nil_of_le (by rw[lp];lia)] at hd;cases hd
   ·exact List.mem_append_right _ hd
 ·intro hcp hd
  rcases List.mem_append.mp hd with hd|hd
  ·rw[List.take_append,lp,show a -p=0 by lia,List.take_zero,List.append_nil,List.take_take,Nat.min_eq_left (by lia)] at hd
   exact List.mem_append_left _ hd
  ·rw[List.drop_append,lp] at hd
   rcases List.mem_append.mp hd with hd|hd
   ·exact List.mem_append_right _ (zbk hd)
   ·exact List.mem_append_right _ (zbi (by lia) (List.mem_of_mem_drop hd))
theorem zgV{bar us:List D}(h:us.any (inB bar)=false):NB bar us:=fun d hd=>by
 rw[List.any_eq_false] at h
 simpa using h d hd
theorem zev{lim:Int}{bar ss us:List D}{b e p:Nat}{m:D}(h:Stn lim bar ss b e m)(su:Sg us)(hN:putN lim bar ss us p m=none): ∃m',putS ss us p b e m= .tup [.tup (ss.take p++us++ss.drop p), .int (mvOn p us.length b:Nat), .int (mvOn p us.length e:Nat),m']/\Stn lim bar (ss.take p++us++ss.drop p) (mvOn p us.length b) (mvOn p us.length e) m':=by
 have hbe:=h.be
 have hel:=h.el
 have hln:=h.ln
 unfold putN at hN
 split at hN
 ·cases hN
 rename_i hp
 split at hN
 ·cases hN
 rename_i hm
 split at hN
 ·cases hN
 rename_i hany
 split at hN
 ·cases hN
 rename_i hlim
 have hnb:=zgV (by simpa using hany)
 have hp':p<=ss.length:=by lia
 have ll:(ss.take p++us++ss.drop p).length=ss.length+us.length:=by simp only[List.length_append,List.length_take,List.length_drop];lia
 have mon:mvOn p us.length b<=mvOn p us.length e/\mvOn p us.length e<=ss.length+us.length:=by
  unfold mvOn;split<;>split<;>lia
 have sg':Sg (ss.take p++us++ss.drop p):=z68 (z68 (zbb h.sg _) su) (zck h.sg _)
 rcases h.mkd with rfl|⟨a,c,rfl,h2,h3,h4⟩
 ·refine⟨.non,rfl,sg', .inl rfl,mon.1,by rw[ll];exact mon.2, ?_, ?_⟩
  ·show((ss.take p++us++ss.drop p).length:Int)<=lim
   have e1:outS ss .non=ss:=rfl
   rw[e1] at hlim
   rw[ll];lia
  ·exact z96 (z96 (zeg h.nb _) hnb) (zeh h.nb _)
 ·have hmid:p<=a\/c<=p:=by
   simp only[midB,Bool.and_eq_true,decide_eq_true_eq] at hm
   lia
  simp only[outS,Int.toNat_natCast] at hlim hln
  by_cases hpa:p<=a
  ·refine⟨.tup [.int ((a+us.length:Nat):Int), .int ((c+us.length:Nat):Int)], ?_,sg', .inr ⟨a+us.length,c+us.length,rfl,by lia,by rw[ll];lia,by lia⟩,mon.1,by rw[ll];exact mon.2, ?_, ?_⟩
   ·have h':(p:Int)<=(a:Int):=by lia
    simp only[putS,mkOn,h',if_true,Int.natCast_add]
   ·simp only[outS,Int.toNat_natCast]
    simp only[List.length_append,List.length_take,List.length_drop] at hlim⊢
    lia
   ·intro d hd
    simp only[outS,Int.toNat_natCast] at hd
    rcases(zcT h2 h3 hp' hmid).1 hpa hd with q|q
    ·exact hnb d q
    ·exact h.nb d (by simp only[outS,Int.toNat_natCast];exact q)
  ·refine⟨.tup [.int (a:Int), .int (c:Int)], ?_,sg', .inr ⟨a,c,rfl,h2,by rw[ll];lia,h4⟩,mon.1,by rw[ll];exact mon.2, ?_, ?_⟩
   ·have h': ¬(p:Int)<=(a:Int):=by lia
    simp only[putS,mkOn,h',if_false]
   ·simp only[outS,Int.toNat_natCast]
    simp only[List.length_append,List.length_take,List.length_drop] at hlim⊢
    lia
   ·intro d hd
    simp only[outS,Int.toNat_natCast] at hd
    rcases(zcT h2 h3 hp' hmid).2 (by lia) hd with q|q
    ·exact hnb d q
    ·exact h.nb d (by simp only[outS,Int.toNat_natCast];exact q)
theorem zew{lim:Int}{bar ss:List D}{b e p k:Nat}{m:D}(h:Stn lim bar ss b e m)(k0:1<=k)(hN:outN ss p k m=none): ∃m',outR ss p k b e m= .tup [.tup (ss.take p++ss.drop (p+k)), .int (mvB p k b:Nat), .int (mvB p k e:Nat),m']/\Stn lim bar (ss.take p++ss.drop (p+k)) (mvB p k b) (mvB p k e) m':=by
 have hbe:=h.be
 have hel:=h.el
 have hln:=h.ln
 unfold outN at hN
 split at hN
 ·cases hN
 rename_i hp
 split at hN
 ·cases hN
 rename_i hm
 have hp':p+k<=ss.length:=by lia
 have ll:(ss.take p++ss.drop (p+k)).length=ss.length -k:=by simp only[List.length_append,List.length_take,List.length_drop];lia
 have mon:mvB p k b<=mvB p k e/\mvB p k e<=ss.length -k:=by
  unfold mvB;split<;>split<;>lia
 have sg':Sg (ss.take p++ss.drop (p+k)):=z68 (zbb h.sg _) (zck h.sg _)
 rcases h.mkd with rfl|⟨a,c,rfl,h2,h3,h4⟩
 ·refine⟨.non,rfl,sg', .inl rfl,mon.1,by rw[ll];exact mon.2, ?_, ?_⟩
  ·show((ss.take p++ss.drop (p+k)).length:Int)<=lim
   have e1:outS ss .non=ss:=rfl
   rw[e1] at hln
   rw[ll];lia
  ·exact z96 (zeg h.nb _) (zeh h.nb _)
 ·have hlap:p+k<=a\/c<=p:=by
   simp only[lapB,Bool.and_eq_true,decide_eq_true_eq] at hm
   lia
  simp only[outS,Int.toNat_natCast] at hln
  refine⟨.tup [.int (mvB p k a:Nat), .int (mvB p k c:Nat)],rfl,sg', .inr ⟨mvB p k a,mvB p k c,rfl, ?_, ?_, ?_⟩,mon.1,by rw[ll];exact mon.2, ?_, ?_⟩
  ·unfold mvB;split<;>split<;>lia
  ·rw[ll];unfold mvB;split<;>lia
  ·unfold mvB;split<;>split<;>lia
  ·simp only[outS,Int.toNat_natCast]
   simp only[List.length_append,List.length_take,List.length_drop] at hln⊢
   unfold mvB
   split<;>split<;>lia
  ·intro d hd
   simp only[outS,Int.toNat_natCast] at hd
   refine h.nb d ?_
   simp only[outS,Int.toNat_natCast]
   rcases hlap with q|q
   ·have e1:mvB p k a=a -k:=by unfold mvB;rw[if_pos q]
    have e2:mvB p k c=c -k:=by unfold mvB;rw[if_pos (by lia)]
    rw[e1,e2] at hd
    exact(zcU h2 h3 hp').1 q hd
   ·have e1:mvB p k a=a:=by unfold mvB;rw[if_neg (by lia)];lia
    have e2:mvB p k c=c:=by unfold mvB;rw[if_neg (by lia)];lia
    rw[e1,e2] at hd
    exact(zcU h2 h3 hp').2 q hd
theorem zgW{lim:Int}{bar ss:List D}{b e:Nat}{m:D}(h:Stn lim bar ss b e m):stdB lim bar (Sd ss b e m)=true:=by
 have h1:=h.be
 have h2:=h.el
 rw[z7b h.sg (by simp only[bsB,Bool.and_eq_true,decide_eq_true_eq];lia) (by
  rcases h.mkd with rfl|⟨a,c,rfl,h2,h3,h4⟩
  ·rfl
  ·simp only[stB,Bool.and_eq_true,decide_eq_true_eq];lia)]
 simp only[Bool.and_eq_true,decide_eq_true_eq]
 refine⟨h.ln, ?_⟩
 rw[Bool.not_eq_true',List.any_eq_false]
 exact fun d hd=>by rw[h.nb d hd];simp
theorem ziz{ss:List D}(h:Sg ss)(hl:ss.length<=900):Tr (.tup ss)=true/\(er (.tup ss)).depth<=2:=z8Y hl fun d hd=>by
 obtain⟨i,rfl,_,_⟩:=z1i (h d hd)
 exact z8Z
theorem zgX{lim:Int}{bar ss:List D}{b e:Nat}{m:D}(h:Stn lim bar ss b e m)(h1:lim<=60):Tr (Sd ss b e m)=true/\(er (Sd ss b e m)).depth<=3:=by
 have hl:=h.len h1
 refine z8Y (by simp) fun d hd=> ?_
 simp only[List.mem_cons,List.not_mem_nil,or_false] at hd
 rcases hd with rfl|rfl|rfl|rfl
 ·exact ziz h.sg (by lia)
 ·exact z8Z
 ·exact z8Z
 ·rcases h.mkd with rfl|⟨a,c,rfl,_⟩
  ·exact⟨rfl,by simp[er,PyData.depth]⟩
  ·refine z8Y (by simp) fun d hd=> ?_
   simp only[List.mem_cons,List.not_mem_nil,or_false] at hd
   rcases hd with rfl|rfl<;>exact z8Z
theorem zcn{lim:Int}{bar ss us:List D}{b e:Nat}{m F:D}(h:Stn lim bar ss b e m)(h1:lim<=60)(u1:us.length<=96)(n:Nat):
 z24 [F,Sd ss b e m, .tup [.str "mark", .tup us]] n= .ok (.tup [.str "done", .tup [.tup (rep ss us b e m), .int ((fI b m:Nat)+us.length), .int ((fI b m:Nat)+us.length), .tup [.int (fI b m:Nat), .int ((fI b m:Nat)+us.length)]]]) [F,Sd ss b e m, .tup [.str "mark", .tup us]] n:=by
 have hl:=h.len h1
 unfold z24 z4V
 rcases h.mkd with rfl|⟨a,c,rfl,h2,h3,h4⟩
 all_goals
  walk_at ""
  rw[z0E (by rw[zl];simp)]
  walk_at ""
  rw[z2s,z0E (by rw[zl];simp only[List.length_take];lia)]
  walk_at ""
  rw[z29,z0E (by rw[zl];simp only[List.length_append,List.length_take,List.length_drop];lia)]
  walk_at ""
  rfl
theorem zex{lim:Int}{bar ss:List D}{b e:Nat}{m F:D}(h:Stn lim bar ss b e m)(h1:lim<=60)(n:Nat):
 z24 [F,Sd ss b e m, .tup [.str "unmark"]] n= .ok (if isNon m then .tup [.str "mark",Sd ss b e m] else .tup [.str "done", .tup [.tup (rep ss [] b e m), .int (fI b m:Nat), .int (fI b m:Nat), .non]]) [F,Sd ss b e m, .tup [.str "unmark"]] n:=by
 have hl:=h.len h1
 unfold z24 z4V
 rcases h.mkd with rfl|⟨a,c,rfl,h2,h3,h4⟩
 ·walk_at ""
  simp only[isNon]
  walk_at ""
  rfl
 ·walk_at ""
  simp only[isNon]
  walk_at ""
  rw[z0E (by rw[zl];simp)]
  walk_at ""
  rw[z2s,z0E (by rw[zl];simp only[List.length_take,List.length_nil];lia)]
  walk_at ""
  rw[z29,z0E (by rw[zl];simp only[List.length_append,List.length_take,List.length_drop,List.length_nil];lia)]
  walk_at ""
  simp only[Bool.false_eq_true,if_false,rep,fI,bI,Int.toNat_natCast,List.append_nil,Int.add_zero]
theorem zey{ss:List D}{b e b' e':Int}{m F:D}(n:Nat):
 z24 [F,Sd ss b e m, .tup [.str "choose", .int b', .int e']] n= .ok (if(ss.length:Int)<e' then .tup [.str "place",Sd ss b e m] else .tup [.str "done", .tup [.tup ss, .int b', .int e',m]]) [F,Sd ss b e m, .tup [.str "choose", .int b', .int e']] n:=by
 unfold z24 z4V
 walk_at ""
 by_cases hk:(ss.length:Int)<e'
 ·simp only[hk,decide_true];walk_at "";rfl
 ·simp only[hk,decide_false];walk_at "";rfl
theorem zez{lim:Int}{bar ss us:List D}{b e:Nat}{m:D}(h:Stn lim bar ss b e m)(h1:lim<=60)(gb:Sg bar)(su:Sg us)(u1:us.length<=96)(n:Nat): ∃n',n<=n'/\
 z24 [Fd lim bar,Sd ss b e m, .tup [.str "commit", .tup us]] n= .ok (if us.any (inB bar) then .tup [.str "barred",Sd ss b e m] else if lim<((rep ss us b e m).length:Int) then .tup [.str "long",Sd ss b e m]
  else .tup [.str "done", .tup [.tup (rep ss us b e m), .int ((fI b m:Nat)+us.length), .int ((fI b m:Nat)+us.length), .non]]) [Fd lim bar,Sd ss b e m, .tup [.str "commit", .tup us]] n':=by
 have hl:=h.len h1
 obtain⟨n',hn,ec⟩:=z4W (mc:=mVar 7) (mt:=mBoo (mBin (mVar 0) (mBin (mVar 1) (mC (.int 1)) ixD) inD)) (me:=mVar 0) (p:=inB bar) (g:=fun d=>d) (ds:=us) (ix:=[0])
  (σ:=[some (Fd lim bar),some (Sd ss b e m),some (.tup [.str "commit", .tup us]),some (.tup ss),some (.int b),some (.int e),some m,some (.tup us),some (.int (fI b m:Nat)),some (.int (bI e m:Nat)),some (.tup (rep ss us b e m)),some (.int ((fI b m:Nat)+us.length))])
  (tm:=[some (Fd lim bar),some (Sd ss b e m),some (.tup [.str "commit", .tup us])]) (n:=n)
  (s:=⟨[some (Fd lim bar),some (Sd ss b e m),some (.tup [.str "commit", .tup us]),some (.tup ss),some (.int b),some (.int e),some m,some (.tup us),some (.int (fI b m:Nat)),some (.int (bI e m:Nat)),some (.tup (rep ss us b e m)),some (.int ((fI b m:Nat)+us.length))],[some (Fd lim bar),some (Sd ss b e m),some (.tup [.str "commit", .tup us])],n⟩)
  (by walk_at "") (by rw[zl];lia) (by
   intro d hd tm n
   obtain⟨i,rfl,_,_⟩:=z1i (su d hd)
   refine⟨n,Nat.le_refl _, ?_⟩
   simp only[List.map_cons,List.map_nil,List.getElem?_cons_zero,Option.getD_some]
   walk_at ""
   rw[zcj (z0J gb)]
   walk_at "") (by
   intro d hd _ tm n
   refine⟨n,Nat.le_refl _, ?_⟩
   walk_at "")
 refine⟨n'+2,by lia, ?_⟩
 have gf:GdL ((us.filter (inB bar)).map fun d=>d):=by
  rw[List.map_id'' fun _=>rfl];exact z0J fun d hd=>su d (List.mem_filter.mp hd).1
 have key:(rep ss us b e m).length<=1000:=by unfold rep;simp only[List.length_append,List.length_take,List.length_drop];lia
 have fin:z24 [Fd lim bar,Sd ss b e m, .tup [.str "commit", .tup us]] n=((seqS (sIf (mAnd (mBoo (mBin (mBin (mVar 2) (mC (.int 0)) ixD) (mC (.str ("commit" :Str))) eqD)) (mBoo (mBin (z0t (z1j (mVar 7)) (.nm 0) (mBoo (mBin (mVar 0) (mBin (mVar 1) (mC (.int 1)) ixD) inD)) (mVar 0) 1 [0]) (mCB [] lstM) neD))) (sRet (mCB [(mC (.str ("barred" :Str))),(mVar 1)] tupD)) sNx)
  (seqS (sIf (mAnd (mBoo (mBin (mBin (mVar 2) (mC (.int 0)) ixD) (mC (.str ("commit" :Str))) eqD)) (mBoo (mBin (mCB [(mVar 10)] lenD) (mBin (mVar 0) (mC (.int 0)) ixD) gtD))) (sRet (mCB [(mC (.str ("long" :Str))),(mVar 1)] tupD)) sNx)
  (seqS (sIf (mBoo (mBin (mBin (mVar 2) (mC (.int 0)) ixD) (mC (.str ("mark" :Str))) eqD)) (sRet (mCB [(mC (.str ("done" :Str))),(mCB [(mVar 10),(mVar 11),(mVar 11),(mCB [(mVar 8),(mVar 11)] tupD)] tupD)] tupD)) sNx)
  (sRet (mCB [(mC (.str ("done" :Str))),(mCB [(mVar 10),(mVar 11),(mVar 11),(mC .non)] tupD)] tupD))))) ⟨[some (Fd lim bar),some (Sd ss b e m),some (.tup [.str "commit", .tup us]),some (.tup ss),some (.int b),some (.int e),some m,some (.tup us),some (.int (fI b m:Nat)),some (.int (bI e m:Nat)),some (.tup (rep ss us b e m)),some (.int ((fI b m:Nat)+us.length))],[some (Fd lim bar),some (Sd ss b e m),some (.tup [.str "commit", .tup us])],n⟩).fin:=by
  clear ec
  unfold z24 z4V
  rcases h.mkd with rfl|⟨a,c,rfl,h2,h3,h4⟩
  all_goals
   walk_at ""
   rw[z0E (by rw[zl];simp)]
   walk_at ""
   rw[z2s,z0E (by rw[zl];simp only[List.length_take];lia)]
   walk_at ""
   rw[z29,z0E (by rw[zl];simp only[List.length_append,List.length_take,List.length_drop];lia)]
   walk_at ""
   rfl
 rw[fin]
 clear fin
 walk_at ""
 rw[ec]
 walk_at ""
 rw[z6B gf,z7R]
 cases us.any (inB bar) with
 |true=>walk_at "";rfl
 |false=>
  walk_at ""
  by_cases hk:lim<((rep ss us b e m).length:Int)
  ·simp only[hk,decide_true];walk_at "";rfl
  ·simp only[hk,decide_false];walk_at "";simp only[Bool.false_eq_true,if_false]
theorem fb(lim:Int){bar ss:List D}{b e:Nat}{m:D}(h:Stn lim bar ss b e m):fI b m<=bI e m/\bI e m<=ss.length:=by
 rcases h.mkd with rfl|⟨a,c,rfl,h2,h3,h4⟩
 ·exact⟨h.be,h.el⟩
 ·simp only[fI,bI,Int.toNat_natCast];lia
theorem rst{lim:Int}{bar ss:List D}{b e:Nat}{m:D}(h:Stn lim bar ss b e m):((ss.take (fI b m)++ss.drop (bI e m)).length:Int)<=lim/\NB bar (ss.take (fI b m)++ss.drop (bI e m)):=by
 rcases h.mkd with rfl|⟨a,c,rfl,h2,h3,h4⟩
 ·have h5:=h.ln
  have h6:=h.nb
  have e1:outS ss .non=ss:=rfl
  rw[e1] at h5 h6
  have:=h.be
  refine⟨?_,z96 (zeg h6 _) (zeh h6 _)⟩
  show((ss.take b++ss.drop e).length:Int)<=lim
  simp only[List.length_append,List.length_take,List.length_drop];lia
 ·exact⟨h.ln,h.nb⟩
theorem zbl{ss us:List D}{b e:Nat}{m:D}(h:Sg ss)(g:Sg us):Sg (rep ss us b e m):=z68 (z68 (zbb h _) g) (zck h _)
theorem len_rep{lim:Int}{bar ss us:List D}{b e:Nat}{m:D}(h:Stn lim bar ss b e m):(rep ss us b e m).length=fI b m+us.length+(ss.length -bI e m):=by
 have:=fb lim h
 unfold rep;simp only[List.length_append,List.length_take,List.length_drop];lia
theorem zeA{lim:Int}{bar ss us:List D}{b e:Nat}{m:D}(h:Stn lim bar ss b e m)(su:Sg us)(u0:1<=us.length)(u1:us.length<=96):
 Stn lim bar (rep ss us b e m) (fI b m+us.length) (fI b m+us.length) (.tup [.int (fI b m:Nat), .int ((fI b m:Nat)+us.length)]):=by
 have hf:=fb lim h
 have hl:=len_rep (us:=us) h
 have eo:outS (rep ss us b e m) (.tup [.int (fI b m:Nat), .int ((fI b m:Nat)+us.length)])=ss.take (fI b m)++ss.drop (bI e m):=by
  have e0:(ss.take (fI b m)).length=fI b m:=by rw[List.length_take];lia
  unfold rep outS
  simp only
  rw[show((fI b m:Int)+us.length).toNat=fI b m+us.length by lia,Int.toNat_natCast]
  congr 1
  ·rw[List.append_assoc,List.take_append_of_le_length (by lia),List.take_of_length_le (by lia)]
  ·rw[show fI b m+us.length=(ss.take (fI b m)++us).length by rw[List.length_append,e0],List.drop_left]
 have hr:=rst h
 refine⟨zbl h.sg su, .inr ⟨fI b m,fI b m+us.length,rfl,by lia,by lia,by lia⟩,Nat.le_refl _,by lia,by rw[eo];exact hr.1,by rw[eo];exact hr.2⟩
theorem zgY{lim:Int}{bar ss:List D}{b e:Nat}{m:D}(h:Stn lim bar ss b e m):Stn lim bar (rep ss [] b e m) (fI b m) (fI b m) .non:=by
 have hl:=len_rep (us:=[]) h
 have hr:=rst h
 have e0:rep ss [] b e m=ss.take (fI b m)++ss.drop (bI e m):=by unfold rep;rw[List.append_nil]
 refine⟨zbl h.sg (fun d hd=>by cases hd), .inl rfl,Nat.le_refl _,by lia, ?_, ?_⟩
 ·show((rep ss [] b e m).length:Int)<=lim
  rw[e0];exact hr.1
 ·show NB bar (rep ss [] b e m)
  rw[e0];exact hr.2
theorem zgZ{lim:Int}{bar ss us:List D}{b e:Nat}{m:D}(h:Stn lim bar ss b e m)(su:Sg us)(hb:us.any (inB bar)=false)(hk: ¬lim<((rep ss us b e m).length:Int)):Stn lim bar (rep ss us b e m) (fI b m+us.length) (fI b m+us.length) .non:=by
 have hl:=len_rep (us:=us) h
 have hr:=rst h
 refine⟨zbl h.sg su, .inl rfl,Nat.le_refl _,by lia, ?_, ?_⟩
 ·show((rep ss us b e m).length:Int)<=lim
  lia
 ·show NB bar (rep ss us b e m)
  have nu:NB bar us:=fun d hd=>by
   cases q:inB bar d with
   |false=>rfl
   |true=>rw[List.any_eq_true.mpr ⟨d,hd,q⟩] at hb;cases hb
  intro d hd
  rcases List.mem_append.mp hd with hd|hd
  ·rcases List.mem_append.mp hd with hd|hd
   ·exact hr.2 d (List.mem_append_left _ hd)
   ·exact nu d hd
  ·exact hr.2 d (List.mem_append_right _ hd)
theorem zh0{lim:Int}{bar ss:List D}{b e b' e':Nat}{m:D}(h:Stn lim bar ss b e m)(h1:b'<=e')(h2:e'<=ss.length):Stn lim bar ss b' e' m:=⟨h.sg,h.mkd,h1,h2,h.ln,h.nb⟩
theorem l33:decide ((3:Int)<3)=false:=rfl
noncomputable def dc7(n:Nat):D:= .dct n (.non::([.inr ("mark" :Str), .inr ("unmark" :Str), .inr ("commit" :Str), .inr ("choose" :Str), .inr ("put" :Str), .inr ("out" :Str), .inr ("stand" :Str)]:List Key).map keyD) [.int 2, .int 1, .int 2, .int 3, .int 3, .int 3, .int 2]
theorem x_dc{σ tm:List (Option D)}{n:Nat}:dcM [.inr ("mark" :Str), .inr ("unmark" :Str), .inr ("commit" :Str), .inr ("choose" :Str), .inr ("put" :Str), .inr ("out" :Str), .inr ("stand" :Str)] [.int 2, .int 1, .int 2, .int 3, .int 3, .int 3, .int 2] ⟨σ,tm,n⟩= .ok (dc7 n) ⟨σ,tm,n+1⟩:=rfl
noncomputable abbrev dE(w:Str)(k:Int)(r:Bool):Prop:=(∀{n:Nat} {s:Stt},zaw (.str w) (dc7 n) s= .ok (.bool false) s/\dgtP (dc7 n) (.str w) s= .ok (.int k) s)/\∀{s:Stt},inD (.str w) (.tup [.str "mark", .str "commit"]) s= .ok (.bool r) s
theorem dcW:dE "mark" 2 true/\dE "unmark" 1 false/\dE "commit" 2 true/\dE "choose" 3 false/\dE "put" 3 false/\dE "out" 3 false/\dE "stand" 2 false:=by
 and_intros<;>first|(intros;rfl)|(intro s;rw[y_in rfl (by decide+kernel)];exact congrArg (fun b=>Res.ok (D.bool b) _) (by decide+kernel))
theorem ziA{o:Option Str}(h:Nm o):PyData.strOk (nmN o)=true:=by
 cases o with
 |none=>decide+kernel
 |some c=>rcases h c rfl with rfl|rfl|rfl|rfl|rfl<;>decide+kernel
noncomputable def Ok9(lim:Int)(bar:List D)(r:D):Prop:= ∃ss,∃b e:Nat,∃m,r=Sd ss b e m/\Stn lim bar ss b e m
theorem fin8{lim:Int}{bar:List D}{r S:D}{o:Option Str}(ho:Nm o)(hS:Ok9 lim bar S)(hr:o=none->Ok9 lim bar r): ∃w S',PyData.strOk w=true/\Ok9 lim bar S'/\z8t r S o= .tup [.str w,S']:=by
 cases o with
 |none=>exact⟨"done",r,by decide+kernel,hr rfl,rfl⟩
 |some c=>exact⟨_,S,ziA ho,hS,rfl⟩
noncomputable def B_8:=BA @x_dc (BA @dcW @l33)
local macro_rules | `(tactic| walk_at "") => `(tactic| (simp (config := { dsimp := false }) only [B_0, B_1, B_3, ↓B_4, B_5, B_6, c1d, B_8, isiD, z08, asg, asgL, List.replicate, Nat.reduceAdd, Nat.reduceSub, String.reduceBEq, Int.reduceBEq]))
theorem zbm{w:Str}(hw:w= "mark" \/w= "commit")(us:List D)(n:Nat)(su:Sg us)(h0:1<=us.length)(h1:us.length<=96): ∃n',n<=n'/\z0e [.tup [.str w, .tup us]] n= .ok (.bool true) [.tup [.str w, .tup us]] n':=by
 obtain⟨n',hn,er⟩:=zb3 (.tup us) 1 96 (n+1) (z0J su).1 (by decide)
 refine⟨n',by lia, ?_⟩
 rw[rowY su (by lia) (by lia)] at er
 unfold z0e z1q
 rcases hw with rfl|rfl
 all_goals
  walk_at ""
  rw[er]
  walk_at ""
theorem zcV{w:Str}{ds:List D}(hw:w= "unmark" /\ds=[]\/w= "stand" /\∃S,ds=[S])(n:Nat): ∃n',n<=n'/\z0e [.tup (.str w::ds)] n= .ok (.bool true) [.tup (.str w::ds)] n':=by
 refine⟨n+1,by lia, ?_⟩
 unfold z0e z1q
 rcases hw with⟨rfl,rfl⟩|⟨rfl,S,rfl⟩
 all_goals
  walk_at ""
  try rfl
theorem zco(b e:Int)(n:Nat)(h0:0<=b)(h1:b<=e)(h2:e<=999): ∃n',n<=n'/\z0e [.tup [.str "choose", .int b, .int e]] n= .ok (.bool true) [.tup [.str "choose", .int b, .int e]] n':=by
 refine⟨n+1,by lia, ?_⟩
 unfold z0e z1q
 walk_at ""
 rw[z1O _ _ _ _ rfl,z25 ⟨h0,by lia⟩]
 walk_at ""
 rw[z1O _ _ _ _ rfl,z25 ⟨by lia,h2⟩]
 walk_at ""
 simp only[h1,decide_true]
theorem zcp(p:Int)(us:List D)(n:Nat)(h0:0<=p)(h1:p<=999)(su:Sg us)(u0:1<=us.length)(u1:us.length<=24): ∃n',n<=n'/\z0e [.tup [.str "put", .int p, .tup us]] n= .ok (.bool true) [.tup [.str "put", .int p, .tup us]] n':=by
 obtain⟨n',hn,er⟩:=zb3 (.tup us) 1 24 (n+1) (z0J su).1 (by decide)
 refine⟨n',by lia, ?_⟩
 rw[rowY su (by lia) (by lia)] at er
 unfold z0e z1q
 walk_at ""
 rw[z1O _ _ _ _ rfl,z25 ⟨h0,h1⟩]
 walk_at ""
 rw[er]
 walk_at ""
theorem zcq(p k:Int)(n:Nat)(h0:0<=p)(h1:p<=999)(k0:1<=k)(k1:k<=60): ∃n',n<=n'/\z0e [.tup [.str "out", .int p, .int k]] n= .ok (.bool true) [.tup [.str "out", .int p, .int k]] n':=by
 refine⟨n+1,by lia, ?_⟩
 unfold z0e z1q
 walk_at ""
 rw[z1O _ _ _ _ rfl,z25 ⟨h0,h1⟩]
 walk_at ""
 rw[z1O _ _ _ _ rfl,z25 ⟨k0,k1⟩]
 walk_at ""
theorem z99{F S T:D}{w:Str}{ds:List D}{n n1 n2:Nat}(hw:w= "mark" \/w= "unmark" \/w= "commit" \/w= "choose")(hi:z0e [.tup (.str w::ds)] n= .ok (.bool true) [.tup (.str w::ds)] n1)
 (ho:z24 [F,S, .tup (.str w::ds)] n1= .ok T [F,S, .tup (.str w::ds)] n2):z0L [F,S, .tup (.str w::ds)] n= .ok T [F,S, .tup (.str w::ds)] n2:=by
 unfold z0L z2W
 walk_at ""
 rw[hi]
 rcases hw with rfl|rfl|rfl|rfl
 all_goals
  walk_at ""
  rw[ho]
  walk_at ""
theorem zh1{F S T p us:D}{n n1 n2:Nat}(hi:z0e [.tup [.str "put",p,us]] n= .ok (.bool true) [.tup [.str "put",p,us]] n1)
 (ho:z5Z [F,S,p,us] n1= .ok T [F,S,p,us] n2):z0L [F,S, .tup [.str "put",p,us]] n= .ok T [F,S, .tup [.str "put",p,us]] n2:=by
 unfold z0L z2W
 walk_at ""
 rw[hi]
 walk_at ""
 rw[ho]
 walk_at ""
theorem zh2{F S T:D}{p k:Int}{n n1 n2:Nat}(hi:z0e [.tup [.str "out", .int p, .int k]] n= .ok (.bool true) [.tup [.str "out", .int p, .int k]] n1)
 (ho:z5Y [S, .int p, .int (p+k)] n1= .ok T [S, .int p, .int (p+k)] n2):z0L [F,S, .tup [.str "out", .int p, .int k]] n= .ok T [F,S, .tup [.str "out", .int p, .int k]] n2:=by
 unfold z0L z2W
 walk_at ""
 rw[hi]
 walk_at ""
 rw[ho]
 walk_at ""
theorem zh3{F S R:D}{n n1 n2:Nat}(hi:z0e [.tup [.str "stand",R]] n= .ok (.bool true) [.tup [.str "stand",R]] n1)
 (ho:z0n [F,R] n1= .ok (.bool true) [F,R] n2):z0L [F,S, .tup [.str "stand",R]] n= .ok (.tup [.str "done",R]) [F,S, .tup [.str "stand",R]] n2:=by
 unfold z0L z2W
 walk_at ""
 rw[hi]
 walk_at ""
 rw[ho]
 walk_at ""
theorem zcW{F S R:D}{n n2:Nat}(ho:z18 [F,R] n= .ok (.bool true) [F,R] n2):z0m [F,S, .tup [.str "stand",R]] n= .ok R [F,S, .tup [.str "stand",R]] n2:=by
 unfold z0m z1D
 walk_at ""
 rw[zem]
 walk_at ""
 rw[ho]
 walk_at ""
noncomputable def Ded(lim:Int)(bar:List D)(d:D):Prop:=d= .tup [.str "unmark"]\/(∃b e:Nat,d= .tup [.str "choose", .int b, .int e]/\b<=e/\e<=999)\/(∃w us,(w= "mark" \/w= "commit")/\Sg us/\1<=us.length/\us.length<=96/\d= .tup [.str w, .tup us])\/
 (∃(p:Nat) (us:List D),p<=999/\Sg us/\1<=us.length/\us.length<=24/\d= .tup [.str "put", .int p, .tup us])\/(∃p k:Nat,p<=999/\1<=k/\k<=60/\d= .tup [.str "out", .int p, .int k])\/∃R,Ok9 lim bar R/\d= .tup [.str "stand",R]
theorem z4j{lim:Int}{bar:List D}{R:D}(h1:lim<=60)(h:Ok9 lim bar R):Gd R/\labs R=[]/\stdB lim bar R=true/\Tr R=true/\(er R).depth<=3:=by
 obtain⟨ss,b,e,m,rfl,h⟩:=h
 have t:=zgX h h1
 exact⟨zec (n:=0) _ (zeb _ t.1),zb1 _ t.1,zgW h,t.1,t.2⟩
noncomputable def Stp(F S d T:D):Prop:=(∀n,∃n',n<=n'/\z0I [F,S,d] n= .ok T [F,S,d] n')/\∀n,∃n',n<=n'/\z0L [F,S,d] n= .ok T [F,S,d] n'
theorem ziB{lim:Int}{bar:List D}{S d:D}(h0:0<=lim)(h1:lim<=60)(gb:Sg bar)(hS:Ok9 lim bar S)(hd:Ded lim bar d): ∃w S',PyData.strOk w=true/\Ok9 lim bar S'/\Stp (Fd lim bar) S d (.tup [.str w,S']):=by
 obtain⟨ss,b,e,m,rfl,h⟩:=id hS
 rcases hd with rfl|⟨b',e',rfl,hb,he⟩|⟨w,us,hw,su,u0,u1,rfl⟩|⟨p,us,hp,su,u0,u1,rfl⟩|⟨p,k,hp,k0,k1,rfl⟩|⟨R,hR,rfl⟩
 ·obtain⟨w,S',hw,hS',er⟩:=fin8 (r:= .tup [.tup (rep ss [] b e m), .int (fI b m:Nat), .int (fI b m:Nat), .non]) (zgR (m:=m)) hS fun _=>⟨_,_,_,_,rfl,zgY h⟩
  refine⟨w,S',hw,hS',fun n=> ?_,fun n=> ?_⟩<;>rw[<-er]
  ·exact z3M zgR (by rw[zgN h h1];unfold unN;cases isNon m<;>rfl)
  ·obtain⟨n1,hn1,e1⟩:=zcV (.inl ⟨rfl,rfl⟩) n
   exact⟨n1,hn1,z99 (.inr (.inl rfl)) e1 (by rw[zex h h1];unfold unN;cases isNon m<;>rfl)⟩
 ·obtain⟨w,S',hw,hS',er⟩:=fin8 (r:= .tup [.tup ss, .int b', .int e',m]) (zcR (ss:=ss) (e:=e')) hS fun q=>⟨_,_,_,_,rfl,zh0 h hb (by unfold choN at q;(split at q<;>first|(cases q;done)|lia))⟩
  refine⟨w,S',hw,hS',fun n=> ?_,fun n=> ?_⟩<;>rw[<-er]
  ·exact z3M zcR (by rw[zgP _ _ _ _ _ _ _ (by lia) (by lia) (by lia)];unfold choN;split<;>rfl)
  ·obtain⟨n1,hn1,e1⟩:=zco b' e' n (by lia) (by lia) (by lia)
   exact⟨n1,hn1,z99 (.inr (.inr (.inr rfl))) e1 (by rw[zey];unfold choN;split<;>rfl)⟩
 ·rcases hw with rfl|rfl
  ·refine⟨"done",_,by decide+kernel,⟨_,_,_,_,rfl,zeA h su u0 u1⟩,fun n=> ?_,fun n=> ?_⟩
   ·obtain⟨n',hn,ea⟩:=zeq h h1 su u0 u1 n
    obtain⟨n2,hn2,e2⟩:=z3M (o:=none) (nofun) ea
    exact⟨n2,by lia,e2⟩
   ·obtain⟨n1,hn1,e1⟩:=zbm (.inl rfl) us n su u0 u1
    exact⟨n1,hn1,z99 (.inl rfl) e1 (zcn h h1 u1 n1)⟩
  ·obtain⟨w,S',hw,hS',er⟩:=fin8 (r:= .tup [.tup (rep ss us b e m), .int ((fI b m:Nat)+us.length), .int ((fI b m:Nat)+us.length), .non]) (zcQ (lim:=lim) (bar:=bar) (us:=us) (rs:=rep ss us b e m)) hS fun q=>⟨_,_,_,_,rfl,by
    unfold comN at q;split at q
    ·cases q
    ·split at q
     ·cases q
     ·exact zgZ h su (by simpa using ‹¬us.any (inB bar)=true›) ‹_›⟩
   refine⟨w,S',hw,hS',fun n=> ?_,fun n=> ?_⟩<;>rw[<-er]
   ·obtain⟨n',hn,ea⟩:=zgO h h1 gb su u0 u1 n
    obtain⟨n2,hn2,e2⟩:=z3M (r:= .tup [.tup (rep ss us b e m), .int ((fI b m:Nat)+us.length), .int ((fI b m:Nat)+us.length), .non]) (zcQ (lim:=lim) (bar:=bar) (us:=us) (rs:=rep ss us b e m)) (n1:=n') (by rw[ea];unfold comN;(repeat' split)<;>rfl)
    exact⟨n2,by lia,e2⟩
   ·obtain⟨n1,hn1,e1⟩:=zbm (.inr rfl) us n su u0 u1
    obtain⟨n2,hn2,e2⟩:=zez h h1 gb su u1 n1
    exact⟨n2,by lia,z99 (.inr (.inr (.inl rfl))) e1 (by rw[e2];unfold comN;(repeat' split)<;>rfl)⟩
 ·obtain⟨w,S',hw,hS',er⟩:=fin8 (r:=putS ss us p b e m) (zcO (lim:=lim) (bar:=bar) (ss:=ss) (us:=us) (p:=p) (m:=m)) hS fun q=>by
   obtain⟨m',e1,h'⟩:=zev h su q
   exact⟨_,_,_,_,e1,h'⟩
  refine⟨w,S',hw,hS',fun n=> ?_,fun n=> ?_⟩<;>rw[<-er]
  ·obtain⟨n4,hn4,e4⟩:=zgS h h1 gb su u0 u1 p n hp
   obtain⟨n5,hn5,e5⟩:=z3M zcO e4
   exact⟨n5,by lia,e5⟩
  ·obtain⟨n1,hn1,e1⟩:=zcp p us n (by lia) (by lia) su u0 u1
   obtain⟨n2,hn2,e2⟩:=zeu h h1 gb su u1 p n1
   exact⟨n2,by lia,zh1 e1 e2⟩
 ·obtain⟨w,S',hw,hS',er⟩:=fin8 (r:=outR ss p k b e m) (zcP (ss:=ss) (p:=p) (k:=k) (m:=m)) hS fun q=>by
   obtain⟨m',e1,h'⟩:=zew h k0 q
   exact⟨_,_,_,_,e1,h'⟩
  refine⟨w,S',hw,hS',fun n=> ?_,fun n=> ?_⟩<;>rw[<-er]
  ·exact z3M zcP (zgT h h1 p k n hp k0 k1)
  ·obtain⟨n1,hn1,e1⟩:=zcq p k n (by lia) (by lia) (by lia) (by lia)
   obtain⟨n2,hn2,e2⟩:=zet h h1 p k n1 k0
   exact⟨n2,by lia,zh2 e1 e2⟩
 ·obtain⟨g,_,hs,_⟩:=z4j h1 hR
  refine⟨"done",R,by decide+kernel,hR,fun n=> ?_,fun n=> ?_⟩
  ·obtain⟨n1,hn1,e1⟩:=zb8 lim bar R n h0 h1 (z0J gb) g.1
   rw[hs] at e1
   obtain⟨n2,hn2,e2⟩:=z3M (o:=none) (nofun) (zcW e1)
   exact⟨n2,by lia,e2⟩
  ·obtain⟨n1,hn1,e1⟩:=zcV (.inr ⟨rfl,R,rfl⟩) n
   obtain⟨n2,hn2,e2⟩:=zba lim bar R n1 h0 h1 (z0J gb) g.1
   rw[hs] at e2
   exact⟨n2,by lia,zh3 e1 e2⟩
theorem at2'{a b:D}{w:Int}(h0:0<=w)(h1:w<2):atI [a,b] w=some (if w=0 then a else b):=by
 rcases(show w=0\/w=1 by lia) with rfl|rfl<;>rfl
theorem zcr{lim:Int}{bar ss:List D}{b e:Nat}{m:D}(l:Nat)(c x far:Int)(n:Nat)(h:Stn lim bar ss b e m)(h0:0<=lim)(h1:lim<=60)(gb:Sg bar)(hl:bar.length<=20)(hbg:Bg c x)(hn:l<n)(hf:0<=far): ∃d c' x' n',Ded lim bar d/\Bg c' x'/\n<=n'/\
 z3K [.lst l [.int c, .int x],Fd lim bar, .int far,Sd ss b e m] n= .ok d [.lst l [.int c', .int x'],Fd lim bar, .int far,Sd ss b e m] n':=by
 have hz:=h.len h1
 have rb:=z6k gb
 have rs:=z6k h.sg
 have rm:=zgL h.mkd
 have lb:=z26 gb
 unfold z3K z60
 walk_at ""
 obtain⟨w,c1,x1,hw0,hw1,b1,e1⟩:=z0p l c x 8 n hbg (by decide) (by decide)
 rw[e1,z09 rfl rfl (by simp only[z02,labs,List.append_nil]) (fun q=>by walk_at "";try simp only[rb,rs,rm];rfl) (fun q=>by walk_at "";try simp only[rb,rs,rm];rfl)]
 try (walk_at "")
 obtain⟨f,c2,x2,hf0,hf1,b2,e2⟩:=z0p l c1 x1 3 n b1 (by decide) (by decide)
 rw[e2,z09 rfl rfl (by simp only[z02,labs,List.append_nil]) (fun q=>by walk_at "";try simp only[rb,rs,rm];rfl) (fun q=>by walk_at "";try simp only[rb,rs,rm];rfl)]
 try (walk_at "")
 have r4: ∀d,rp (pl l d) (.lst n [.int 4, .int 4, .int 24, .int 96])= .lst n [.int 4, .int 4, .int 24, .int 96]:=fun d=>z1n (by simp[labs,z02];lia)
 obtain⟨q,c3,x3,hq0,hq1,b3,e3⟩:=z0p l c2 x2 4 (n+1) b2 (by decide) (by decide)
 rw[e3,z09 rfl rfl (by simp only[z02,labs,List.append_nil]) (fun q=>by walk_at "";try simp only[rb,rs,rm];rfl) (fun q=>by walk_at "";try simp only[rb,rs,rm,r4];rfl)]
 try (walk_at "")
 obtain⟨v,hv,ev⟩:=at4' (a:=4) (b:=4) (c:=24) (d:=96) hq0 hq1
 rw[ev]
 walk_at ""
 obtain⟨k,c4,x4,hk0,hk1,b4,e4⟩:=z0p l c3 x3 v (n+1) b3 (by lia) (by lia)
 rw[e4,z09 rfl rfl (by simp only[z02,labs,List.append_nil]) (fun q=>by walk_at "";try simp only[rb,rs,rm];rfl) (fun q=>by walk_at "";try simp only[rb,rs,rm];rfl)]
 try (walk_at "")
 obtain⟨ys,c5,x5,n5,hy,ly,b5,hn5,e5⟩:=z5k l c4 x4 far (1+k) (n+1) b4 (by lia) hf (by lia) (by lia)
 have ry:=z6k hy
 rw[e5,z09 rfl rfl (by simp only[z02,labs,List.append_nil]) (fun q=>by walk_at "";try simp only[rb,rs,rm];rfl) (fun q=>by walk_at "";try simp only[rb,rs,rm];rfl)]
 try (walk_at "")
 have key: ∃zs n6,Sg zs/\zs.length=ys.length/\n5<=n6/\iteS (decide (0<f)) (sAsg (.nm 7) (mCB [(z0t (z1j (mVar 7)) (.nm 0) (rt true) (z03 z2g [(mVar 1),(mVar 0)]) 1 [1])] tupF)) sNx ⟨[some (.lst l [.int c5, .int x5]),some (Fd lim bar),some (.int far),some (Sd ss b e m),some (.int w),some (.bool (decide (0<f))),some (.int (1+k)),some (.tup ys),none],[some (.lst l [.int c5, .int x5]),some (Fd lim bar),some (.int far),some (Sd ss b e m)],n5⟩= .nx ⟨[some (.lst l [.int c5, .int x5]),some (Fd lim bar),some (.int far),some (Sd ss b e m),some (.int w),some (.bool (decide (0<f))),some (.int (1+k)),some (.tup zs),none],[some (.lst l [.int c5, .int x5]),some (Fd lim bar),some (.int far),some (Sd ss b e m)],n6⟩:=by
  by_cases hq:0<f
  ·simp only[hq,decide_true]
   obtain⟨zs,n6,hz6,_,lz,hn6,e6⟩:=z97 (lim:=lim) (bar:=bar) (ys:=ys) (σ:=[some (.lst l [.int c5, .int x5]),some (Fd lim bar),some (.int far),some (Sd ss b e m),some (.int w),some (.bool (decide (0<f))),some (.int (1+k)),some (.tup ys),none]) (tm:=[some (.lst l [.int c5, .int x5]),some (Fd lim bar),some (.int far),some (Sd ss b e m)]) (n:=n5) (mc:=mVar 7) (s:=⟨[some (.lst l [.int c5, .int x5]),some (Fd lim bar),some (.int far),some (Sd ss b e m),some (.int w),some (.bool (decide (0<f))),some (.int (1+k)),some (.tup ys),none],[some (.lst l [.int c5, .int x5]),some (Fd lim bar),some (.int far),some (Sd ss b e m)],n5⟩) gb hl hy (by lia) rfl (by walk_at "")
   simp only[hq,decide_true] at e6
   refine⟨zs,n6+1,hz6,lz,by lia, ?_⟩
   walk_at ""
   rw[e6]
   walk_at ""
  ·simp only[hq,decide_false]
   exact⟨ys,n5,hy,rfl,Nat.le_refl _,by walk_at ""⟩
 obtain⟨zs,n6,hz6,lz,hn6,e6⟩:=key
 have rz:=z6k hz6
 rw[e6]
 walk_at ""
 obtain⟨p,c6,x6,hp0,hp1,b6,e7⟩:=z0p l c5 x5 ((ss.length:Int)+2) n6 b5 (by lia) (by lia)
 rw[e7,z09 rfl rfl (by simp only[z02,labs,List.append_nil]) (fun q=>by walk_at "";try simp only[rb,rs,rm,rz];rfl) (fun q=>by walk_at "";try simp only[rb,rs,rm,rz];rfl)]
 try (walk_at "")
 obtain⟨p,rfl⟩:=Int.eq_ofNat_of_zero_le hp0
 by_cases w2:w<2
 ·simp only[w2,decide_true]
  walk_at ""
  rw[at2' hw0 w2]
  walk_at ""
  refine⟨_,c6,x6,n6+1, .inr (.inr (.inl ⟨if w=0 then "mark" else "commit",zs,by split<;>simp,hz6,by lia,by lia, ?_⟩)),b6,by lia,rfl⟩
  split<;>rfl
 simp only[w2,decide_false]
 walk_at ""
 cases w3:(w==2) with
 |true=>
  walk_at ""
  exact⟨_,c6,x6,n6, .inl rfl,b6,by lia,rfl⟩
 |false=>
 walk_at ""
 cases w4:(w==3) with
 |true=>
  walk_at ""
  obtain⟨r,c7,x7,hr0,hr1,b7,e8⟩:=z0p l c6 x6 ((ss.length:Int)+2 -p) n6 b6 (by lia) (by lia)
  rw[e8,z09 rfl rfl (by simp only[z02,labs,List.append_nil]) (fun q=>by walk_at "";try simp only[rb,rs,rm,rz];rfl) (fun q=>by walk_at "";try simp only[rb,rs,rm,rz];rfl)]
  try (walk_at "")
  obtain⟨r,rfl⟩:=Int.eq_ofNat_of_zero_le hr0
  exact⟨_,c7,x7,n6, .inr (.inl ⟨p,p+r,rfl,by lia,by lia⟩),b7,by lia,rfl⟩
 |false=>
 walk_at ""
 by_cases w6:w<6
 ·simp only[w6,decide_true]
  walk_at ""
  rw[show(24:Int)=((24:Nat):Int) from rfl,z2s]
  exact⟨_,c6,x6,n6, .inr (.inr (.inr (.inl ⟨p,zs.take 24,by lia,zbb hz6 _,by rw[List.length_take];lia,by rw[List.length_take];lia,rfl⟩))),b6,by lia,rfl⟩
 simp only[w6,decide_false]
 walk_at ""
 cases w7:(w==6) with
 |true=>
  walk_at ""
  have r4: ∀d,rp (pl l d) (.lst n6 [.int 3, .int 60])= .lst n6 [.int 3, .int 60]:=fun d=>z1n (by simp[labs,z02];lia)
  obtain⟨q,c7,x7,hq0,hq1,b7,e8⟩:=z0p l c6 x6 2 (n6+1) b6 (by decide) (by decide)
  rw[e8,z09 rfl rfl (by simp only[z02,labs,List.append_nil]) (fun q=>by walk_at "";try simp only[rb,rs,rm,rz];rfl) (fun q=>by walk_at "";try simp only[rb,rs,rm,rz,r4];rfl)]
  try (walk_at "")
  rw[at2' hq0 hq1]
  walk_at ""
  obtain⟨r,c8,x8,hr0,hr1,b8,e9⟩:=z0p l c7 x7 (if q=0 then 3 else 60) (n6+1) b7 (by split<;>decide) (by split<;>decide)
  have e9':(if q=0 then D.int 3 else D.int 60)= .int (if q=0 then 3 else 60):=by split<;>rfl
  rw[e9']
  rw[e9,z09 rfl rfl (by simp only[z02,labs,List.append_nil]) (fun q=>by walk_at "";try simp only[rb,rs,rm,rz];rfl) (fun q=>by walk_at "";try simp only[rb,rs,rm,rz];rfl)]
  try (walk_at "")
  obtain⟨r,rfl⟩:=Int.eq_ofNat_of_zero_le hr0
  exact⟨_,c8,x8,n6+1, .inr (.inr (.inr (.inr (.inl ⟨p,1+r,by lia,by lia,by split at hr1<;>lia,by simp⟩)))),b8,by lia,rfl⟩
 |false=>
 walk_at ""
 have hst:=z8s l c6 x6 lim far bar n6 b6 (by lia) hf h0 h1 gb hl
 obtain⟨ss',b',e',m',c7,x7,n7,hs7,b7,hn7,e8⟩:=hst
 rw[e8,z09 rfl rfl (by simp only[z02,labs,lb,List.append_nil]) (fun q=>by walk_at "";try simp only[rb,rs,rm,rz];rfl) (fun q=>by walk_at "";try simp only[rb,rs,rm,rz];rfl)]
 try (walk_at "")
 exact⟨_,c7,x7,n7, .inr (.inr (.inr (.inr (.inr ⟨_,⟨ss',b',e',m',rfl,hs7⟩,rfl⟩)))),b7,by lia,rfl⟩
theorem zcs{P:Nat->Stt->Prop}{l:Nat}{ds:List D}{g:Tg}{b:MS}{tm:List (Option D)}(hP: ∀i s,P i s->s.tm=some (.lst l ds)::tm)
 (body: ∀i d,ds[i]? =some d->∀s,P i s->∃σ',asg g d s.σ=some σ'/\∃s',b {s with σ:=σ'}= .nx s'/\P (i+1) s'):
 ∀(f i:Nat) (s:Stt),i+f=ds.length->P i s->∃s',forGo kLst g b f i s= .nx (s'.popn 1)/\P ds.length s':=by
 intro f
 induction f with
 |zero=>
  intro i s hi h
  have hi:i=ds.length:=by lia
  refine⟨s, ?_,hi▸h⟩
  unfold forGo
  have e:kLst.at' i s.tm=some none:=by rw[hP i s h];show some ds[i]? =_;rw[List.getElem?_eq_none (by lia)]
  simp only[e]
  rfl
 |succ f ih=>
  intro i s hi h
  have hl:i<ds.length:=by lia
  obtain⟨σ',e1,s',e2,h'⟩:=body i ds[i] (List.getElem?_eq_getElem hl) s h
  obtain⟨s2,e3,h2⟩:=ih (i+1) s' (by lia) h'
  refine⟨s2, ?_,h2⟩
  unfold forGo
  have e:kLst.at' i s.tm=some (some ds[i]):=by rw[hP i s h];show some ds[i]? =_;rw[List.getElem?_eq_getElem hl]
  simp only[e,e1,e2]
  exact e3
noncomputable def Lead(F:D):D->List D->D->Prop
 |S,[],R=>S=R
 |S,d::ds,R=> ∃w S',(∀n,∃n',n<=n'/\z0I [F,S,d] n= .ok (.tup [.str w,S']) [F,S,d] n')/\Lead F S' ds R
theorem Lead.app{F R R' d:D}{w:Str}(h: ∀n,∃n',n<=n'/\z0I [F,R,d] n= .ok (.tup [.str w,R']) [F,R,d] n'): ∀{ds:List D} {S:D},Lead F S ds R->Lead F S (ds++[d]) R'
 |[],S,q=>by cases(show S=R from q);exact⟨w,R',h,rfl⟩
 |e::ds,S,⟨v,S',q,r⟩=>⟨v,S',q,Lead.app h r⟩
noncomputable def Chn(F:D)(A B:List D):Prop:= ∃A' R,A=A'++[R]/\A'.length=B.length/\(∀i,i<=B.length->∃S,A[i]? =some S/\Lead F S (B.drop i) R)
theorem Chn.add{F R R' d:D}{w:Str}{A B:List D}(h:Chn F (A++[R]) B)(q: ∀n,∃n',n<=n'/\z0I [F,R,d] n= .ok (.tup [.str w,R']) [F,R,d] n'):Chn F (A++[R]++[R']) (B++[d]):=by
 obtain⟨A',R1,e,hl,hc⟩:=h
 obtain⟨rfl,e2⟩:=List.append_inj' e rfl
 cases e2
 refine⟨A++[R],R',rfl,by simp[hl],fun i hi=> ?_⟩
 rcases Nat.lt_or_ge B.length i with hb|hb
 ·have hi':i=B.length+1:=by simp at hi;lia
  subst hi'
  refine⟨R', ?_, ?_⟩
  ·rw[List.getElem?_append_right (by simp;lia)];simp[hl]
  ·rw[List.drop_eq_nil_of_le (by simp)];rfl
 ·obtain⟨S,e1,e2⟩:=hc i hb
  refine⟨S, ?_, ?_⟩
  ·rw[List.getElem?_append_left (by simp;lia)];exact e1
  ·rw[List.drop_append_of_le_length hb];exact Lead.app q e2
noncomputable def pk(a:Nat)(x y:D):List D:=if a=0 then[x,y] else[y,x]
theorem z3g{a:Nat}{x y:D}(h:a<=1):atI (pk a x y) (a:Int)=some x:=by
 rcases(show a=0\/a=1 by lia) with rfl|rfl<;>rfl
theorem zh4{a:Nat}{x y:D}{f:Nat->Option D}:rpL f (pk a x y)=pk a (rp f x) (rp f y):=by
 unfold pk;split<;>simp[rpL]
noncomputable def stL(ns:List Int)(lb:Nat)(c x far:Int)(k a:Nat)(F G:D)(A A' B B':List D)(o6 o7 o8 o9 o10 o11 o12:Option D):List (Option D):=[some (.ro (ns.map .int)),some (.lst lb [.int c, .int x]),some (.int far),some (.lst k (pk a F G)),some (.lst (k+3) (pk a (.lst (k+1+a) A) (.lst (k+2 -a) A'))),some (.lst (k+6) (pk a (.lst (k+4+a) B) (.lst (k+5 -a) B'))),o6,o7,o8,o9,o10,o11,o12]
noncomputable def bd2:MS:=(seqS (sAsg (.nm 9) (z03 z3K [(mVar 1),(mBin (mVar 3) (mVar 8) ixD),(mVar 2),(mBin (mBin (mVar 4) (mVar 8) ixD) (bd (mC (.int 1)) negD) ixD)]))
 (seqS (sAsg (.nm 10) (z03 z0L [(mBin (mVar 3) (mVar 8) ixD),(mBin (mBin (mVar 4) (mVar 8) ixD) (bd (mC (.int 1)) negD) ixD),(mVar 9)]))
 (seqS (sIf (mBoo (mBin (z03 z0I [(mBin (mVar 3) (mVar 8) ixD),(mBin (mBin (mVar 4) (mVar 8) ixD) (bd (mC (.int 1)) negD) ixD),(mVar 9)]) (mVar 10) neD)) (sRet (mC (.bool false))) sNx)
 (seqS (z6H (z5x (mBin (mVar 4) (mVar 8) ixD) [(mBin (mVar 10) (mC (.int 1)) ixD)] appD))
 (z6H (z5x (mBin (mVar 5) (mVar 8) ixD) [(mVar 9)] appD))))))
noncomputable def bd1:MS:=(sIf (mAnd (mBoo (mBin (mVar 7) (mCB [(mVar 0)] lenD) ltD)) (mBoo (mBin (mVar 7) (mC (.int 0)) gtD))) (sAsg (.nm 1) (z03 z4g [(mVar 0),(mVar 7)])) sNx)
theorem z9a{F S R:D}{ds:List D}{l:Nat}(n:Nat)(h:Lead F S ds R): ∃n',n<=n'/\z2r [F,S, .lst l ds] n= .ok R [F,S, .lst l ds] n':=by
 unfold z2r z61
 walk_at ""
 rw[zgr (by walk_at "";rfl)]
 walk_at ""
 obtain⟨s',e,S',o3,n',rfl,hn,hL⟩:=zcs (P:=fun i s=> ∃(S':D) (o3:Option D) (n':Nat),s=⟨[some F,some S',some (.lst l ds),o3],some (.lst l ds)::[some F,some S,some (.lst l ds)],n'⟩/\n<=n'/\Lead F S' (ds.drop i) R) (l:=l) (ds:=ds) (g:= .nm 3) (tm:=[some F,some S,some (.lst l ds)]) (b:=sAsg (.nm 1) (mBin (z03 z0I [(mVar 0),(mVar 1),(mVar 3)]) (mC (.int 1)) ixD))
  (by rintro i s ⟨S',o3,n',rfl,_⟩;rfl) (by
   rintro i d hd s ⟨S',o3,n',rfl,hn,hL⟩
   refine⟨_,rfl, ?_⟩
   have hi:i<ds.length:=by
    rcases Nat.lt_or_ge i ds.length with q|q
    ·exact q
    ·rw[List.getElem?_eq_none q] at hd;cases hd
   rw[List.drop_eq_getElem_cons hi] at hL
   rw[List.getElem?_eq_getElem hi] at hd
   cases hd
   obtain⟨w,S2,ht,hL⟩:=hL
   obtain⟨n2,hn2,e2⟩:=ht n'
   refine⟨⟨[some F,some S2,some (.lst l ds),some ds[i]],some (.lst l ds)::[some F,some S,some (.lst l ds)],n2⟩, ?_,S2,some ds[i],n2,rfl,by lia,hL⟩
   show sAsg _ _ ⟨[some F,some S',some (.lst l ds),some ds[i]],_,_⟩=_
   walk_at ""
   rw[e2]
   walk_at "") ds.length 0 ⟨[some F,some S,some (.lst l ds),none],some (.lst l ds)::[some F,some S,some (.lst l ds)],n⟩ (by lia) ⟨S,none,n,rfl,Nat.le_refl _,h⟩
 rw[List.drop_eq_nil_of_le (Nat.le_refl _)] at hL
 cases(show S'=R from hL)
 refine⟨n',hn, ?_⟩
 show(RS.sq _ (forGo kLst _ _ ds.length 0 _)).fin=_
 rw[e]
 show(RS.sq _ (RS.nx ⟨_,_,_⟩)).fin=_
 walk_at ""
 rfl
theorem z3l{l k:Nat}{q:D}{xs:List D}(h:l≠k)(hx:z02 xs=[]):rp (pl l q) (.lst k xs)= .lst k xs:=z1n (by simp only[labs,hx];simp;exact h)
theorem lab0{a:Nat}{x y:D}(hx:labs x=[])(hy:labs y=[]):z02 (pk a x y)=[]:=by unfold pk;split<;>simp[z02,hx,hy]
theorem fr2{l k s s' a:Nat}{q:D}{X Y:List D}(h1:k≠l)(h2:l≠s)(h3:l≠s')(hX:z02 X=[])(hY:z02 Y=[]):rp (pl l q) (.lst k (pk a (.lst s X) (.lst s' Y)))= .lst k (pk a (.lst s X) (.lst s' Y)):=by
 rw[zgB h1,zh4,z3l h2 hX,z3l h3 hY]
theorem up2{l k s' a:Nat}{q:D}{X Y:List D}(h1:k≠l)(h3:l≠s')(hY:z02 Y=[]):rp (pl l q) (.lst k (pk a (.lst l X) (.lst s' Y)))= .lst k (pk a q (.lst s' Y)):=by
 rw[zgB h1,zh4,z54,z3l h3 hY]
theorem z3h{A:List D}{R:D}(h:z02 A=[])(hR:labs R=[]):z02 (A++[R])=[]:=by
 induction A with
 |nil=>simp[z02,hR]
 |cons x A ih=>
  simp only[z02,List.append_eq_nil_iff] at h
  simp only[List.cons_append,z02,h.1,ih h.2,List.append_nil]
theorem zct{lim:Int}{bar:List D}{d:D}(h1:lim<=60)(h:Ded lim bar d):labs d=[]:=by
 rcases h with rfl|⟨b,e,rfl,_⟩|⟨w,us,_,su,_,_,rfl⟩|⟨p,us,_,su,_,_,rfl⟩|⟨p,k,_,_,_,rfl⟩|⟨R,hR,rfl⟩<;>simp[labs,z02]
 ·exact z26 su
 ·exact z26 su
 ·exact(z4j h1 hR).2.1
theorem zcX(ns:List Int)(lb k a n:Nat)(c x far lim T i:Int)(bar:List D)(G R:D)(A A' B B':List D)(o9 o10:Option D)(ha:a<=1)(h0:0<=lim)(h1:lim<=60)(gb:Sg bar)(hl:bar.length<=20)(lG:labs G=[])(hbg:Bg c x)(hn:lb<n)(hk:k+7<=n)(hb:lb<k\/k+7<=lb)(hf:0<=far)
 (hR:Ok9 lim bar R) (lA:z02 A=[]) (lA':z02 A'=[]) (lB:z02 B=[]) (lB':z02 B'=[]) (hz:A.length<=100) (hzB:B.length<=100) (r9: ∀l q,Option.map (rp (pl l q)) o9=o9) (r10: ∀l q,Option.map (rp (pl l q)) o10=o10):
 ∃d w R' c' x' n',Ok9 lim bar R'/\labs d=[]/\(∀n,∃n',n<=n'/\z0I [Fd lim bar,R,d] n= .ok (.tup [.str w,R']) [Fd lim bar,R,d] n')/\Bg c' x'/\n<=n'/\
  bd2 ⟨stL ns lb c x far k a (Fd lim bar) G (A++[R]) A' B B' (some (.int T)) (some (.int i)) (some (.int a)) o9 o10 none none,[some (.ro (ns.map .int))],n⟩
  = .nx ⟨stL ns lb c' x' far k a (Fd lim bar) G (A++[R]++[R']) A' (B++[d]) B' (some (.int T)) (some (.int i)) (some (.int a)) (some d) (some (.tup [.str w,R'])) none none,[some (.ro (ns.map .int))],n'⟩:=by
 have sr: ∀k d,rp (pl k d) (.ro (ns.map .int))= .ro (ns.map .int):=fun k d=>z1n (by
  simp only[labs];intro h;obtain⟨e,he,hk⟩:=labsL_mem h;obtain⟨j,_,rfl⟩:=List.mem_map.mp he;simp[labs] at hk)
 obtain⟨gR,lR,_,_⟩:=z4j h1 hR
 have lF:labs (Fd lim bar)=[]:=by simp only[labs,z02,z26 gb,List.append_nil]
 have lAR:=z3h lA lR
 obtain⟨ss,b,e,m,eR,hS⟩:=id hR
 obtain⟨d,c1,x1,n1,hd,b1,hn1,e1⟩:=zcr lb c x far n hS h0 h1 gb hl hbg hn hf
 rw[<-eR] at e1
 have ld:=zct h1 hd
 obtain⟨w,R',hw,hR',ht,hq⟩:=ziB h0 h1 gb hR hd
 obtain⟨gR',lR',_,tR',dR'⟩:=z4j h1 hR'
 obtain⟨n2,hn2,e2⟩:=hq n1
 obtain⟨n3,hn3,e3⟩:=ht n2
 have trT:Tr (.tup [.str w,R'])=true/\(er (.tup [.str w,R'])).depth<=4:=z8Y (by simp) fun q hq=>by
  simp only[List.mem_cons,List.not_mem_nil,or_false] at hq
  rcases hq with rfl|rfl
  ·exact zgE hw
  ·exact⟨tR',dR'⟩
 have gT:Gd (.tup [.str w,R']):=zec (n:=0) _ (zeb _ trT.1)
 have rd: ∀l q,rp (pl l q) d=d:=fun l q=>z1n (by rw[ld];exact List.not_mem_nil)
 have rR': ∀l q,rp (pl l q) R'=R':=fun l q=>z1n (by rw[lR'];exact List.not_mem_nil)
 have f3: ∀q,rp (pl lb q) (.lst k (pk a (Fd lim bar) G))= .lst k (pk a (Fd lim bar) G):=fun q=>z3l (by lia) (lab0 lF lG)
 have f4: ∀q,rp (pl lb q) (.lst (k+3) (pk a (.lst (k+1+a) (A++[R])) (.lst (k+2 -a) A')))= .lst (k+3) (pk a (.lst (k+1+a) (A++[R])) (.lst (k+2 -a) A')):=fun q=>fr2 (by lia) (by lia) (by lia) lAR lA'
 have f5: ∀q,rp (pl lb q) (.lst (k+6) (pk a (.lst (k+4+a) B) (.lst (k+5 -a) B')))= .lst (k+6) (pk a (.lst (k+4+a) B) (.lst (k+5 -a) B')):=fun q=>fr2 (by lia) (by lia) (by lia) lB lB'
 have s1: ∀q,rp (pl (k+1+a) q) (.lst lb [.int c1, .int x1])= .lst lb [.int c1, .int x1]:=fun q=>z3l (by lia) rfl
 have s3: ∀q,rp (pl (k+1+a) q) (.lst k (pk a (Fd lim bar) G))= .lst k (pk a (Fd lim bar) G):=fun q=>z3l (by lia) (lab0 lF lG)
 have s4: ∀q,rp (pl (k+1+a) q) (.lst (k+3) (pk a (.lst (k+1+a) (A++[R])) (.lst (k+2 -a) A')))= .lst (k+3) (pk a q (.lst (k+2 -a) A')):=fun q=>up2 (by lia) (by lia) lA'
 have s5: ∀q,rp (pl (k+1+a) q) (.lst (k+6) (pk a (.lst (k+4+a) B) (.lst (k+5 -a) B')))= .lst (k+6) (pk a (.lst (k+4+a) B) (.lst (k+5 -a) B')):=fun q=>fr2 (by lia) (by lia) (by lia) lB lB'
 have t1: ∀q,rp (pl (k+4+a) q) (.lst lb [.int c1, .int x1])= .lst lb [.int c1, .int x1]:=fun q=>z3l (by lia) rfl
 have t3: ∀q,rp (pl (k+4+a) q) (.lst k (pk a (Fd lim bar) G))= .lst k (pk a (Fd lim bar) G):=fun q=>z3l (by lia) (lab0 lF lG)
 have t4: ∀q,rp (pl (k+4+a) q) (.lst (k+3) (pk a (.lst (k+1+a) (A++[R]++[R'])) (.lst (k+2 -a) A')))= .lst (k+3) (pk a (.lst (k+1+a) (A++[R]++[R'])) (.lst (k+2 -a) A')):=fun q=>fr2 (by lia) (by lia) (by lia) (z3h lAR lR') lA'
 have t5: ∀q,rp (pl (k+4+a) q) (.lst (k+6) (pk a (.lst (k+4+a) B) (.lst (k+5 -a) B')))= .lst (k+6) (pk a q (.lst (k+5 -a) B')):=fun q=>up2 (by lia) (by lia) lB'
 refine⟨d,w,R',c1,x1,n3,hR',ld,ht,b1,by lia, ?_⟩
 unfold bd2 stL
 walk_at ""
 rw[z3g ha]
 walk_at ""
 rw[z3g ha]
 walk_at ""
 rw[z3O]
 walk_at ""
 rw[e1,z09 rfl rfl (by simp only[z02,labs,z26 gb,lR,List.append_nil]) (fun q=>by walk_at "";try simp only[sr,f3,f4,f5,r9,r10];rfl) (fun q=>by walk_at "";try simp only[sr];rfl)]
 try (walk_at "")
 rw[z3g ha]
 walk_at ""
 rw[z3g ha]
 walk_at ""
 rw[z3O]
 walk_at ""
 rw[e2]
 walk_at ""
 rw[z3g ha]
 walk_at ""
 rw[z3g ha]
 walk_at ""
 rw[z3O]
 walk_at ""
 rw[e3]
 walk_at ""
 rw[z8q gT gT rfl (by have:=trT.2;lia)]
 walk_at ""
 rw[z3g ha]
 walk_at ""
 rw[zgl ⟨by rw[zl];simp;lia,by rw[lR'];exact List.not_mem_nil⟩]
 walk_at ""
 simp only[sr,s1,s3,s4,s5,rd,rR',r9,r10]
 try (walk_at "")
 rw[z3g ha]
 walk_at ""
 rw[zgl ⟨by rw[zl];lia,by rw[ld];exact List.not_mem_nil⟩]
 walk_at ""
 simp only[sr,t1,t3,t4,t5,rd,rR']
structure Hst(lim:Int)(bar A:List D)(R:D)(B:List D)(i:Nat):Prop where
 ok:Ok9 lim bar R
 al: ∀S∈A,Ok9 lim bar S
 lA:z02 A=[]
 lB:z02 B=[]
 ch:Chn (Fd lim bar) (A++[R]) B
 nA:A.length<=i
 nB:B.length<=i
 bg:(A++[R])[0]? =some (.tup [.tup [], .int 0, .int 0, .non])
theorem Hst.up{lim:Int}{bar A:List D}{R:D}{B:List D}{i:Nat}(h:Hst lim bar A R B i):Hst lim bar A R B (i+1):=⟨h.ok,h.al,h.lA,h.lB,h.ch,by have:=h.nA;lia,by have:=h.nB;lia,h.bg⟩
theorem Hst.add{lim:Int}{bar A:List D}{R R' d:D}{w:Str}{B:List D}{i:Nat}(h:Hst lim bar A R B i)(h1:lim<=60)(o:Ok9 lim bar R')(ld:labs d=[])(q: ∀n,∃n',n<=n'/\z0I [Fd lim bar,R,d] n= .ok (.tup [.str w,R']) [Fd lim bar,R,d] n'):Hst lim bar (A++[R]) R' (B++[d]) (i+1):=by
 refine⟨o,fun S hS=> ?_,z3h h.lA (z4j h1 h.ok).2.1,z3h h.lB ld,h.ch.add q,by have:=h.nA;simp;lia,by have:=h.nB;simp;lia, ?_⟩
 ·rcases List.mem_append.mp hS with hS|hS
  ·exact h.al S hS
  ·cases List.mem_singleton.mp hS;exact h.ok
 ·rw[List.getElem?_append_left (by simp)];exact h.bg
noncomputable def Inv8(ns:List Int)(far T:Int)(k:Nat)(lim lim':Int)(bar bar':List D)(i:Nat)(s:Stt):Prop:= ∃(lb n:Nat) (c x:Int) (A A' B B':List D) (R R':D) (o7 o8 o9 o10:Option D),
 s=⟨stL ns lb c x far k 0 (Fd lim bar) (.tup [.int lim', .tup bar']) (A++[R]) (A'++[R']) B B' (some (.int T)) o7 o8 o9 o10 none none,[some (.ro (ns.map .int))],n⟩/\Bg c x/\lb<n/\k+7<=n/\(lb<k\/k+7<=lb)/\Hst lim bar A R B i/\Hst lim' bar' A' R' B' i/\(∀l q,Option.map (rp (pl l q)) o8=o8)/\(∀l q,Option.map (rp (pl l q)) o9=o9)/\(∀l q,Option.map (rp (pl l q)) o10=o10)/\∀l q,Option.map (rp (pl l q)) o7=o7
noncomputable def trnM:MS:=seqS bd1 (seqS (sAsg (.nm 8) (z03 z07 [(mVar 1),(mC (.int 2))])) bd2)
theorem rpo{d:D}(h:labs d=[])(l:Nat)(q:D):Option.map (rp (pl l q)) (some d)=some d:=by rw[Option.map_some,z1n (by rw[h];exact List.not_mem_nil)]
theorem zh5(ns:List Int)(hl:ns.length<1000)(lb k n j:Nat)(hj:j<100)(c x far:Int)(F G:D)(A A' B B':List D)(o6 o8 o9 o10:Option D)(hbg:Bg c x)(hn:lb<n)(hk:k+7<=n)(hb:lb<k\/k+7<=lb): ∃lb' c' x' n',Bg c' x'/\lb'<n'/\n<=n'/\(lb'<k\/k+7<=lb')/\
 bd1 ⟨stL ns lb c x far k 0 F G A A' B B' o6 (some (.int j)) o8 o9 o10 none none,[some (.ro (ns.map .int))],n⟩= .nx ⟨stL ns lb' c' x' far k 0 F G A A' B B' o6 (some (.int j)) o8 o9 o10 none none,[some (.ro (ns.map .int))],n'⟩:=by
 unfold bd1 stL
 walk_at ""
 by_cases h1:(j:Int)<((ns.map D.int).length:Int)
 ·simp only[h1,decide_true]
  walk_at ""
  by_cases h2:(0:Int)<(j:Int)
  ·simp only[h2,decide_true]
   walk_at ""
   obtain⟨c',x',b',e'⟩:=zcK ns j n (by lia) hl
   rw[e']
   walk_at ""
   exact⟨n,c',x',n+1,b',by lia,by lia,by lia,rfl⟩
  ·simp only[h2,decide_false]
   walk_at ""
   exact⟨lb,c,x,n,hbg,hn,Nat.le_refl _,hb,rfl⟩
 ·simp only[h1,decide_false]
  walk_at ""
  exact⟨lb,c,x,n,hbg,hn,Nat.le_refl _,hb,rfl⟩
theorem zh6(ns:List Int)(hl:ns.length<1000)(far T lim lim':Int)(k j:Nat)(hj:j<70)(bar bar':List D)(hf:0<=far)(h0:0<=lim)(h1:lim<=60)(gb:Sg bar)(hb:bar.length<=20)(h0':0<=lim')(h1':lim'<=60)(gb':Sg bar')(hb':bar'.length<=20)(s:Stt)(h:Inv8 ns far T k lim lim' bar bar' j s):
 ∃σ',asg (.nm 7) (.int (0+j)) s.σ=some σ'/\∃s',trnM {s with σ:=σ'}= .nx s'/\Inv8 ns far T k lim lim' bar bar' (j+1) s':=by
 obtain⟨lb,n,c,x,A,A',B,B',R,R',o7,o8,o9,o10,rfl,hbg,hn,hk,hq,H,H',r8,r9,r10,_⟩:=h
 refine⟨_,rfl, ?_⟩
 have sr: ∀k d,rp (pl k d) (.ro (ns.map .int))= .ro (ns.map .int):=fun k d=>z1n (by
  simp only[labs];intro h;obtain⟨e,he,hk⟩:=labsL_mem h;obtain⟨j,_,rfl⟩:=List.mem_map.mp he;simp[labs] at hk)
 obtain⟨lb,c,x,n',hbg,hn,hnn,hq,e1⟩:=zh5 ns hl lb k n j (by lia) c x far (Fd lim bar) (.tup [.int lim', .tup bar']) (A++[R]) (A'++[R']) B B' (some (.int T)) o8 o9 o10 hbg hn hk hq
 have lF:labs (Fd lim bar)=[]:=by simp only[labs,z02,z26 gb,List.append_nil]
 have lF':labs (.tup [.int lim', .tup bar'])=[]:=by simp only[labs,z02,z26 gb',List.append_nil]
 have lA:=z3h H.lA (z4j h1 H.ok).2.1
 have lA':=z3h H'.lA (z4j h1' H'.ok).2.1
 obtain⟨a,c2,x2,a0,a1,b2,e2⟩:=z0p lb c x 2 n' hbg (by decide) (by decide)
 obtain⟨a,rfl⟩:=Int.eq_ofNat_of_zero_le a0
 have f3: ∀q,rp (pl lb q) (.lst k (pk 0 (Fd lim bar) (.tup [.int lim', .tup bar'])))= .lst k (pk 0 (Fd lim bar) (.tup [.int lim', .tup bar'])):=fun q=>z3l (by lia) (lab0 lF lF')
 have f4: ∀q,rp (pl lb q) (.lst (k+3) (pk 0 (.lst (k+1+0) (A++[R])) (.lst (k+2 - 0) (A'++[R']))))= .lst (k+3) (pk 0 (.lst (k+1+0) (A++[R])) (.lst (k+2 - 0) (A'++[R']))):=fun q=>fr2 (by lia) (by lia) (by lia) lA lA'
 have f5: ∀q,rp (pl lb q) (.lst (k+6) (pk 0 (.lst (k+4+0) B) (.lst (k+5 - 0) B')))= .lst (k+6) (pk 0 (.lst (k+4+0) B) (.lst (k+5 - 0) B')):=fun q=>fr2 (by lia) (by lia) (by lia) H.lB H'.lB
 have e4:sAsg (.nm 8) (z03 z07 [(mVar 1),(mC (.int 2))]) ⟨stL ns lb c x far k 0 (Fd lim bar) (.tup [.int lim', .tup bar']) (A++[R]) (A'++[R']) B B' (some (.int T)) (some (.int j)) o8 o9 o10 none none,[some (.ro (ns.map .int))],n'⟩= .nx ⟨stL ns lb c2 x2 far k 0 (Fd lim bar) (.tup [.int lim', .tup bar']) (A++[R]) (A'++[R']) B B' (some (.int T)) (some (.int j)) (some (.int a)) o9 o10 none none,[some (.ro (ns.map .int))],n'⟩:=by
  unfold stL
  walk_at ""
  rw[e2,z0M rfl rfl rfl (by simp only[z1N,z2O,Option.map_some,Option.map_none,z54,z40,sr,f3,f4,f5,r8,r9,r10]) (by simp only[z1N,z2O,Option.map_some,sr])]
  walk_at ""
  simp only[z1N,z2O,Option.map_some,Option.map_none,z54,z40,sr,f3,f4,f5,r8,r9,r10]
  try (walk_at "")
 show ∃s',trnM ⟨stL ns _ _ _ far k 0 _ _ _ _ _ _ _ (some (.int (0+(j:Int)))) _ _ _ _ _,_,n⟩=_/\_
 unfold trnM
 simp only[Int.zero_add]
 rw[z8n,e1,z8l,z8n,e4,z8l]
 rcases(show a=0\/a=1 by lia) with rfl|rfl
 ·obtain⟨d,w,R2,c3,x3,n3,hR2,ld,ht,b3,hn3,e5⟩:=zcX ns lb k 0 n' c2 x2 far lim T j bar (.tup [.int lim', .tup bar']) R A (A'++[R']) B B' o9 o10 (by lia) h0 h1 gb hb lF' b2 hn (by lia) hq hf H.ok H.lA lA' H.lB H'.lB (by have:=H.nA;lia) (by have:=H.nB;lia) r9 r10
  refine⟨_,e5,lb,n3,c3,x3,A++[R],A',B++[d],B',R2,R',_,_,_,_,rfl,b3,by lia,by lia,hq,H.add h1 hR2 ld ht,H'.up,fun _ _=>rfl,rpo ld,rpo ?_,fun _ _=>rfl⟩
  simp only[labs,z02,(z4j h1 hR2).2.1,List.append_nil]
 ·obtain⟨d,w,R2,c3,x3,n3,hR2,ld,ht,b3,hn3,e5⟩:=zcX ns lb k 1 n' c2 x2 far lim' T j bar' (Fd lim bar) R' A' (A++[R]) B' B o9 o10 (by lia) h0' h1' gb' hb' lF b2 hn (by lia) hq hf H'.ok H'.lA lA H'.lB H.lB (by have:=H'.nA;lia) (by have:=H'.nB;lia) r9 r10
  refine⟨_,e5,lb,n3,c3,x3,A,A'++[R'],B,B'++[d],R,R2,_,_,_,_,rfl,b3,by lia,by lia,hq,H.up,H'.add h1' hR2 ld ht,fun _ _=>rfl,rpo ld,rpo ?_,fun _ _=>rfl⟩
  simp only[labs,z02,(z4j h1' hR2).2.1,List.append_nil]
theorem zcu{lim:Int}{bar:List D}{Q S:D}(h0:0<=lim)(h1:lim<=60)(gb:Sg bar)(hQ:Ok9 lim bar Q)(n:Nat): ∃n',n<=n'/\z0I [Fd lim bar,S, .tup [.str "stand",Q]] n= .ok (.tup [.str "done",Q]) [Fd lim bar,S, .tup [.str "stand",Q]] n':=by
 obtain⟨g,_,hs,_⟩:=z4j h1 hQ
 obtain⟨n1,hn1,e1⟩:=zb8 lim bar Q n h0 h1 (z0J gb) g.1
 rw[hs] at e1
 obtain⟨n2,hn2,e2⟩:=z3M (o:=none) (nofun) (zcW e1)
 exact⟨n2,by lia,e2⟩
theorem z9b: ∀{B:List D} {p:Nat},z02 B=[]->z02 (B.drop p)=[]
 |[],_,_=>by simp[z02]
 |x::B,0,h=>h
 |x::B,p+1,h=>by
  simp only[z02,List.append_eq_nil_iff] at h
  exact z9b (p:=p) h.2
noncomputable def bd3:MS:=(seqS (sIf (mBoo (mBin (z03 z2r [(mBin (mVar 3) (mVar 8) ixD),(mCB [(mCB [] tupD),(mC (.int 0)),(mC (.int 0)),(mC .non)] tupD),(mBin (mVar 5) (mVar 8) ixD)]) (mBin (mBin (mVar 4) (mVar 8) ixD) (bd (mC (.int 1)) negD) ixD) neD)) (sRet (mC (.bool false))) sNx)
 (seqS (sAsg (.nm 11) (z03 z07 [(mVar 1),(mBin (mCB [(mBin (mVar 5) (mVar 8) ixD)] lenD) (mC (.int 1)) addD)]))
 (seqS (sAsg (.nm 12) (mBin (mCB [(mCB [(mC (.str ("stand" :Str))),(mBin (mBin (mVar 4) (mVar 8) ixD) (mVar 11) ixD)] tupD)] lstM) (mSl (mBin (mVar 5) (mVar 8) ixD) (some (mVar 11)) none) addD))
 (seqS (sIf (mBoo (mBin (z03 z2r [(mBin (mVar 3) (mVar 8) ixD),(mBin (mBin (mVar 4) (mVar 8) ixD) (bd (mC (.int 1)) negD) ixD),(mVar 12)]) (mBin (mBin (mVar 4) (mVar 8) ixD) (bd (mC (.int 1)) negD) ixD) neD)) (sRet (mC (.bool false))) sNx)
 (sIf (mNot (z0R (mCB [(z0t (z1j (mBin (mVar 4) (mVar 8) ixD)) (.nm 0) (rt true) (z03 z0n [(mBin (mVar 1) (mVar 2) ixD),(mVar 0)]) 1 [3,8])] allD))) (sRet (mC (.bool false))) sNx)))))
theorem zcY(ns:List Int)(lb k a n i:Nat)(c x far lim T:Int)(bar:List D)(G R:D)(A A' B B':List D)(o7 o9 o10 o11 o12:Option D)(ha:a<=1)(h0:0<=lim)(h1:lim<=60)(gb:Sg bar)(lG:labs G=[])(hbg:Bg c x)(hn:lb<n)(hk:k+7<=n)(hb:lb<k\/k+7<=lb)
 (H:Hst lim bar A R B i) (hi:i<=70) (lA':z02 A'=[]) (lB':z02 B'=[]) (r7: ∀q,Option.map (rp (pl lb q)) o7=o7) (r9: ∀q,Option.map (rp (pl lb q)) o9=o9) (r10: ∀q,Option.map (rp (pl lb q)) o10=o10) (r11: ∀q,Option.map (rp (pl lb q)) o11=o11) (r12: ∀q,Option.map (rp (pl lb q)) o12=o12):
 ∃c' x' n' p12,∃p:Nat,Bg c' x'/\n<=n'/\(∀q,Option.map (rp (pl lb q)) p12=p12)/\
  bd3 ⟨stL ns lb c x far k a (Fd lim bar) G (A++[R]) A' B B' (some (.int T)) o7 (some (.int a)) o9 o10 o11 o12,[some (.ro (ns.map .int))],n⟩
  = .nx ⟨stL ns lb c' x' far k a (Fd lim bar) G (A++[R]) A' B B' (some (.int T)) o7 (some (.int a)) o9 o10 (some (.int p)) p12,[some (.ro (ns.map .int))],n'⟩:=by
 have sr: ∀k d,rp (pl k d) (.ro (ns.map .int))= .ro (ns.map .int):=fun k d=>z1n (by
  simp only[labs];intro h;obtain⟨e,he,hk⟩:=labsL_mem h;obtain⟨j,_,rfl⟩:=List.mem_map.mp he;simp[labs] at hk)
 obtain⟨gR,lR,_,tR,dR⟩:=z4j h1 H.ok
 have nA:=H.nA
 have nB:=H.nB
 have lF:labs (Fd lim bar)=[]:=by simp only[labs,z02,z26 gb,List.append_nil]
 have lAR:=z3h H.lA lR
 have f3: ∀q,rp (pl lb q) (.lst k (pk a (Fd lim bar) G))= .lst k (pk a (Fd lim bar) G):=fun q=>z3l (by lia) (lab0 lF lG)
 have f4: ∀q,rp (pl lb q) (.lst (k+3) (pk a (.lst (k+1+a) (A++[R])) (.lst (k+2 -a) A')))= .lst (k+3) (pk a (.lst (k+1+a) (A++[R])) (.lst (k+2 -a) A')):=fun q=>fr2 (by lia) (by lia) (by lia) lAR lA'
 have f5: ∀q,rp (pl lb q) (.lst (k+6) (pk a (.lst (k+4+a) B) (.lst (k+5 -a) B')))= .lst (k+6) (pk a (.lst (k+4+a) B) (.lst (k+5 -a) B')):=fun q=>fr2 (by lia) (by lia) (by lia) H.lB lB'
 obtain⟨A2,R2,eA,hlen,hch⟩:=H.ch
 obtain⟨rfl,e2⟩:=List.append_inj' eA rfl
 cases e2
 obtain⟨S0,es,hL0⟩:=hch 0 (Nat.zero_le _)
 rw[H.bg] at es
 cases es
 rw[List.drop_zero] at hL0
 obtain⟨n1,hn1,e1⟩:=z9a (l:=k+4+a) n hL0
 obtain⟨p,c2,x2,hp0,hp1,b2,e2⟩:=z0p lb c x ((B.length:Int)+1) n1 hbg (by lia) (by lia)
 obtain⟨p,rfl⟩:=Int.eq_ofNat_of_zero_le hp0
 obtain⟨Q,eQ,hLQ⟩:=hch p (by lia)
 have hQ:Ok9 lim bar Q:=by
  rcases List.mem_append.mp (List.mem_of_getElem? eQ) with q|q
  ·exact H.al Q q
  ·cases List.mem_singleton.mp q;exact H.ok
 have hL2:Lead (Fd lim bar) R (.tup [.str "stand",Q]::B.drop p) R:=⟨"done",Q,fun n=>zcu h0 h1 gb hQ n,hLQ⟩
 obtain⟨n3,hn3,e3⟩:=z9a (l:=n1+1+1) (n1+1+1+1) hL2
 obtain⟨n4,hn4,e4⟩:=z6y (mc:=mBin (mVar 4) (mVar 8) ixD) (mt:=rt true) (me:=z03 z0n [(mBin (mVar 1) (mVar 2) ixD),(mVar 0)]) (p:=fun _=>true) (g:=fun _=> .bool true) (l:=k+1+a) (ds:=A++[R]) (ix:=[3,8])
  (σ:=stL ns lb c2 x2 far k a (Fd lim bar) G (A++[R]) A' B B' (some (.int T)) o7 (some (.int a)) o9 o10 (some (.int p)) (some (.lst (n1+1+1) (.tup [.str "stand",Q]::B.drop p)))) (tm:=[some (.ro (ns.map .int))]) (n:=n3)
  (s:=⟨stL ns lb c2 x2 far k a (Fd lim bar) G (A++[R]) A' B B' (some (.int T)) o7 (some (.int a)) o9 o10 (some (.int p)) (some (.lst (n1+1+1) (.tup [.str "stand",Q]::B.drop p))),[some (.ro (ns.map .int))],n3⟩)
  (by unfold stL;walk_at "";rw[z3g ha];walk_at "") (by rw[zl];simp;lia) (fun d hd tm n=>⟨n,Nat.le_refl _,rfl⟩) (by
   intro d hd _ tm n
   have hd:Ok9 lim bar d:=by
    rcases List.mem_append.mp hd with q|q
    ·exact H.al d q
    ·cases List.mem_singleton.mp q;exact H.ok
   obtain⟨g,_,hs,_⟩:=z4j h1 hd
   obtain⟨n5,hn5,e5⟩:=zba lim bar d n h0 h1 (z0J gb) g.1
   rw[hs] at e5
   refine⟨n5,hn5, ?_⟩
   unfold stL
   simp only[List.map_cons,List.map_nil]
   walk_at ""
   simp only[Option.getD_some]
   walk_at ""
   rw[z3g ha]
   walk_at ""
   rw[e5]
   walk_at "")
 refine⟨c2,x2,n4+1,some (.lst (n1+1+1) (.tup [.str "stand",Q]::B.drop p)),p,b2,by lia,fun q=> ?_, ?_⟩
 ·rw[Option.map_some,z3l (by lia) (by simp only[z02,labs,(z4j h1 hQ).2.1,z9b H.lB,List.append_nil])]
 unfold bd3 stL
 walk_at ""
 rw[z3g ha]
 walk_at ""
 rw[z3g ha]
 walk_at ""
 rw[e1]
 walk_at ""
 rw[z3g ha]
 walk_at ""
 rw[z3O]
 walk_at ""
 rw[z8q gR gR rfl (by lia)]
 walk_at ""
 rw[z3g ha]
 walk_at ""
 rw[e2,z09 rfl rfl rfl (fun q=>by walk_at "";try simp only[sr,f3,f4,f5,r7,r9,r10,r11,r12];rfl) (fun q=>by walk_at "";try simp only[sr];rfl)]
 try (walk_at "")
 rw[z3g ha]
 walk_at ""
 rw[za0 eQ]
 walk_at ""
 rw[z3g ha]
 walk_at ""
 rw[z29,zcH (by rw[zl];simp;lia)]
 walk_at ""
 rw[z3g ha]
 walk_at ""
 rw[z3g ha]
 walk_at ""
 rw[z3O]
 walk_at ""
 rw[e3]
 walk_at ""
 rw[z3g ha]
 walk_at ""
 rw[z3O]
 walk_at ""
 rw[z8q gR gR rfl (by lia)]
 walk_at ""
 unfold stL at e4
 rw[e4,List.filter_eq_self.mpr (fun _ _=>rfl)]
 walk_at ""
 rw[ze1 (z4w _ fun _=>true),List.all_map,show(List.all (A++[R]) (id∘fun _=>true))=true from List.all_eq_true.mpr fun _ _=>rfl]
 walk_at ""
theorem zh7{lim:Int}{bar:List D}(h0:0<=lim):Stn lim bar [] 0 0 .non:=⟨fun d hd=>absurd hd List.not_mem_nil, .inl rfl,Nat.le_refl _,Nat.le_refl _,by simpa[outS] using h0,fun d hd=>absurd hd List.not_mem_nil⟩
theorem hst0{lim:Int}{bar:List D}(h0:0<=lim):Hst lim bar [] (.tup [.tup [], .int 0, .int 0, .non]) [] 0:=
 ⟨⟨[],0,0, .non,rfl,zh7 h0⟩,nofun,rfl,rfl,⟨[],_,rfl,rfl,fun i hi=>by cases Nat.le_zero.mp hi;exact⟨_,rfl,rfl⟩⟩,Nat.le_refl _,Nat.le_refl _,rfl⟩
noncomputable def tlM:MS:=(seqS (sAsg (.nm 6) (mBin (mC (.int 8)) (z03 z07 [(mVar 1),(mC (.int 13))]) addD))
 (seqS (sIf (mBoo (mBin (z03 z07 [(mVar 1),(mC (.int 8))]) (mC (.int 5)) eqD)) (sAsg (.nm 6) (mC (.int 60))) sNx)
 (seqS (sFor (z3s [(mVar 6)]) (.nm 7) trnM)
 (seqS (sFor (z3s [(mC (.int 2))]) (.nm 8) bd3)
 (sRet (mC (.bool true)))))))
theorem ziC(ns:List Int)(hl:ns.length<1000)(far lim lim' c x:Int)(lb k n:Nat)(bar bar':List D)(hf:0<=far)(h0:0<=lim)(h1:lim<=60)(gb:Sg bar)(hb:bar.length<=20)(h0':0<=lim')(h1':lim'<=60)(gb':Sg bar')(hb':bar'.length<=20)(hbg:Bg c x)(hn:lb<k)(hk:k+7<=n):
 ∃σ' n',tlM ⟨stL ns lb c x far k 0 (Fd lim bar) (.tup [.int lim', .tup bar']) ([]++[.tup [.tup [], .int 0, .int 0, .non]]) ([]++[.tup [.tup [], .int 0, .int 0, .non]]) [] [] none none none none none none none,[some (.ro (ns.map .int))],n⟩= .rt (.bool true) ⟨σ',[some (.ro (ns.map .int))],n'⟩:=by
 have sr: ∀k d,rp (pl k d) (.ro (ns.map .int))= .ro (ns.map .int):=fun k d=>z1n (by
  simp only[labs];intro h;obtain⟨e,he,hk⟩:=labsL_mem h;obtain⟨j,_,rfl⟩:=List.mem_map.mp he;simp[labs] at hk)
 have lF:labs (Fd lim bar)=[]:=by simp only[labs,z02,z26 gb,List.append_nil]
 have lF':labs (.tup [.int lim', .tup bar'])=[]:=by simp only[labs,z02,z26 gb',List.append_nil]
 have f3: ∀q,rp (pl lb q) (.lst k (pk 0 (Fd lim bar) (.tup [.int lim', .tup bar'])))= .lst k (pk 0 (Fd lim bar) (.tup [.int lim', .tup bar'])):=fun q=>z3l (by lia) (lab0 lF lF')
 have f4: ∀q,rp (pl lb q) (.lst (k+3) (pk 0 (.lst (k+1+0) ([]++[.tup [.tup [], .int 0, .int 0, .non]])) (.lst (k+2 - 0) ([]++[.tup [.tup [], .int 0, .int 0, .non]]))))= .lst (k+3) (pk 0 (.lst (k+1+0) ([]++[.tup [.tup [], .int 0, .int 0, .non]])) (.lst (k+2 - 0) ([]++[.tup [.tup [], .int 0, .int 0, .non]]))):=fun q=>fr2 (by lia) (by lia) (by lia) rfl rfl
 have f5: ∀q,rp (pl lb q) (.lst (k+6) (pk 0 (.lst (k+4+0) []) (.lst (k+5 - 0) [])))= .lst (k+6) (pk 0 (.lst (k+4+0) []) (.lst (k+5 - 0) [])):=fun q=>fr2 (by lia) (by lia) (by lia) rfl rfl
 have key: ∃(T:Int) (c' x':Int),0<=T/\T<=60/\Bg c' x'/\tlM ⟨stL ns lb c x far k 0 (Fd lim bar) (.tup [.int lim', .tup bar']) ([]++[.tup [.tup [], .int 0, .int 0, .non]]) ([]++[.tup [.tup [], .int 0, .int 0, .non]]) [] [] none none none none none none none,[some (.ro (ns.map .int))],n⟩=
  (seqS (sFor (z3s [(mVar 6)]) (.nm 7) trnM) (seqS (sFor (z3s [(mC (.int 2))]) (.nm 8) bd3) (sRet (mC (.bool true))))) ⟨stL ns lb c' x' far k 0 (Fd lim bar) (.tup [.int lim', .tup bar']) ([]++[.tup [.tup [], .int 0, .int 0, .non]]) ([]++[.tup [.tup [], .int 0, .int 0, .non]]) [] [] (some (.int T)) none none none none none none,[some (.ro (ns.map .int))],n⟩:=by
  obtain⟨r,c1,x1,hr0,hr1,b1,e1⟩:=z0p lb c x 13 n hbg (by decide) (by decide)
  obtain⟨q,c2,x2,hq0,hq1,b2,e2⟩:=z0p lb c1 x1 8 n b1 (by decide) (by decide)
  have ea:sAsg (.nm 6) (mBin (mC (.int 8)) (z03 z07 [(mVar 1),(mC (.int 13))]) addD) ⟨stL ns lb c x far k 0 (Fd lim bar) (.tup [.int lim', .tup bar']) ([]++[.tup [.tup [], .int 0, .int 0, .non]]) ([]++[.tup [.tup [], .int 0, .int 0, .non]]) [] [] none none none none none none none,[some (.ro (ns.map .int))],n⟩= .nx ⟨stL ns lb c1 x1 far k 0 (Fd lim bar) (.tup [.int lim', .tup bar']) ([]++[.tup [.tup [], .int 0, .int 0, .non]]) ([]++[.tup [.tup [], .int 0, .int 0, .non]]) [] [] (some (.int (8+r))) none none none none none none,[some (.ro (ns.map .int))],n⟩:=by
   unfold stL
   rw[zgw,zcc,x_C,z1v,zcE,zaM]
   simp only[zea,z7a,List.getElem?_cons_succ,List.getElem?_cons_zero,z1v]
   rw[e1,z0M rfl rfl rfl (by simp only[z1N,z2O,Option.map_some,Option.map_none,z54,z40,sr,f3,f4,f5]) (by simp only[z1N,z2O,Option.map_some,z40,sr])]
   simp only[z1v,z1N,z2O,Option.map_some,Option.map_none,z54,z40,sr,f3,f4,f5,zg5,zcG,zaK]
   rfl
  have eb: ∃T:Int,0<=T/\T<=60/\sIf (mBoo (mBin (z03 z07 [(mVar 1),(mC (.int 8))]) (mC (.int 5)) eqD)) (sAsg (.nm 6) (mC (.int 60))) sNx ⟨stL ns lb c1 x1 far k 0 (Fd lim bar) (.tup [.int lim', .tup bar']) ([]++[.tup [.tup [], .int 0, .int 0, .non]]) ([]++[.tup [.tup [], .int 0, .int 0, .non]]) [] [] (some (.int (8+r))) none none none none none none,[some (.ro (ns.map .int))],n⟩= .nx ⟨stL ns lb c2 x2 far k 0 (Fd lim bar) (.tup [.int lim', .tup bar']) ([]++[.tup [.tup [], .int 0, .int 0, .non]]) ([]++[.tup [.tup [], .int 0, .int 0, .non]]) [] [] (some (.int T)) none none none none none none,[some (.ro (ns.map .int))],n⟩:=by
   unfold stL
   rw[zgh,zg6,x_bC,zaM]
   simp only[zea,z7a,List.getElem?_cons_succ,List.getElem?_cons_zero,z1v]
   rw[e2,z0M rfl rfl rfl (by simp only[z1N,z2O,Option.map_some,Option.map_none,z54,z40,sr,f3,f4,f5]) (by simp only[z1N,z2O,Option.map_some,z40,sr])]
   simp only[z1v,z1N,z2O,Option.map_some,Option.map_none,z54,z40,sr,f3,f4,f5,zgy,zcF,zaK]
   cases(q==5) with
   |true=>exact⟨60,by decide,by decide,rfl⟩
   |false=>exact⟨8+r,by lia,by lia,rfl⟩
  obtain⟨T,t0,t1,eb⟩:=eb
  refine⟨T,c2,x2,t0,t1,b2, ?_⟩
  unfold tlM
  rw[z8n,ea,z8l,z8n,eb,z8l]
 obtain⟨T,c,x,t0,t1,hbg,ek⟩:=key
 rw[ek]
 clear ek
 have e6:sFor (z3s [(mVar 6)]) (.nm 7) trnM ⟨stL ns lb c x far k 0 (Fd lim bar) (.tup [.int lim', .tup bar']) ([]++[.tup [.tup [], .int 0, .int 0, .non]]) ([]++[.tup [.tup [], .int 0, .int 0, .non]]) [] [] (some (.int T)) none none none none none none,[some (.ro (ns.map .int))],n⟩=forGo (kRng 0 T.toNat) (.nm 7) trnM T.toNat 0 ⟨stL ns lb c x far k 0 (Fd lim bar) (.tup [.int lim', .tup bar']) ([]++[.tup [.tup [], .int 0, .int 0, .non]]) ([]++[.tup [.tup [], .int 0, .int 0, .non]]) [] [] (some (.int T)) none none none none none none,[some (.ro (ns.map .int))],n⟩:=by
  rw[ze5,z7L,x_a1,show(stL ns lb c x far k 0 (Fd lim bar) (.tup [.int lim', .tup bar']) ([]++[.tup [.tup [], .int 0, .int 0, .non]]) ([]++[.tup [.tup [], .int 0, .int 0, .non]]) [] [] (some (.int T)) none none none none none none)[6]? =some (some (.int T)) from rfl,z8W,z1v,z7M ⟨by lia,by lia⟩,zaK]
  rfl
 obtain⟨s',e7,lb,n2,c2,x2,A,A',B,B',R,R',o7,o8,o9,o10,rfl,b2,hn2,hk2,hq,H,H',r8,r9,r10,r7⟩:=z8o (P:=Inv8 ns far T k lim lim' bar bar') (lo:=0) (N:=T.toNat) (g:= .nm 7) (b:=trnM) (fun j hj s h=>zh6 ns hl far T lim lim' k j (by lia) bar bar' hf h0 h1 gb hb h0' h1' gb' hb' s h) T.toNat 0 ⟨stL ns lb c x far k 0 (Fd lim bar) (.tup [.int lim', .tup bar']) ([]++[.tup [.tup [], .int 0, .int 0, .non]]) ([]++[.tup [.tup [], .int 0, .int 0, .non]]) [] [] (some (.int T)) none none none none none none,[some (.ro (ns.map .int))],n⟩ (by lia) ⟨lb,n,c,x,[],[],[],[],_,_,none,none,none,none,rfl,hbg,by lia,hk, .inl hn,hst0 h0,hst0 h0',fun _ _=>rfl,fun _ _=>rfl,fun _ _=>rfl,fun _ _=>rfl⟩
 have e8: ∀σ n,sFor (z3s [(mC (.int 2))]) (.nm 8) bd3 ⟨σ,[some (.ro (ns.map .int))],n⟩=forGo (kRng 0 2) (.nm 8) bd3 2 0 ⟨σ,[some (.ro (ns.map .int))],n⟩:=fun σ n=>by
  rw[ze5,z7L,zaX,x_C,z1v,z1v,z7M (by decide),zaK];rfl
 have lA:=z3h H.lA (z4j h1 H.ok).2.1
 have lA':=z3h H'.lA (z4j h1' H'.ok).2.1
 rw[z8n,e6,e7,z8l,z8n,e8]
 obtain⟨s',e9,c3,x3,n3,u7,u8,u11,u12,rfl,_⟩:=z8o (P:=fun i s=> ∃(c x:Int) (n3:Nat) (o7 o8 o11 o12:Option D),s=⟨stL ns lb c x far k 0 (Fd lim bar) (.tup [.int lim', .tup bar']) (A++[R]) (A'++[R']) B B' (some (.int T)) o7 o8 o9 o10 o11 o12,[some (.ro (ns.map .int))],n3⟩/\Bg c x/\n2<=n3/\(∀q,Option.map (rp (pl lb q)) o7=o7)/\(∀q,Option.map (rp (pl lb q)) o11=o11)/\∀q,Option.map (rp (pl lb q)) o12=o12) (lo:=0) (N:=2) (g:= .nm 8) (b:=bd3) (by
  rintro i hi s ⟨c,x,n3,o7,o8,o11,o12,rfl,hb3,hn3,r7,r11,r12⟩
  refine⟨_,rfl, ?_⟩
  rcases(show i=0\/i=1 by lia) with rfl|rfl
  ·obtain⟨c',x',n',p12,p,hb4,hn4,r12',e⟩:=zcY ns lb k 0 n3 _ c x far lim T bar (.tup [.int lim', .tup bar']) R A (A'++[R']) B B' o7 o9 o10 o11 o12 (by lia) h0 h1 gb lF' hb3 (by lia) (by lia) hq H (by lia) lA' H'.lB r7 (r9 lb) (r10 lb) r11 r12
   exact⟨_,e,c',x',n',o7,_,_,p12,rfl,hb4,by lia,r7,fun _=>rfl,r12'⟩
  ·obtain⟨c',x',n',p12,p,hb4,hn4,r12',e⟩:=zcY ns lb k 1 n3 _ c x far lim' T bar' (Fd lim bar) R' A' (A++[R]) B' B o7 o9 o10 o11 o12 (by lia) h0' h1' gb' lF hb3 (by lia) (by lia) hq H' (by lia) lA H.lB r7 (r9 lb) (r10 lb) r11 r12
   exact⟨_,e,c',x',n',o7,_,_,p12,rfl,hb4,by lia,r7,fun _=>rfl,r12'⟩) 2 0 ⟨stL ns lb c2 x2 far k 0 (Fd lim bar) (.tup [.int lim', .tup bar']) (A++[R]) (A'++[R']) B B' (some (.int T)) o7 o8 o9 o10 none none,[some (.ro (ns.map .int))],n2⟩ (by lia) ⟨c2,x2,n2,o7,o8,none,none,rfl,b2,Nat.le_refl _,r7 lb,fun _=>rfl,fun _=>rfl⟩
 rw[e9,z8l]
 exact⟨_,_,rfl⟩
theorem zh8(ns:List Int)(hl:ns.length<1000)(n:Nat): ∃n',f_law [.ro (ns.map .int)] n= .ok (.bool true) [.ro (ns.map .int)] n':=by
 unfold f_law
 have sr: ∀k d,rp (pl k d) (.ro (ns.map .int))= .ro (ns.map .int):=fun k d=>z1n (by
  simp only[labs];intro h;obtain⟨e,he,hk⟩:=labsL_mem h;obtain⟨j,_,rfl⟩:=List.mem_map.mp he;simp[labs] at hk)
 have e0:zdW=seqS (sAsg (.nm 1) (z03 z4g [(mVar 0),(mC (.int 0))])) (seqS (sAsg (.nm 2) (z03 z07 [(mVar 1),(mC (.int 1040))]))
  (seqS (sAsg (.nm 3) (mCB [(z03 z2p [(mVar 1),(mVar 2)]),(z03 z2p [(mVar 1),(mVar 2)])] lstM))
  (seqS (sAsg (.nm 4) (mCB [(mCB [(mCB [(mCB [] tupD),(mC (.int 0)),(mC (.int 0)),(mC .non)] tupD)] lstM),(mCB [(mCB [(mCB [] tupD),(mC (.int 0)),(mC (.int 0)),(mC .non)] tupD)] lstM)] lstM))
  (seqS (sAsg (.nm 5) (mCB [(mCB [] lstM),(mCB [] lstM)] lstM)) tlM)))):=rfl
 rw[e0]
 walk_at ""
 obtain⟨c,x,b0,e1⟩:=zcK ns 0 n (by lia) hl
 rw[show(0:Int)=((0:Nat):Int) from rfl,e1]
 walk_at ""
 obtain⟨far,c1,x1,hf0,hf1,b1,e1⟩:=z0p n c x 1040 (n+1) b0 (by decide) (by decide)
 rw[e1,z09 rfl rfl rfl (fun q=>by walk_at "";try simp only[sr];rfl) (fun q=>by walk_at "";try simp only[sr];rfl)]
 try (walk_at "")
 obtain⟨lim,bar,c2,x2,n2,⟨g0,g1⟩,hb2,lb2,b2,hn2,e2⟩:=z95 n c1 x1 far (n+1) b1 (by lia) hf0
 have rb:=z6k hb2
 rw[e2,z09 rfl rfl rfl (fun q=>by walk_at "";try simp only[sr];rfl) (fun q=>by walk_at "";try simp only[sr];rfl)]
 try (walk_at "")
 obtain⟨lim',bar',c3,x3,n3,⟨g0',g1'⟩,hb3,lb3,b3,hn3,e3⟩:=z95 n c2 x2 far n2 b2 (by lia) hf0
 rw[e3,z09 rfl rfl rfl (fun q=>by walk_at "";try simp only[sr,rb];rfl) (fun q=>by walk_at "";try simp only[sr,rb];rfl)]
 try (walk_at "")
 obtain⟨σ',n',e4⟩:=ziC ns hl far lim lim' c3 x3 n n3 (n3+7) bar bar' hf0 g0 g1 hb2 lb2 g0' g1' hb3 lb3 b3 (by lia) (by lia)
 refine⟨n', ?_⟩
 simp only[stL,pk,if_true,List.nil_append,Nat.sub_zero,Nat.add_zero] at e4
 simp only[Nat.add_assoc,Nat.reduceAdd]
 rw[e4]
 walk_at ""
end My
set_option maxHeartbeats 4000000
namespace Mi
open PySem L2 PySem.Spec PyProof.Rows
noncomputable def zbn(K:W.Frag)(np:Nat)(f:FM):Sp:=fun vs H Q E=>vs.length=np/\∀G:Gx,G.K=K->KD K H->spM G np f vs H Q E
theorem zh9{P:Program}{w:World}{K:W.Frag}{mg:Str->Option Value}{base:Heap}{CX:CXT}{k:Nat}{fa:Addr}{fd:FuncData}{x:Str}{f:FM}{G:Gx}(hG:G.K=K)(F:FnOk P w K mg base CX k fa fd [x] (spM G 1 f)):FnOk P w K mg base CX k fa fd [x] (zbn K 1 f):=
 ⟨fun _ _ _ _ h=>h.1,fun A outer s H args us vs Q E hr e0 hb hv h=>F.run A outer s H args us vs Q E hr e0 hb hv (h.2 G hG fun a o e=>(e0.bs a o (e0.mod.kin a o e)).2)⟩
theorem RDs.ints{G:Gx}{ρ:Nat->Addr}{H:Hp}: ∀ns:List Int,RDs G ρ H (ns.map D.int) (ns.map V.int)
 |[]=>by simp only[List.map_nil,RDs]
 |n::ns=>by
  simp only[List.map_cons,RDs]
  exact⟨_,_,rfl,by simp only[RD],RDs.ints ns⟩
theorem z7S: ∀ns:List Int,z02 (ns.map D.int)=[]
 |[]=>by simp only[List.map_nil,z02]
 |n::ns=>by simp only[List.map_cons,z02,labs,z7S ns,List.nil_append]
theorem zha{K:W.Frag}{H:Hp}{a:Addr}{ns:List Int}{f:FM}{E:XK}(e: ∀n,∃n',f [.ro (ns.map D.int)] n= .ok (.bool true) [.ro (ns.map D.int)] n')(hO:Only H)(hS:SqL K H a (ns.map V.int)):zbn K 1 f [.ref a] H (fun v _=>v= .bl true) E:=by
 refine⟨rfl,fun G hG kd=> ?_⟩
 subst hG
 refine⟨rfl,fun _=>a,0,[.ro (ns.map D.int)], ?_,fun i j hi=>absurd hi (Nat.not_lt_zero _),fun l hl=>absurd hl (Nat.not_lt_zero _),fun l hl=> ?_,kd, ?_⟩
 ·simp only[RDs,RD]
  refine⟨_,_,rfl,⟨a,ns.map V.int,rfl, ?_,RDs.ints ns⟩,rfl⟩
  rcases hS with(h|h)|h
  ·rcases hO a with z|⟨o,xs,z⟩<;>rw[h] at z<;>cases z
  ·exact .inl h
  ·exact .inr h
 ·simp only[z02,labs,z7S,List.append_nil] at hl
  cases hl
 ·obtain⟨n',e⟩:=e 0
  rw[e]
  intro ρ' v H' _ rd _
  simp only[RD] at rd
  exact rd
end Mi
namespace My
open PySem L2 Mi
structure DA(K:W.Frag)(x:Str)(st:Stmt)(f:Addr)(d:FuncData):Prop where
 a:W.nsIn K mainGlobals x=some (some (.ref f))
 F:Fun K x x st f d
theorem ziD{K:W.Frag}{x:Str}{st:Stmt}{f:Addr}{oc:Value}{od an:Option Addr}{sl:Array (Option Value)}{kV dc pm cd ct:Value}(a:W.nsIn K mainGlobals x=some (some (.ref f)))
 (l:K.lookup f=some ⟨oc,od, .func (W.fnOf x x (z44 st) (z0Q st) (z01 st) .none kV dc pm an cd ct),sl⟩) (c:W.codeIn K cd x=true) (k:W.keepIn K (.ref f)=true):
 DA K x st f (W.fnOf x x (z44 st) (z0Q st) (z01 st) .none kV dc pm an cd ct):=⟨a,zfe l c k⟩
noncomputable def dx{K:W.Frag}{h:Heap}{mg:Str->Option Value}{x:Str}{st:Stmt}{f:Addr}{d:FuncData}{ps:List Str}(X:K.In h)(G:h.Ns mainGlobals mg)(a:DA K x st f d)
 (b: ∀(kV dc pm:Value) (an:Option Addr) (cd ct:Value) (us:List Value),us.length=ps.length->bindArgs (W.fnOf x x (z44 st) (z0Q st) (z01 st) .none kV dc pm an cd ct) ⟨us,[]⟩=pure (ps.zip us)):Dx K mg x st ps:=
 ⟨f,d,a.F,a.F.binds b,W.mg_of X G a.a⟩
theorem zhb{l:W.OpenLaw}{w:World}{K:W.Frag}{h:Heap}{mg:Str->Option Value}{fa f0 f1 f2 f3 f4 f5 f6 f7 f8 f9 f10 f11 f12 f13 f14 f15 f16 f17 f18 f19 f20 f21 f22 f23 f24 f25 f26 f27 f28 f29 f30 f31 f32 f33 f34 f35 f36 f37 f38 f39 f40:Addr}{d0 d1 d2 d3 d4 d5 d6 d7 d8 d9 d10 d11 d12 d13 d14 d15 d16 d17 d18 d19 d20 d21 d22 d23 d24 d25 d26 d27 d28 d29 d30 d31 d32 d33 d34 d35 d36 d37 d38 d39 d40:FuncData}(X:K.In h)(G:h.Ns mainGlobals mg)(hfa:mg "law" =some (.ref fa))
 (a0:DA K "is_number" z31 f0 d0)
 (a1:DA K "is_whole" z3u f1 d1)
 (a2:DA K "is_row" z4M f2 d2)
 (a3:DA K "is_standing" z2k f3 d3)
 (a4:DA K "is_marked_stretch" z0X f4 d4)
 (a5:DA K "free_signs" z2y f5 d5)
 (a6:DA K "has_barred" z2z f6 d6)
 (a7:DA K "is_deed" z49 f7 d7)
 (a8:DA K "after" z5A f8 d8)
 (a9:DA K "after_mark" z2A f9 d9)
 (a10:DA K "after_unmark" z1S f10 d10)
 (a11:DA K "after_commit" z1T f11 d11)
 (a12:DA K "replaced" z3v f12 d12)
 (a13:DA K "refuse_signs" z1U f13 d13)
 (a14:DA K "after_choose" z1V f14 d14)
 (a15:DA K "after_put" z32 f15 d15)
 (a16:DA K "moved_on" z3w f16 d16)
 (a17:DA K "after_out" z33 f17 d17)
 (a18:DA K "moved_back" z2B f18 d18)
 (a19:DA K "_law_bag" z87 f19 d19)
 (a20:DA K "_law_take" z6L f20 d20)
 (a21:DA K "_law_sign" z6M f21 d21)
 (a22:DA K "_law_signs" z5B f22 d22)
 (a23:DA K "_law_field" z5C f23 d23)
 (a24:DA K "_law_free" z6N f24 d24)
 (a25:DA K "_law_standing" z3x f25 d25)
 (a26:DA K "_law_is_from" z4a f26 d26)
 (a27:DA K "_law_are_signs" z34 f27 d27)
 (a28:DA K "_law_is_stretch" z2C f28 d28)
 (a29:DA K "_law_is_standing" z2l f29 d29)
 (a30:DA K "_law_name" z6O f30 d30)
 (a31:DA K "_law_told" z6P f31 d31)
 (a32:DA K "_law_own" z88 f32 d32)
 (a33:DA K "_law_left" z6Q f33 d33)
 (a34:DA K "_law_out" z89 f34 d34)
 (a35:DA K "_law_put" z8a f35 d35)
 (a36:DA K "_law_is_deed" z4b f36 d36)
 (a37:DA K "_law_after" z5D f37 d37)
 (a38:DA K "_law_drawn" z5E f38 d38)
 (a39:DA K "_law_again" z5F f39 d39)
 (a40:DA K "law" zdQ f40 d40)
 (z0:W.nsIn K mainGlobals "ValueError" =some none)
 (z1:W.nsIn K mainGlobals "abs" =some none)
 (z2:W.nsIn K mainGlobals "all" =some none)
 (z3:W.nsIn K mainGlobals "any" =some none)
 (z4:W.nsIn K mainGlobals "bool" =some none)
 {tk5:Nat} (z5:W.nsIn K mainGlobals "LAST_PLACE" =some (some (.int 999 tk5)))
 {tk6:Nat} (z6:W.nsIn K mainGlobals "LAST_SIGN" =some (some (.int 1039 tk6)))
 {tk7:Nat} (z7:W.nsIn K mainGlobals "MOST_MARKED" =some (some (.int 96 tk7)))
 {tk8:Nat} (z8:W.nsIn K mainGlobals "MOST_OUT" =some (some (.int 60 tk8)))
 {tk9:Nat} (z9:W.nsIn K mainGlobals "MOST_PUT" =some (some (.int 24 tk9)))
 (z10:W.nsIn K mainGlobals "enumerate" =some none)
 (z11:W.nsIn K mainGlobals "int" =some none)
 (z12:W.nsIn K mainGlobals "isinstance" =some none)
 (z13:W.nsIn K mainGlobals "len" =some none)
 (z14:W.nsIn K mainGlobals "min" =some none)
 (z15:W.nsIn K mainGlobals "range" =some none)
 (z16:W.nsIn K mainGlobals "str" =some none)
 (z17:W.nsIn K mainGlobals "tuple" =some none)
 {kbi:Addr}
 (q1:nI K "Barred" kbi)
 {kat:Addr}
 (q3:nI K "BenchError" kat)
 {kbz:Addr}
 (q5:nI K "Fight" kbz)
 {kbG:Addr}
 (q7:nI K "Full" kbG)
 {kbv:Addr}
 (q9:nI K "Marked" kbv)
 {kaT:Addr}
 (q11:nI K "Missing" kaT)
 {kaN:Addr}
 (q13:nI K "NoChoice" kaN)
 {kaE:Addr}
 (q15:nI K "NoCutting" kaE)
 {kbj:Addr}
 (q17:nI K "NoDeed" kbj)
 {kbk:Addr}
 (q19:nI K "NoMark" kbk)
 {kbl:Addr}
 (q21:nI K "NoNode" kbl)
 {kbb:Addr}
 (q23:nI K "NoPlace" kbb)
 {kaI:Addr}
 (q25:nI K "NoSaying" kaI)
 {kav:Addr}
 (q27:nI K "NoStanding" kav)
 {kba:Addr}
 (q29:nI K "NoTable" kba)
 {kbq:Addr}
 (q31:nI K "NoText" kbq)
 {kbg:Addr}
 (q33:nI K "NoTurn" kbg)
 {kbr:Addr}
 (q35:nI K "NoWish" kbr)
 {kbo:Addr}
 (q37:nI K "NoWord" kbo)
 {ka3:Addr}
 (q39:nI K "Nothing" ka3)
 {ka1:Addr}
 (q41:nI K "TooLong" ka1)
 {ka4:Addr}
 (q43:nI K "TooMany" ka4)
 {kby:Addr}
 (q45:nI K "Twice" kby)
 {kbC:Addr}
 (q47:nI K "Waits" kbC)
 (q48:xA K kbi)
 (q49:mO K kbi "object")
 (q50:mO K kbi "BaseException")
 (q51:fA K kbi)
 (q52:fB K kbi)
 (q53:fC K kbi)
 (q54:eB K kbi kat)
 (q55:kF K kbi kbj false)
 (q56:kF K kbi kav false)
 (q57:kF K kbi kbb false)
 (q58:kF K kbi kbk false)
 (q59:kF K kbi kbv false)
 (q60:kF K kbi kbi true)
 (q61:kF K kbi ka1 false)
 (q62:kN K kbi [kbo,kby,ka4,kaT,kaN,kbG,kbl,kbq,ka3,kbr,kbz])
 (q63:kN K kbi [kaE,kbC,kbg,kba,kaI])
 (q64:kV K kbi)
 (q65:xA K kbv)
 (q66:mO K kbv "object")
 (q67:mO K kbv "BaseException")
 (q68:fA K kbv)
 (q69:fB K kbv)
 (q70:fC K kbv)
 (q71:eB K kbv kat)
 (q72:kF K kbv kbj false)
 (q73:kF K kbv kav false)
 (q74:kF K kbv kbb false)
 (q75:kF K kbv kbk false)
 (q76:kF K kbv kbv true)
 (q77:kF K kbv kbi false)
 (q78:kF K kbv ka1 false)
 (q79:kN K kbv [kbo,kby,ka4,kaT,kaN,kbG,kbl,kbq,ka3,kbr,kbz])
 (q80:kN K kbv [kaE,kbC,kbg,kba,kaI])
 (q81:kV K kbv)
 (q82:xA K kbj)
 (q83:mO K kbj "object")
 (q84:mO K kbj "BaseException")
 (q85:fA K kbj)
 (q86:fB K kbj)
 (q87:fC K kbj)
 (q88:eB K kbj kat)
 (q89:kF K kbj kbj true)
 (q90:kF K kbj kav false)
 (q91:kF K kbj kbb false)
 (q92:kF K kbj kbk false)
 (q93:kF K kbj kbv false)
 (q94:kF K kbj kbi false)
 (q95:kF K kbj ka1 false)
 (q96:kN K kbj [kbo,kby,ka4,kaT,kaN,kbG,kbl,kbq,ka3,kbr,kbz])
 (q97:kN K kbj [kaE,kbC,kbg,kba,kaI])
 (q98:kV K kbj)
 (q99:xA K kbk)
 (q100:mO K kbk "object")
 (q101:mO K kbk "BaseException")
 (q102:fA K kbk)
 (q103:fB K kbk)
 (q104:fC K kbk)
 (q105:eB K kbk kat)
 (q106:kF K kbk kbj false)
 (q107:kF K kbk kav false)
 (q108:kF K kbk kbb false)
 (q109:kF K kbk kbk true)
 (q110:kF K kbk kbv false)
 (q111:kF K kbk kbi false)
 (q112:kF K kbk ka1 false)
 (q113:kN K kbk [kbo,kby,ka4,kaT,kaN,kbG,kbl,kbq,ka3,kbr,kbz])
 (q114:kN K kbk [kaE,kbC,kbg,kba,kaI])
 (q115:kV K kbk)
 (q116:xA K kbb)
 (q117:mO K kbb "object")
 (q118:mO K kbb "BaseException")
 (q119:fA K kbb)
 (q120:fB K kbb)
 (q121:fC K kbb)
 (q122:eB K kbb kat)
 (q123:kF K kbb kbj false)
 (q124:kF K kbb kav false)
 (q125:kF K kbb kbb true)
 (q126:kF K kbb kbk false)
 (q127:kF K kbb kbv false)
 (q128:kF K kbb kbi false)
 (q129:kF K kbb ka1 false)
 (q130:kN K kbb [kbo,kby,ka4,kaT,kaN,kbG,kbl,kbq,ka3,kbr,kbz])
 (q131:kN K kbb [kaE,kbC,kbg,kba,kaI])
 (q132:kV K kbb)
 (q133:xA K kav)
 (q134:mO K kav "object")
 (q135:mO K kav "BaseException")
 (q136:fA K kav)
 (q137:fB K kav)
 (q138:fC K kav)
 (q139:eB K kav kat)
 (q140:kF K kav kbj false)
 (q141:kF K kav kav true)
 (q142:kF K kav kbb false)
 (q143:kF K kav kbk false)
 (q144:kF K kav kbv false)
 (q145:kF K kav kbi false)
 (q146:kF K kav ka1 false)
 (q147:kN K kav [kbo,kby,ka4,kaT,kaN,kbG,kbl,kbq,ka3,kbr,kbz])
 (q148:kN K kav [kaE,kbC,kbg,kba,kaI])
 (q149:kV K kav)
 (q150:xA K ka1)
 (q151:mO K ka1 "object")
 (q152:mO K ka1 "BaseException")
 (q153:fA K ka1)
 (q154:fB K ka1)
 (q155:fC K ka1)
 (q156:eB K ka1 kat)
 (q157:kF K ka1 kbj false)
 (q158:kF K ka1 kav false)
 (q159:kF K ka1 kbb false)
 (q160:kF K ka1 kbk false)
 (q161:kF K ka1 kbv false)
 (q162:kF K ka1 kbi false)
 (q163:kF K ka1 ka1 true)
 (q164:kN K ka1 [kbo,kby,ka4,kaT,kaN,kbG,kbl,kbq,ka3,kbr,kbz])
 (q165:kN K ka1 [kaE,kbC,kbg,kba,kaI])
 (q166:kV K ka1)
 (q167:[kbi,kbv,kbj,kbk,kbb,kav,ka1].Nodup)
 : ∃fd:FuncData,(∀(s:Shared) (v:Value),BindsTo s fd ⟨[v],[]⟩ [("_law_script",v)])/\∀base:Heap,K.In base->base.Ns mainGlobals mg->FnOk l.prog w K mg base CX0 8 fa fd ["_law_script"] (zbn K 1 f_law):=by
 have e:=hfa.symm.trans (W.mg_of X G a40.a)
 cases e
 obtain⟨oc,od,kV,doc,pm,an,cdv,ct,osl,rfl,lk,hcd⟩:=a40.F.ex
 exact⟨_,fun s v=> .of_eq rfl,fun base _ _=>zh9 rfl (zg4 ⟨dx X G a0 fun _ _ _ _ _ _ us hl=>match us,hl with|[_],_=>rfl,dx X G a1 fun _ _ _ _ _ _ us hl=>match us,hl with|[_,_,_],_=>rfl,dx X G a2 fun _ _ _ _ _ _ us hl=>match us,hl with|[_,_,_,_],_=>rfl,dx X G a3 fun _ _ _ _ _ _ us hl=>match us,hl with|[_,_],_=>rfl,dx X G a4 fun _ _ _ _ _ _ us hl=>match us,hl with|[_,_],_=>rfl,dx X G a5 fun _ _ _ _ _ _ us hl=>match us,hl with|[_,_],_=>rfl,dx X G a6 fun _ _ _ _ _ _ us hl=>match us,hl with|[_,_],_=>rfl,dx X G a7 fun _ _ _ _ _ _ us hl=>match us,hl with|[_],_=>rfl,dx X G a8 fun _ _ _ _ _ _ us hl=>match us,hl with|[_,_,_],_=>rfl,dx X G a9 fun _ _ _ _ _ _ us hl=>match us,hl with|[_,_],_=>rfl,dx X G a10 fun _ _ _ _ _ _ us hl=>match us,hl with|[_],_=>rfl,dx X G a11 fun _ _ _ _ _ _ us hl=>match us,hl with|[_,_,_],_=>rfl,dx X G a12 fun _ _ _ _ _ _ us hl=>match us,hl with|[_,_],_=>rfl,dx X G a13 fun _ _ _ _ _ _ us hl=>match us,hl with|[_,_,_],_=>rfl,dx X G a14 fun _ _ _ _ _ _ us hl=>match us,hl with|[_,_,_],_=>rfl,dx X G a15 fun _ _ _ _ _ _ us hl=>match us,hl with|[_,_,_,_],_=>rfl,dx X G a16 fun _ _ _ _ _ _ us hl=>match us,hl with|[_,_,_],_=>rfl,dx X G a17 fun _ _ _ _ _ _ us hl=>match us,hl with|[_,_,_],_=>rfl,dx X G a18 fun _ _ _ _ _ _ us hl=>match us,hl with|[_,_,_],_=>rfl,dx X G a19 fun _ _ _ _ _ _ us hl=>match us,hl with|[_,_],_=>rfl,dx X G a20 fun _ _ _ _ _ _ us hl=>match us,hl with|[_,_],_=>rfl,dx X G a21 fun _ _ _ _ _ _ us hl=>match us,hl with|[_,_],_=>rfl,dx X G a22 fun _ _ _ _ _ _ us hl=>match us,hl with|[_,_,_],_=>rfl,dx X G a23 fun _ _ _ _ _ _ us hl=>match us,hl with|[_,_],_=>rfl,dx X G a24 fun _ _ _ _ _ _ us hl=>match us,hl with|[_,_],_=>rfl,dx X G a25 fun _ _ _ _ _ _ us hl=>match us,hl with|[_,_,_],_=>rfl,dx X G a26 fun _ _ _ _ _ _ us hl=>match us,hl with|[_,_,_],_=>rfl,dx X G a27 fun _ _ _ _ _ _ us hl=>match us,hl with|[_,_,_],_=>rfl,dx X G a28 fun _ _ _ _ _ _ us hl=>match us,hl with|[_,_],_=>rfl,dx X G a29 fun _ _ _ _ _ _ us hl=>match us,hl with|[_,_],_=>rfl,dx X G a30 fun _ _ _ _ _ _ us hl=>match us,hl with|[_],_=>rfl,dx X G a31 fun _ _ _ _ _ _ us hl=>match us,hl with|[_,_,_],_=>rfl,dx X G a32 fun _ _ _ _ _ _ us hl=>match us,hl with|[_,_,_],_=>rfl,dx X G a33 fun _ _ _ _ _ _ us hl=>match us,hl with|[_,_,_],_=>rfl,dx X G a34 fun _ _ _ _ _ _ us hl=>match us,hl with|[_,_,_],_=>rfl,dx X G a35 fun _ _ _ _ _ _ us hl=>match us,hl with|[_,_,_,_],_=>rfl,dx X G a36 fun _ _ _ _ _ _ us hl=>match us,hl with|[_],_=>rfl,dx X G a37 fun _ _ _ _ _ _ us hl=>match us,hl with|[_,_,_],_=>rfl,dx X G a38 fun _ _ _ _ _ _ us hl=>match us,hl with|[_,_,_,_],_=>rfl,dx X G a39 fun _ _ _ _ _ _ us hl=>match us,hl with|[_,_,_],_=>rfl,dx X G a40 fun _ _ _ _ _ _ us hl=>match us,hl with|[_],_=>rfl,W.mg_none_of X G z0,W.mg_none_of X G z1,W.mg_none_of X G z2,W.mg_none_of X G z3,W.mg_none_of X G z4,⟨_,W.mg_of X G z5⟩,⟨_,W.mg_of X G z6⟩,⟨_,W.mg_of X G z7⟩,⟨_,W.mg_of X G z8⟩,⟨_,W.mg_of X G z9⟩,W.mg_none_of X G z10,W.mg_none_of X G z11,W.mg_none_of X G z12,W.mg_none_of X G z13,W.mg_none_of X G z14,W.mg_none_of X G z15,W.mg_none_of X G z16,W.mg_none_of X G z17,kbi,W.mg_of X G q1,kat,W.mg_of X G q3,kbz,W.mg_of X G q5,kbG,W.mg_of X G q7,kbv,W.mg_of X G q9,kaT,W.mg_of X G q11,kaN,W.mg_of X G q13,kaE,W.mg_of X G q15,kbj,W.mg_of X G q17,kbk,W.mg_of X G q19,kbl,W.mg_of X G q21,kbb,W.mg_of X G q23,kaI,W.mg_of X G q25,kav,W.mg_of X G q27,kba,W.mg_of X G q29,kbq,W.mg_of X G q31,kbg,W.mg_of X G q33,kbr,W.mg_of X G q35,kbo,W.mg_of X G q37,ka3,W.mg_of X G q39,ka1,W.mg_of X G q41,ka4,W.mg_of X G q43,kby,W.mg_of X G q45,kbC,W.mg_of X G q47,q48,q49,q50,q51,q52,q53,q54,q55,q56,q57,q58,q59,q60,q61,q62,q63,q64,q65,q66,q67,q68,q69,q70,q71,q72,q73,q74,q75,q76,q77,q78,q79,q80,q81,q82,q83,q84,q85,q86,q87,q88,q89,q90,q91,q92,q93,q94,q95,q96,q97,q98,q99,q100,q101,q102,q103,q104,q105,q106,q107,q108,q109,q110,q111,q112,q113,q114,q115,q116,q117,q118,q119,q120,q121,q122,q123,q124,q125,q126,q127,q128,q129,q130,q131,q132,q133,q134,q135,q136,q137,q138,q139,q140,q141,q142,q143,q144,q145,q146,q147,q148,q149,q150,q151,q152,q153,q154,q155,q156,q157,q158,q159,q160,q161,q162,q163,q164,q165,q166,q167⟩)⟩
theorem walk{l:W.OpenLaw}{q:Program}{loose:List Str}{XP:(Str->Option Value)->Heap->Prop}{YP:World->Heap->Prop}{d:DefRec}{K:Params->W.Frag}(hn:l.most=some 63)(hdf:d.params.defaults=[])
 (hY: ∀(w:World) (h:Heap),YP w h->(K w.params).In h)
 (F: ∀(w:World) (mg:Str->Option Value) (fa:Addr) (h:Heap),(K w.params).In h->h.Ns mainGlobals mg->mg d.name=some (.ref fa)->
  ∃fd:FuncData,(∀(s:Shared) (u:Value),BindsTo s fd ⟨[u],[]⟩ [("_law_script",u)])/\∀base:Heap,(K w.params).In base->base.Ns mainGlobals mg->FnOk l.prog w (K w.params) mg base CX0 8 fa fd ["_law_script"] (zbn (K w.params) 1 f_law)):
 W.WalkO q loose XP YP l.row.toRowW d [] (fun f vs=>PySem.call f vs):=
 L2.zdq (n:=63) (k:=8) (x:= "_law_script") (CX:=fun _=>CX0) (sp:=fun w=>zbn (K w.params) 1 f_law) hn (by decide) hdf ⟨rfl,by decide,by decide,rfl⟩ hY F (fun _ _ a ns hl hO hS=>zha (fun n=>zh8 ns (by lia) n) hO hS) fun _ _ _ _ _ h=>h.elim
end My
inductive PySem.W.Fast:Prop|tw9491198862553124203|tw10976144900358578266|tw7633027883820161027|tw3435184539208275206|tw14158376649332553754|tw8799395437269147362|tw1278008970096611430|tw11624919527026945069|tw6408222949348459007|tw13678791280550445055|tw10078864763826766718|tw1088925115466742522|tw16502557784829093964|tw2048844415104834763|tw1725062469607077131|tw7390031812083069677|tw17235941076521246314|tw14068417273804377087|tw17233852253891110159|tw12587809455048626608|tw541889950930779892|tw17130186299622259383|tw8182440583990183052|tw1182652164981443190|tw809547133535723743|tw9054628221917176877|tw17608470554179880203|tw17579297332712608592|tw2733403857182729854|tw1755631320058323975|tw3558828403186299193|tw18162076689159780681|tw7488210039756915654|tw6244783436671593944|tw11601184762493785721|tw9842578832872939238|tw5804252161899322685|tw11891677425954427679|tw2505796859743664879|tw12946283626987457871|tw17836328838162955457|tw13551758387394731661|tw8128718117351116502|tw8779623702600151421|tw15957253563062621876|tw6523897361210489223|tw2405862542663809180|tw14473855138294412927|tw10294866770776646723|tw15235114571608497210|tw2631787670509137306|tw12604538811479821843|tw7187306910385230448|tw6788463895949936200|tw8538217807527614221|tw1461486037781520006|tw2415149165618860803|tw3354644931891463211|tw3254170858028516933|tw16315838483760665028|tw12841964726160714654|tw4335795026957330285|tw4171384186747781725|tw16889039200750191575|tw13547838450520663465|tw6220470850444232687|tw16409560189247965250|tw14326656925233303738|tw16718120650512677084|tw9937193546702746513|tw8425115628195014816|tw8575455025163344494|tw8338359702861075186|tw13322046705959540665|tw9016486905374367613|tw13756376550793433464|tw2468095198032223250|tw15402632076598983193|tw10611874043081975458|tw6866011953374869546|tw16143170182594474193|tw11693492013332075718|tw8418804320415759562|tw2619078975226919807|tw2068605977004139164|tw9012472230621256835|tw8461805933503723658|tw17631698909672570464|tw16776969222498272946|tw4971007792427408971|tw13524999549368079093|tw10696244453880362107|tw14066306829547178803|tw15028964323031468949|tw13069375879934489961|tw17586348552062724326|tw17649564406069799551|tw13569076359803950712|tw16944719689569378427|tw4971142941915292071|tw4907645546218307917|tw6193566389157725274|tw10845791766852961106|tw6232028271433644480|tw18031460835494257695|tw18331544679511017814|tw4947885593023669852|tw14988666651856046263|tw16943990180909584775|tw6268699294345097751|tw5028838188179134029|tw9888100605150752331|tw14308343589317424248|tw9457518468769988988|tw9228911158402254165|tw16951242984441131863|tw4543791710152496765|tw1822279980826647199|tw10161730081467558455|tw10877379707174537861|tw10408662034276522425|tw4296902014868091512|tw2172616984887091138|tw3902634356909796707|tw8312277353260410464
open PySem PySem.W PyProof.Rows
set_option maxRecDepth 100000 in
set_option maxHeartbeats 0 in
theorem PySem.Challenge.cw_signbench_k48_whole_refused_changes_noth_holds : PySem.Challenge.rw_signbench_k48_whole_refused_changes_noth.Holds := by
 w_on;o_law;k_head;(case hw=>w_witness2)
 k_fill
 refine My.walk (l:=PySem.Challenge.rw_signbench_k48_whole_refused_changes_noth) rfl rfl (fun w h Y=>PySem.W.kIn_of Y) ?F
 case F=>
  intro w mg fa h KX G hmg
  apply My.zhb KX G hmg<;>(try delta My.nI My.kF My.kN My.kV My.fA My.fB My.fC My.xA My.mO My.eB)<;>first|(apply My.ziD<;>k_is)|k_is|kernel_rfl|rfl|decide
