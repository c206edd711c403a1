import PyProof.Rows.All
import Wide.All
import OpenK.AllK
import Wide.FinOn
import Lean
import PyProof.EqAt
import PyProof.EqKinds
import PyProof.TupleCall
import PyProof.CallStr
import PyProof.Draws
import PyProof.EnumMake
import PyProof.ListRange
import PyProof.Rows.CountFlat
import PyProof.Rows.Range3
import PySem.Challenge.RW_signbench_k56_gone_to_any_deed
set_option Elab.async false
set_option linter.all false
set_option maxRecDepth 100000
namespace L2
open PySem PySem.Spec PyProof.Rows
noncomputable abbrev Key:=Sum Int Str
noncomputable def zc9:Key->Value->Bool
 | .inl k,v=>Value.isInt k v
 | .inr x,v=>Value.isStrOf x v
noncomputable def keyH(w:World):Key->Int
 | .inl k=>hashInt k
 | .inr x=>hashStr w x
theorem z0v: ∀{k:Key} {v:Value},zc9 k v=true->(∃i t,k=Sum.inl i/\v=Value.int i t)\/(∃x t,k=Sum.inr x/\v=Value.str x t)
 | .inl i,v,h=>by
  obtain⟨t,e⟩:=Value.isInt_shape (k:=i) (v:=v) h
  exact .inl ⟨i,t,rfl,e⟩
 | .inr x,v,h=>by
  obtain⟨t,e⟩:=Value.isStrOf_shape (x:=x) (v:=v) h
  exact .inr ⟨x,t,rfl,e⟩
theorem zca(a b:Int):decide ((Sum.inl a:Key)=Sum.inl b)=(a==b):=by
 by_cases e:a=b
 ·subst e;simp
 ·have h: ¬(Sum.inl a:Key)=Sum.inl b:=fun q=>e (Sum.inl.inj q)
  rw[decide_eq_false h]
  exact(beq_eq_false_iff_ne.mpr e).symm
theorem zcb(a b:Str):decide ((Sum.inr a:Key)=Sum.inr b)=decide (a=b):=by
 by_cases e:a=b
 ·subst e;simp
 ·have h: ¬(Sum.inr a:Key)=Sum.inr b:=fun q=>e (Sum.inr.inj q)
  rw[decide_eq_false h,decide_eq_false e]
theorem zcc(a:Int)(b:Str):decide ((Sum.inl a:Key)=Sum.inr b)=false:=decide_eq_false (fun q=>nomatch q)
theorem zcd(a:Str)(b:Int):decide ((Sum.inr a:Key)=Sum.inl b)=false:=decide_eq_false (fun q=>nomatch q)
noncomputable def z5R(prog:Program)(w:World):PySem.KeyKind prog w Key where
 is:=zc9
 hash:=keyH w
 inj:=fun v a b ha hb=>by
  rcases z0v ha with⟨i,t,rfl,rfl⟩|⟨x,t,rfl,rfl⟩
  ·rcases z0v hb with⟨j,u,rfl,e⟩|⟨y,u,rfl,e⟩
   ·injection e with e1 _;rw[e1]
   ·exact nomatch e
  ·rcases z0v hb with⟨j,u,rfl,e⟩|⟨y,u,rfl,e⟩
   ·exact nomatch e
   ·injection e with e1 _;rw[e1]
 byValue:=fun k v h=>by
  rcases z0v h with⟨i,t,rfl,rfl⟩|⟨x,t,rfl,rfl⟩<;>rfl
 pyHash:=fun hv h=>by
  rcases z0v hv with⟨i,t,rfl,rfl⟩|⟨x,t,rfl,rfl⟩
  ·exact wpAny_pyHash_int h
  ·exact wpAny_pyHash_str h
 eqBool:=fun hu hv h=>by
  rcases z0v hu with⟨i,t,rfl,rfl⟩|⟨x,t,rfl,rfl⟩
  ·rcases z0v hv with⟨j,u,rfl,rfl⟩|⟨y,u,rfl,rfl⟩
   ·rw[zca] at h;exact wpAny_eqBool_int h
   ·rw[zcc] at h;exact SeqAt.EqAt.int_str i t y u _ _ _ _ h
  ·rcases z0v hv with⟨j,u,rfl,rfl⟩|⟨y,u,rfl,rfl⟩
   ·rw[zcd] at h;exact SeqAt.EqAt.str_int x t j u _ _ _ _ h
   ·rw[zcb] at h;exact wpAny_eqBool_str h
 «strs» :=fun k x t v h=>by
  rcases z0v h with⟨i,u,rfl,e⟩|⟨y,u,rfl,e⟩
  ·exact nomatch e
  ·injection e with e1 _
   subst e1
   cases v<;>rfl
inductive V where
 |non|bl (b:Bool)|int (i:Int)|str (x:Str)|byt (b:Array UInt8)|flt (b:UInt64)|ref (a:Addr)|ty (n:String)
 deriving DecidableEq
noncomputable def RelV:V->Value->Prop
 | .non,u=>u=Value.none
 | .bl b,u=>u=Value.bool b
 | .int i,u=> ∃t,u=Value.int i t
 | .str x,u=> ∃t,u=Value.str x t
 | .byt b,u=> ∃t,u=Value.bytes b t
 | .flt b,u=> ∃t,u=Value.float b t
 | .ref a,u=>u=Value.ref a
 | .ty n,u=>u=Value.type n
noncomputable abbrev Vals:List V->List Value->Prop:=Paired RelV
theorem Vals.length{xs:List V}{us:List Value}(r:Vals xs us):xs.length=us.length:=Paired.length r
theorem Vals.get: ∀{xs:List V} {us:List Value} {i:Nat} {x:V},Vals xs us->xs[i]? =some x->∃u,us[i]? =some u/\RelV x u
 |_,_,_,_, .nil,e=>by simp at e
 |_,_,0,_, .cons r _,e=>by simp at e;subst e;exact⟨_,rfl,r⟩
 |_,_,i+1,x, .cons _ t,e=>by
  obtain⟨u,h1,h2⟩:=Vals.get (i:=i) (x:=x) t (by simpa using e)
  exact⟨u,by simpa using h1,h2⟩
theorem Vals.set{x:V}{u:Value}(r:RelV x u): ∀{xs:List V} {us:List Value} (i:Nat),Vals xs us->Vals (xs.set i x) (us.set i u)
 |_,_,_, .nil=> .nil
 |_,_,0, .cons _ t=> .cons r t
 |_,_,i+1, .cons q t=> .cons q (Vals.set r i t)
theorem Vals.append: ∀{xs ys:List V} {us ws:List Value},Vals xs us->Vals ys ws->Vals (xs++ys) (us++ws)
 |_,_,_,_, .nil,s=>s
 |_,_,_,_, .cons r t,s=> .cons r (Vals.append t s)
theorem Vals.take: ∀{xs:List V} {us:List Value} (n:Nat),Vals xs us->Vals (xs.take n) (us.take n)
 |_,_,0,_=> .nil
 |_,_,_+1, .nil=> .nil
 |_,_,n+1, .cons r t=> .cons r (Vals.take n t)
theorem Vals.drop: ∀{xs:List V} {us:List Value} (n:Nat),Vals xs us->Vals (xs.drop n) (us.drop n)
 |_,_,0,r=>r
 |_,_,_+1, .nil=> .nil
 |_,_,n+1, .cons _ t=>Vals.drop n t
noncomputable def RelO:Option V->Option Value->Prop
 |some v,some u=>RelV v u
 |none,none=>True
 |_,_=>False
noncomputable def KV{κ:Type}:List (κ×V)->List (κ×Value)->Prop:=Paired fun(p:κ×V) (q:κ×Value)=>p.1=q.1/\RelV p.2 q.2
noncomputable def kV:Key->V
 | .inl i=> .int i
 | .inr x=> .str x
inductive HO where
 |lst (xs:List V)
 |tup (xs:List V)
 |dK (kvs:List (Key×V))|dT (kvs:List (List Key×V))
 |set (S:Int->Bool) (n:Nat)
 |ins (C dx:Addr) (fs:List (Str×V))
 |own (x:Addr)
 |xd (fs:List (Str×V))
 |met (f x:Addr)
 |rng (lo hi:Int)
 |frz (o:Obj) (u:HO)
 |tbl (ps:Array Value)
 |ext (φ:Heap->Prop)
noncomputable abbrev Hp:=Addr->Option HO
noncomputable def upd(H:Hp)(a:Addr)(o:HO):Hp:=fun b=>if b=a then some o else H b
theorem z09{H:Hp}{a:Addr}{o:HO}:upd H a o a=some o:=by unfold upd;rw[if_pos rfl]
theorem z04{H:Hp}{a b:Addr}{o:HO}(h:b≠a):upd H a o b=H b:=by unfold upd;rw[if_neg h]
theorem z6X{H:Hp}{a b:Addr}{o u:HO}(h:H a=some o)(h':H b=some u)(d:o≠u):a≠b:=by
 intro e;subst e;rw[h] at h';exact d (Option.some.inj h')
theorem z0D{H:Hp}{a b:Addr}{o:HO}(h:H a=some o)(h':H b=none):a≠b:=by
 intro e;subst e;rw[h] at h';cases h'
section
variable(P:Program)(w:World)
noncomputable def z25(H:Hp)(h:Heap)(a:Addr):HO->Prop
 | .lst xs=>xs.length<=sizeLine/\∃(its:List Value) (n:Nat),Vals xs its/\h.get? a=some {cls:= .type "list",data:= .seq its.toArray n}
 | .tup xs=>xs.length<=sizeLine/\∃its:List Value,Vals xs its/\IsTup h a its.toArray
 | .dK kvs=>kvs.length<=sizeLine/\(a==sysModules)=false/\∃vs,KV kvs vs/\h.DictOf (z5R P w) a vs
 | .dT kvs=>kvs.length<=sizeLine/\(a==sysModules)=false/\∃xs:List (List Key×Addr×Value),
  Paired (fun(p:List Key×V) (q:List Key×Addr×Value)=>p.1=q.1/\H q.2.1=some (.tup (p.1.map kV))/\RelV p.2 q.2.2) kvs xs/\
  ∃o es ep,h.get? a=some o/\o.ExactDict/\o.data= .dict es ep/\es.toList=xs.map (entryOfKey (tupleKind (z5R P w)))/\(xs.map (·.1)).Nodup
 | .set S n=>h.SetOf (intKind P w) a S n
 | .ins C dx fs=>H dx=some (.own a)/\fs.length<=1000/\dx≠a/\h.get? a=some (W.instObj C dx)/\
  ∃mA,h.Ns1 dx mA/\(∀f,RelO (fs.lookup f) (mA f))/\PySem.Within mA (fs.map (·.1))
 | .own _=> ∃o,h.get? a=some o
 | .xd fs=> ∃mA,h.Ns1 a mA/\∀f,RelO (fs.lookup f) (mA f)
 | .rng lo hi=> ∃t u v,h.get? a=some {cls:= .type "range",data:= .fields #[.int lo t, .int hi u, .int 1 v]}
 | .frz o u=>h.get? a=some o/\z25 H h a u
 | .tbl ps=>h.get? a=some {cls:= .none,data:= .fields ps}
 | .met f x=>h.get? a=some (W.methodObj (.ref f) (.ref x))
 | .ext φ=>φ h/\(∃o,h.get? a=some o)/\∀h1 h2:Heap,φ h1->(∀o,h1.get? a=some o->h2.get? a=some o)->φ h2
noncomputable def HOk(H:Hp)(h:Heap):Prop:= ∀a o,H a=some o->z25 P w H h a o
end
section
variable{P:Program}{w:World}{H H':Hp}{h h':Heap}{a:Addr}{o:HO}
theorem z25.lt(x:z25 P w H h a o):a<h.objs.size:=by
 cases o with
 |lst xs=>obtain⟨_,_,_,_,e⟩:=x;exact Heap.lt_size e
 |tup xs=>obtain⟨_,_,_,p⟩:=x;exact p.lt
 |dK kvs=>obtain⟨_,_,_,_,o,_,_,e,_⟩:=x;exact Heap.lt_size e
 |dT kvs=>obtain⟨_,_,_,_,o,_,_,e,_⟩:=x;exact Heap.lt_size e
 |set S n=>obtain⟨o,_,_,_,e,_⟩:=x;exact Heap.lt_size e
 |ins C dx fs=>obtain⟨_,_,_,e,_⟩:=x;exact Heap.lt_size e
 |own y=>obtain⟨_,e⟩:=x;exact Heap.lt_size e
 |xd fs=>obtain⟨_,⟨_,_,_,e,_⟩,_⟩:=x;exact Heap.lt_size e
 |rng lo hi=>obtain⟨_,_,_,e⟩:=x;exact Heap.lt_size e
 |frz ob u=>obtain⟨e,_⟩:=x;exact Heap.lt_size e
 |tbl ps=>exact Heap.lt_size (show h.get? a=some _ from x)
 |met f y=>exact Heap.lt_size (show h.get? a=some _ from x)
 |ext φ=>obtain⟨_,⟨_,e⟩,_⟩:=x;exact Heap.lt_size e
theorem Paired.mapP{α β:Type}{F G:α->β->Prop}: ∀{l₁:List α} {l₂:List β},Paired F l₁ l₂->(∀a b,F a b->G a b)->Paired G l₁ l₂
 |_,_, .nil,_=> .nil
 |_,_, .cons r t,f=> .cons (f _ _ r) (Paired.mapP t f)
theorem z25.stay(x:z25 P w H h a o)(k: ∀b u,(b=a\/H b=some (.own a))->h.get? b=some u->h'.get? b=some u)
 (ho: ∀b,H b=some (.own a)->H' b=some (.own a)) (ht: ∀b xs,H b=some (.tup xs)->H' b=some (.tup xs)):z25 P w H' h' a o:=by
 induction o with
 |lst xs=>obtain⟨z,its,n,r,e⟩:=x;exact⟨z,its,n,r,k _ _ (.inl rfl) e⟩
 |tup xs=>obtain⟨z,its,r,ob,e,c⟩:=x;exact⟨z,its,r,ob,k _ _ (.inl rfl) e,c⟩
 |dK kvs=>obtain⟨z,y,vs,r,ob,es,ep,e,c⟩:=x;exact⟨z,y,vs,r,ob,es,ep,k _ _ (.inl rfl) e,c⟩
 |dT kvs=>
  obtain⟨z,y,xs,r,ob,es,ep,e,c⟩:=x
  exact⟨z,y,xs,Paired.mapP r fun p q z=>⟨z.1,ht _ _ z.2.1,z.2.2⟩,ob,es,ep,k _ _ (.inl rfl) e,c⟩
 |set S n=>obtain⟨ob,es,ep,t,e,c⟩:=x;exact⟨ob,es,ep,t,k _ _ (.inl rfl) e,c⟩
 |ins C dx fs=>
  obtain⟨d,z,ne,e,mA,⟨od,es,ep,e2,c⟩,r⟩:=x
  exact⟨ho _ d,z,ne,k _ _ (.inl rfl) e,mA,⟨od,es,ep,k _ _ (.inr d) e2,c⟩,r⟩
 |own y=>obtain⟨ob,e⟩:=x;exact⟨ob,k _ _ (.inl rfl) e⟩
 |xd fs=>obtain⟨mA,⟨od,es,ep,e,c⟩,r⟩:=x;exact⟨mA,⟨od,es,ep,k _ _ (.inl rfl) e,c⟩,r⟩
 |rng lo hi=>obtain⟨t,u,v,e⟩:=x;exact⟨t,u,v,k _ _ (.inl rfl) e⟩
 |frz ob u ih=>obtain⟨e,q⟩:=x;exact⟨k _ _ (.inl rfl) e,ih q⟩
 |tbl ps=>
  have e:h.get? a=some {cls:= .none,data:= .fields ps}:=x
  show h'.get? a=some {cls:= .none,data:= .fields ps}
  exact k a _ (.inl rfl) e
 |met f y=>
  have e:h.get? a=some (W.methodObj (.ref f) (.ref y)):=x
  show h'.get? a=some (W.methodObj (.ref f) (.ref y))
  exact k a _ (.inl rfl) e
 |ext φ=>obtain⟨p,⟨o,e⟩,st⟩:=x;exact⟨st _ _ p fun o q=>k _ _ (.inl rfl) q,⟨o,k _ _ (.inl rfl) e⟩,st⟩
theorem HOk.lt(x:HOk P w H h)(e:H a=some o):a<h.objs.size:=(x a o e).lt
theorem HOk.fresh(x:HOk P w H h)(e:h.objs.size<=a):H a=none:=by
 cases q:H a with
 |none=>rfl
 |some u=>exact absurd (Nat.lt_of_lt_of_le (x.lt q) e) (Nat.lt_irrefl _)
theorem HOk.kept(x:HOk P w H h)(k: ∀b u,h.get? b=some u->h'.get? b=some u):HOk P w H h':=fun a o e=>
 (x a o e).stay (fun b u _ q=>k b u q) (fun _ q=>q) fun _ _ q=>q
theorem HOk.laid(x:HOk P w H h)(k: ∀b u,h.get? b=some u->h'.get? b=some u)(hp:h.objs.size<=a)(new:z25 P w (upd H a o) h' a o):HOk P w (upd H a o) h':=fun b u e=>by
 have hn:=x.fresh hp
 by_cases hb:b=a
 ·subst hb;rw[z09] at e;cases e;exact new
 ·rw[z04 hb] at e
  exact(x b u e).stay (fun c v _ q=>k c v q) (fun c q=>by rw[z04 (z0D q hn)];exact q) fun c xs q=>by rw[z04 (z0D q hn)];exact q
end
noncomputable def Rd(H:Hp)(a:Addr)(u:HO):Prop:=H a=some u\/∃o,H a=some (.frz o u)
theorem Rd.ok{P:Program}{w:World}{H:Hp}{h:Heap}{a:Addr}{u:HO}(r:Rd H a u)(x:HOk P w H h):z25 P w H h a u:=by
 rcases r with r|⟨o,r⟩
 ·exact x a u r
 ·obtain⟨_,q⟩:=x a _ r
  exact q
noncomputable def Mut:Option HO->Prop
 |some (.lst _)=>True
 |some (.dK _)=>True
 |some (.dT _)=>True
 |some (.set _ _)=>True
 |some (.ins _ _ _)=>True
 |some (.ext _)=>True
 |_=>False
section
variable{P:Program}{w:World}{H:Hp}{h h':Heap}{x e:Addr}{o':HO}
theorem HOk.write(ok:HOk P w H h)(mu:Mut (H x))(he:e=x\/H e=some (.own x))(k: ∀b u,b≠e->h.get? b=some u->h'.get? b=some u)(heo: ∃u,h'.get? e=some u)
 (new:z25 P w (upd H x o') h' x o'):HOk P w (upd H x o') h':=fun b u q=>by
 have nown: ∀c y,H c=some (.own y)->c≠x:=fun c y r z=>by subst z;rw[r] at mu;exact mu
 have ntup: ∀c xs,H c=some (.tup xs)->c≠x:=fun c xs r z=>by subst z;rw[r] at mu;exact mu
 by_cases hb:b=x
 ·subst hb;rw[z09] at q;cases q;exact new
 ·rw[z04 hb] at q
  by_cases hbe:b=e
  ·have q':H b=some (.own x):=by
    rcases he with z|z
    ·exact absurd (hbe.trans z) hb
    ·rw[hbe];exact z
   rw[q] at q';cases q'
   obtain⟨v,hv⟩:=heo
   exact⟨v,by rw[hbe];exact hv⟩
  ·refine(ok b u q).stay (fun c v hc r=>k c v ?_ r) (fun c r=>by rw[z04 (nown c b r)];exact r) fun c xs r=>by rw[z04 (ntup c xs r)];exact r
   rcases hc with rfl|hc
   ·exact hbe
   ·rintro rfl
    rcases he with z|z
    ·exact nown c b hc z
    ·rw[hc] at z;cases z;exact hb rfl
end
structure Un(fs ex:List Addr)(H H':Hp)(h h':Heap):Prop where
 keep: ∀b o,h.get? b=some o->H b=none->b∉fs->b∉ex->h'.get? b=some o
 slot: ∀b o,h.get? b=some o->H b=none->b∈fs->b∉ex->∃sl,h'.get? b=some {o with slots:=sl}
 free: ∀b o,h.get? b=some o->H b=none->b∉ex->H' b=none
 there: ∀b o,h.get? b=some o->b∉ex->∃o',h'.get? b=some o'
 tups: ∀b xs,H b=some (.tup xs)->H' b=some (.tup xs)
 frzs: ∀b o u,H b=some (.frz o u)->H' b=some (.frz o u)
 tbls: ∀b ps,H b=some (.tbl ps)->∃more,H' b=some (.tbl (ps++more))
section
variable{fs fs' ex ex':List Addr}{H H1 H2:Hp}{h h1 h2 h':Heap}{a x e:Addr}{o:HO}
theorem Un.any(u:Un fs ex H H1 h h1){b:Addr}{ob:Obj}(q:h.get? b=some ob)(n:H b=none)(hx:b∉ex): ∃sl,h1.get? b=some {ob with slots:=sl}:=by
 by_cases hb:b∈fs
 ·exact u.slot b ob q n hb hx
 ·exact⟨ob.slots,u.keep b ob q n hb hx⟩
theorem Un.kept(k: ∀b u,h.get? b=some u->h'.get? b=some u):Un fs ex H H h h':=
 ⟨fun b ob q _ _ _=>k b ob q,fun b ob q _ _ _=>⟨ob.slots,k b ob q⟩,fun _ _ _ n _=>n,fun b ob q _=>⟨ob,k b ob q⟩,fun _ _ q=>q,fun _ _ _ q=>q,fun _ ps q=>⟨#[],by rw[q];simp⟩⟩
theorem Un.refl:Un fs ex H H h h:=Un.kept fun _ _ q=>q
theorem Un.laid(k: ∀b u,h.get? b=some u->h'.get? b=some u)(hp:h.objs.size<=a)(hn:H a=none):Un fs ex H (upd H a o) h h' where
 keep:=fun b u q _ _ _=>k b u q
 slot:=fun b u q _ _ _=>⟨u.slots,k b u q⟩
 free:=fun b u q n _=>by rw[z04 (Nat.ne_of_lt (Nat.lt_of_lt_of_le (Heap.lt_size q) hp))];exact n
 there:=fun b u q _=>⟨u,k b u q⟩
 tups:=fun b xs q=>by rw[z04 (z0D q hn)];exact q
 frzs:=fun b u xs q=>by rw[z04 (z0D q hn)];exact q
 tbls:=fun b ps q=>⟨#[],by rw[z04 (z0D q hn),q];simp⟩
theorem Un.write(mu:Mut (H x))(he:e=x\/H e=some (.own x))(k: ∀b u,b≠e->h.get? b=some u->h'.get? b=some u)(heo: ∃u,h'.get? e=some u):Un fs ex H (upd H x o) h h':=by
 have hx: ∀b,H b=none->b≠x:=fun b n z=>by subst z;rw[n] at mu;exact mu
 have hb: ∀b,H b=none->b≠e:=fun b n z=>by
  subst z
  rcases he with r|r
  ·exact hx b n r
  ·rw[n] at r;cases r
 have hm: ∀b u,H b=some u->¬Mut (some u)->b≠x:=fun b u q nm z=>by subst z;rw[q] at mu;exact nm mu
 refine⟨fun b u q n _ _=>k b u (hb b n) q,fun b u q n _ _=>⟨u.slots,k b u (hb b n) q⟩,fun b u q n _=>by rw[z04 (hx b n)];exact n,fun b u q _=> ?_,
  fun b xs q=>by rw[z04 (hm b _ q fun z=>z)];exact q,fun b u xs q=>by rw[z04 (hm b _ q fun z=>z)];exact q,fun b ps q=>⟨#[],by rw[z04 (hm b _ q fun z=>z),q];simp⟩⟩
 by_cases hbe:b=e
 ·subst hbe;exact heo
 ·exact⟨u,k b u hbe q⟩
end
noncomputable def trk(h:Heap)(H:Hp):List Addr:=(List.range h.objs.size).filter fun a=>(H a).isSome
noncomputable def hidT(h:Heap)(H:Hp):Heap:=W.hideAll h (trk h H)
theorem z7C(h:Heap)(H:Hp):(hidT h H).objs.size=h.objs.size:=W.hideAll_size _ _
theorem z91{h:Heap}{H:Hp}{b:Addr}{o:Obj}(e:h.get? b=some o)(n:H b=none):(hidT h H).get? b=some o:=
 W.hideAll_get _ e fun hm=>by
  have q:(H b).isSome=true:=(List.mem_filter.mp hm).2
  rw[n] at q;simp at q
theorem zav{h:Heap}{H:Hp}{b:Addr}{o:Obj}(e:(hidT h H).get? b=some o):h.get? b=some o/\H b=none:=by
 have e':h.get? b=some o:=W.of_hideAll (trk h H) e
 refine⟨e', ?_⟩
 cases q:H b with
 |none=>rfl
 |some x=>
  have hm:b∈trk h H:=List.mem_filter.mpr ⟨List.mem_range.mpr (Heap.lt_size e'),by simp[q]⟩
  have z:(hidT h H).get? b=none:=W.hideAll_none (trk h H) hm
  rw[z] at e;cases e
noncomputable def zaw(g h:Heap)(L:Addr):List (Addr×Obj):=(List.range h.objs.size).filterMap fun a=>if a=L\/(g.get? a).isSome=true then none else(h.get? a).map fun o=>(a,o)
noncomputable def rest(g h:Heap)(L d:Addr):List (Addr×Obj):=(zaw g h L).filter fun p=>decide (p.1≠d)
structure Mod(K:W.Frag)(mg:Str->Option Value)(base:Heap):Prop where
 kin:K.In base
 glob:base.Ns mainGlobals mg
 blt: ∃mb,base.Ns builtinsNs mb/\∀x:Str,x≠ "__name__" ->mb x=bootBuiltins x
 nolimit:base.NoLimit
structure Cx where
 prog:Program
 w:World
 K:W.Frag
 mg:Str->Option Value
 base:Heap
 A:Around
 N:List Str
 s₀:Shared
 H₀:Hp
 env:Env
 outer:List Env
 stack:List Env
 ex:List Addr
 fn:Str->Bool
 calm:Bool
 pn:List (Addr×Obj)
 xe:Value->Shared->Prop
noncomputable def frs(l:List Env):List Addr:=l.filterMap (·.frame)
noncomputable abbrev Cx.fs(X:Cx):List Addr:=frs X.outer
noncomputable def Vis(sc:Scope)(x:Str):Prop:=sc.names.lookup x=some .local\/sc.names.lookup x=some .cell\/sc.names.lookup x=some .free
noncomputable def Loc(sc:Scope)(x:Str):Prop:=sc.names.lookup x=some .local\/sc.names.lookup x=some .cell
noncomputable def Look(env:Env)(h:Heap)(m:Str->Option Value)(x:Str)(u:Value):Prop:=
 (env.kindOf x=some .local/\m x=some u)\/((env.kindOf x=some .cell\/env.kindOf x=some .free)/\∃c,env.cells.lookup x=some c/\h.IsCell c (some u))
structure Cx.Ok(X:Cx):Prop where
 mod:Mod X.K X.mg X.base
 kind:X.env.scope.kind= .function
 glob:X.env.globals=mainGlobals
 blt:X.env.builtins=builtinsNs
 above:X.s₀.heap.objs.size<=X.env.locals
 inj: ∀x y c,X.env.cells.lookup x=some c->X.env.cells.lookup y=some c->x=y
 has: ∀x,(X.env.kindOf x=some .cell\/X.env.kindOf x=some .free)->∃c,X.env.cells.lookup x=some c
 cab: ∀x c,X.fn x=true->X.env.cells.lookup x=some c->X.s₀.heap.objs.size<=c
 hd:X.calm=true->X.A.handled=none
 frames:X.A.frames=some X.stack
 stk:X.stack=X.outer\/(X.stack=X.env::X.outer/\X.env.frame=some X.env.locals)
 exf: ∀b∈X.ex,b≠X.env.locals/\∀x c,X.env.cells.lookup x=some c->c≠b
 bs: ∀b o,X.base.get? b=some o->X.s₀.heap.get? b=some o/\X.H₀ b=none
 bsz:X.base.objs.size<=X.s₀.heap.objs.size
 noex: ∀b o,X.base.get? b=some o->b∉X.ex
 exfs: ∀b∈X.ex,b∉X.fs
 funs:X.s₀.heap.FunFrames X.base X.outer
 frf: ∀b∈X.fs,X.H₀ b=none
structure Inv(X:Cx)(pins:List (Addr×Obj))(σ:List (Option V))(H:Hp)(s:Shared):Prop where
 ok:X.Ok
 os:s.os=X.s₀.os
 bare:AllBare s.gens
 base:Un X.fs X.ex X.H₀ H X.s₀.heap s.heap
 loc: ∃m,s.heap.Ns X.env.locals m/\∀(i:Nat) (x:Str) (v:V),X.N[i]? =some x->σ[i]? =some (some v)->Vis X.env.scope x->∃u,RelV v u/\Look X.env s.heap m x u
 cell: ∀x c,X.env.cells.lookup x=some c->∃v,s.heap.IsCell c v
 free:H X.env.locals=none
 freeC: ∀x c,X.env.cells.lookup x=some c->H c=none
 pin: ∀p∈X.pn++pins,s.heap.get? p.1=some p.2/\H p.1=none/\p.1≠X.env.locals/\p.1∉X.fs/\∀v,p.2.data≠ .cell v
 hok:HOk X.prog X.w H s.heap
 len:σ.length=X.N.length
section
variable{X:Cx}{pins:List (Addr×Obj)}{σ:List (Option V)}{H H':Hp}{s:Shared}{h':Heap}
theorem Cx.Ok.nofr(ok:X.Ok){b:Addr}{o:Obj}(e:X.base.get? b=some o):b∉X.fs:=fun hb=>by
 have:=(ok.funs.mem hb).1
 rw[e] at this;cases this
theorem Inv.bs(I:Inv X pins σ H s): ∀b o,X.base.get? b=some o->s.heap.get? b=some o/\H b=none:=fun b o e=>
 ⟨I.base.keep b o (I.ok.bs b o e).1 (I.ok.bs b o e).2 (I.ok.nofr e) (I.ok.noex b o e),I.base.free b o (I.ok.bs b o e).1 (I.ok.bs b o e).2 (I.ok.noex b o e)⟩
theorem Inv.bk(I:Inv X pins σ H s): ∀b o,X.base.get? b=some o->s.heap.get? b=some o:=fun b o e=>(I.bs b o e).1
theorem Inv.mod(I:Inv X pins σ H s):Mod X.K X.mg X.base:=I.ok.mod
theorem Inv.kIn(I:Inv X pins σ H s):X.K.In s.heap:=I.ok.mod.kin.keeps I.bk
theorem Inv.lt(I:Inv X pins σ H s):X.env.locals<s.heap.objs.size:=let⟨_,hn,_⟩:=I.loc;hn.lt
theorem Inv.sz(I:Inv X pins σ H s):X.s₀.heap.objs.size<=s.heap.objs.size:=Nat.le_trans I.ok.above (Nat.le_of_lt I.lt)
theorem Inv.nofs(I:Inv X pins σ H s){a:Addr}(h:s.heap.objs.size<=a):a∉X.fs:=fun hb=>by
 obtain⟨_,o,ho,_⟩:=I.ok.funs.mem hb
 exact absurd (Nat.lt_of_lt_of_le (Heap.lt_size ho) (Nat.le_trans I.sz h)) (Nat.lt_irrefl _)
theorem Inv.cne(I:Inv X pins σ H s): ∀x c,X.env.cells.lookup x=some c->c≠X.env.locals:=fun x c e z=>by
 obtain⟨v,o,ho,hd⟩:=I.cell x c e
 obtain⟨m,⟨o',es,ep,ho',hd',_⟩,_⟩:=I.loc
 rw[z,ho'] at ho;cases ho;rw[hd'] at hd;cases hd
theorem Inv.funs(I:Inv X pins σ H s):s.heap.FunFrames X.base X.outer:=by
 have all: ∀(l:List Env),(∀b∈frs l,b∈X.fs)->X.s₀.heap.FunFrames X.base l->s.heap.FunFrames X.base l:=by
  intro l
  induction l with
  |nil=>intro _ _;trivial
  |cons env r ih=>
   intro hs hl
   obtain⟨hk,⟨L,o,hf,hn,ho,hd⟩,hr⟩:=hl
   have hL:L∈X.fs:=hs L (by unfold frs;rw[List.filterMap_cons,hf];exact List.mem_cons_self)
   obtain⟨sl,e⟩:=I.base.slot L o ho (I.ok.frf L hL) hL fun z=>I.ok.exfs L z hL
   exact⟨hk,⟨L,_,hf,hn,e,hd⟩,ih (fun b hb=>hs b (by unfold frs;rw[List.filterMap_cons,hf];exact List.mem_cons_of_mem _ hb)) hr⟩
 exact all X.outer (fun _ hb=>hb) I.ok.funs
theorem Inv.stack(I:Inv X pins σ H s):s.heap.FunFrames X.base X.stack:=by
 rcases I.ok.stk with e|⟨e,hf⟩
 ·rw[e];exact I.funs
 ·rw[e]
  obtain⟨m,hn,_⟩:=I.loc
  refine .cons (by rw[I.ok.kind];decide) hf hn ?_ I.funs
  exact Heap.get?_none_of_le (Nat.le_trans I.ok.bsz I.ok.above)
theorem Inv.stkSub(I:Inv X pins σ H s): ∀b∈frs X.stack,b∈X.env.locals::X.fs:=fun b hb=>by
 rcases I.ok.stk with e|⟨e,hf⟩
 ·rw[e] at hb;exact List.mem_cons_of_mem _ hb
 ·rw[e] at hb
  unfold frs at hb
  rw[List.filterMap_cons,hf] at hb
  exact hb
theorem Inv.stkFree(I:Inv X pins σ H s): ∀b∈frs X.stack,H b=none:=fun b hb=>by
 rcases List.mem_cons.mp (I.stkSub b hb) with e|hb
 ·rw[e];exact I.free
 ·obtain⟨_,o,ho,_⟩:=I.ok.funs.mem hb
  exact I.base.free b o ho (I.ok.frf b hb) fun z=>I.ok.exfs b z hb
theorem Inv.step{g':Array GenState}{t':Nat}{d':Drawn}{ch:List Addr}(I:Inv X pins σ H s)
 (hch: ∀b∈ch,(b∈X.ex\/X.s₀.heap.objs.size<=b)/\b≠X.env.locals/\(∀x c,X.env.cells.lookup x=some c->c≠b)/\∀p∈X.pn++pins,p.1≠b)
 (keep: ∀b o,b≠X.env.locals->b∉X.fs->b∉ch->s.heap.get? b=some o->H b=none->h'.get? b=some o)
 (slot: ∀b o,b≠X.env.locals->b∈X.fs->b∉ch->s.heap.get? b=some o->H b=none->∃sl,h'.get? b=some {o with slots:=sl}) (free: ∀b o,b∉ch->s.heap.get? b=some o->H b=none->H' b=none)
 (there: ∀b o,b∉ch->s.heap.get? b=some o->∃o',h'.get? b=some o')
 (tups: ∀b xs,H b=some (.tup xs)->H' b=some (.tup xs)) (frzs: ∀b o u,H b=some (.frz o u)->H' b=some (.frz o u)) (tbls: ∀b ps,H b=some (.tbl ps)->∃more,H' b=some (.tbl (ps++more)))
 (ns: ∀m,s.heap.Ns X.env.locals m->h'.Ns X.env.locals m) (hok:HOk X.prog X.w H' h') (hg:AllBare g'):
 Inv X pins σ H' {s with heap:=h',gens:=g',drawn:=d',toks:=t'}:=by
 have neL: ∀b o,X.s₀.heap.get? b=some o->b≠X.env.locals:=fun b o e=>Nat.ne_of_lt (Nat.lt_of_lt_of_le (Heap.lt_size e) I.ok.above)
 have neC: ∀b o,X.s₀.heap.get? b=some o->b∉X.ex->b∉ch:=fun b o e hx hb=>by
  rcases(hch b hb).1 with z|z
  ·exact hx z
  ·exact absurd (Nat.lt_of_lt_of_le (Heap.lt_size e) z) (Nat.lt_irrefl _)
 have cellK: ∀x c,X.env.cells.lookup x=some c->∀v,s.heap.IsCell c v->h'.IsCell c v:=fun x c e v ⟨o,ho,hd⟩=>by
  have nch:c∉ch:=fun z=>(hch c z).2.2.1 x c e rfl
  by_cases hc:c∈X.fs
  ·obtain⟨sl,q⟩:=slot c o (I.cne x c e) hc nch ho (I.freeC x c e)
   exact⟨_,q,hd⟩
  ·exact⟨o,keep c o (I.cne x c e) hc nch ho (I.freeC x c e),hd⟩
 refine⟨I.ok,I.os,hg,⟨fun b o e n hb hx=> ?_,fun b o e n hb hx=> ?_,fun b o e n hx=> ?_,fun b o e hx=> ?_,fun b xs e=>tups b xs (I.base.tups b xs e),fun b o xs e=>frzs b o xs (I.base.frzs b o xs e),fun b ps e=> ?_⟩, ?_,fun x c e=> ?_, ?_,fun x c e=> ?_,fun p hp=> ?_,hok,I.len⟩
 ·exact keep b o (neL b o e) hb (neC b o e hx) (I.base.keep b o e n hb hx) (I.base.free b o e n hx)
 ·obtain⟨sl,e1⟩:=I.base.slot b o e n hb hx
  obtain⟨sl',e2⟩:=slot b _ (neL b o e) hb (neC b o e hx) e1 (I.base.free b o e n hx)
  exact⟨sl',e2⟩
 ·obtain⟨o',e1⟩:=I.base.there b o e hx
  exact free b o' (neC b o e hx) e1 (I.base.free b o e n hx)
 ·obtain⟨o',e1⟩:=I.base.there b o e hx
  exact there b o' (neC b o e hx) e1
 ·obtain⟨m1,e1⟩:=I.base.tbls b ps e
  obtain⟨m2,e2⟩:=tbls b _ e1
  exact⟨m1++m2,by rw[e2,Array.append_assoc]⟩
 ·obtain⟨m,hn,hl⟩:=I.loc
  refine⟨m,ns m hn,fun i x v e1 e2 e3=> ?_⟩
  obtain⟨u,r,l⟩:=hl i x v e1 e2 e3
  refine⟨u,r, ?_⟩
  rcases l with l|⟨k,c,e,z⟩
  ·exact .inl l
  ·exact .inr ⟨k,c,e,cellK x c e _ z⟩
 ·obtain⟨v,z⟩:=I.cell x c e
  exact⟨v,cellK x c e v z⟩
 ·obtain⟨m,⟨o,_,_,ho,_⟩,_⟩:=I.loc
  exact free _ o (fun z=>(hch _ z).2.1 rfl) ho I.free
 ·obtain⟨v,o,ho,hd⟩:=I.cell x c e
  exact free c o (fun z=>(hch c z).2.2.1 x c e rfl) ho (I.freeC x c e)
 ·obtain⟨e,n,ne,nf,d⟩:=I.pin p hp
  have nch:p.1∉ch:=fun z=>(hch p.1 z).2.2.2 p hp rfl
  exact⟨keep p.1 p.2 ne nf nch e n,free p.1 p.2 nch e n,ne,nf,d⟩
theorem Inv.un{t':Nat}(I:Inv X pins σ H s)(u:Un X.fs [] H H' s.heap h')(hok:HOk X.prog X.w H' h'):Inv X pins σ H' {s with heap:=h',toks:=t'}:=by
 obtain⟨m,⟨o,es,ep,ho,r⟩,_⟩:=id I.loc
 obtain⟨sl,hL⟩:=u.any ho I.free (by simp)
 exact I.step (g':=s.gens) (d':=s.drawn) (ch:=[]) (fun _ z=>nomatch z) (fun b o _ hb _ e n=>u.keep b o e n hb (by simp)) (fun b o _ hb _ e n=>u.slot b o e n hb (by simp)) (fun b o _ e n=>u.free b o e n (by simp)) (fun b o _ e=>u.there b o e (by simp)) u.tups u.frzs u.tbls (fun m' hm=>by
  obtain⟨o',es',ep',ho',r'⟩:=hm
  rw[ho] at ho';cases ho'
  exact⟨_,es',ep',hL,r'⟩) hok I.bare
theorem Inv.call{g':Array GenState}{t':Nat}{d':Drawn}{ch:List Addr}(I:Inv X pins σ H s)(u:Un (frs X.stack) ch H H' s.heap h')(hok:HOk X.prog X.w H' h')(hg:AllBare g')
 (hch: ∀b∈ch,(b∈X.ex\/X.s₀.heap.objs.size<=b)/\b≠X.env.locals/\(∀x c,X.env.cells.lookup x=some c->c≠b)/\∀p∈X.pn++pins,p.1≠b):
 Inv X pins σ H' {s with heap:=h',gens:=g',drawn:=d',toks:=t'}:=by
 obtain⟨m,⟨o,es,ep,ho,r⟩,_⟩:=id I.loc
 obtain⟨sl,hL⟩:=u.any ho I.free fun z=>(hch _ z).2.1 rfl
 exact I.step (ch:=ch) hch (fun b o hL hb hc e n=>u.keep b o e n (fun z=>(List.mem_cons.mp (I.stkSub b z)).elim hL hb) hc) (fun b o _ _ hc e n=>u.any e n hc) (fun b o hc e n=>u.free b o e n hc) (fun b o hc e=>u.there b o e hc) u.tups u.frzs u.tbls (fun m' hm=>by
  obtain⟨o',es',ep',ho',r'⟩:=hm
  rw[ho] at ho';cases ho'
  exact⟨_,es',ep',hL,r'⟩) hok hg
theorem Inv.turned{t':Nat}{it:Addr}(I:Inv X pins σ H s)(k: ∀b o,b≠it->s.heap.get? b=some o->h'.get? b=some o)(hn:H it=none)(hL:it≠X.env.locals)
 (h1:it∈X.ex\/X.s₀.heap.objs.size<=it) (h2: ∀x c,X.env.cells.lookup x=some c->c≠it) (h3: ∀p∈X.pn++pins,p.1≠it):Inv X pins σ H {s with heap:=h',toks:=t'}:=by
 have nit: ∀b u,H b=some u->b≠it:=fun b u e z=>by rw[z,hn] at e;cases e
 refine I.step (g':=s.gens) (d':=s.drawn) (ch:=[it]) (fun b hb=> ?_) (fun b o _ _ hc e _=>k b o (fun z=>hc (by simp[z])) e) (fun b o _ _ hc e _=>⟨o.slots,k b o (fun z=>hc (by simp[z])) e⟩) (fun _ _ _ _ n=>n)
  (fun b o hc e=>⟨o,k b o (fun z=>hc (by simp[z])) e⟩) (fun _ _ e=>e) (fun _ _ _ e=>e) (fun b ps e=>⟨#[],by rw[e];simp⟩) (fun m hm=> ?_) (fun b u e=> ?_) I.bare
 ·have e:b=it:=by simpa using hb
  subst e
  exact⟨h1,hL,h2,h3⟩
 ·obtain⟨o,es,ep,ho,r⟩:=hm
  exact⟨o,es,ep,k _ o (Ne.symm hL) ho,r⟩
 ·refine(I.hok b u e).stay (fun c v hc q=>k c v ?_ q) (fun _ q=>q) fun _ _ q=>q
  rcases hc with z|z
  ·rw[z];exact nit b u e
  ·exact nit c _ z
theorem Inv.tok(I:Inv X pins σ H s)(t:Nat):Inv X pins σ H {s with toks:=t}:=I.un (h':=s.heap) (t':=t) Un.refl I.hok
theorem Inv.kept{t':Nat}(I:Inv X pins σ H s)(k: ∀b u,s.heap.get? b=some u->h'.get? b=some u):Inv X pins σ H {s with heap:=h',toks:=t'}:=I.un (Un.kept k) (I.hok.kept k)
theorem Inv.laid{a:Addr}{o:HO}{t':Nat}(I:Inv X pins σ H s)(k: ∀b u,s.heap.get? b=some u->h'.get? b=some u)(hp:s.heap.objs.size<=a)(new:z25 X.prog X.w (upd H a o) h' a o):
 Inv X pins σ (upd H a o) {s with heap:=h',toks:=t'}:=I.un (Un.laid k hp (I.hok.fresh hp)) (I.hok.laid k hp new)
theorem Inv.write{x e:Addr}{o:HO}{t':Nat}(I:Inv X pins σ H s)(mu:Mut (H x))(he:e=x\/H e=some (.own x))(k: ∀b u,b≠e->s.heap.get? b=some u->h'.get? b=some u)(heo: ∃u,h'.get? e=some u)
 (new:z25 X.prog X.w (upd H x o) h' x o):Inv X pins σ (upd H x o) {s with heap:=h',toks:=t'}:=I.un (Un.write mu he k heo) (I.hok.write mu he k heo new)
theorem Inv.pins_of{pins':List (Addr×Obj)}(I:Inv X pins σ H s)(h: ∀p∈pins',s.heap.get? p.1=some p.2/\H p.1=none/\p.1≠X.env.locals/\p.1∉X.fs/\∀v,p.2.data≠ .cell v):Inv X pins' σ H s:=
 ⟨I.ok,I.os,I.bare,I.base,I.loc,I.cell,I.free,I.freeC,fun p hp=>(List.mem_append.mp hp).elim (fun z=>I.pin p (List.mem_append_left _ z)) (h p),I.hok,I.len⟩
theorem z6i{N:List Str}(hN:N.Nodup){i j:Nat}{x:Str}(a:N[i]? =some x)(b:N[j]? =some x):i=j:=by
 obtain⟨h1,e1⟩:=List.getElem?_eq_some_iff.mp a
 obtain⟨h2,e2⟩:=List.getElem?_eq_some_iff.mp b
 exact(List.getElem_inj hN).mp (e1.trans e2.symm)
theorem z7D{M:Model}{A:Around}{E:Value->Shared->Prop}{i:Nat}{x:Str}{v:V}{u:Value}{Q:Unit->Shared->Prop}(I:Inv X pins σ H s)(hN:X.N.Nodup)(hi:X.N[i]? =some x)(hx:Loc X.env.scope x)(r:RelV v u)
 (h: ∀s',Inv X pins (σ.set i (some v)) H s'->(∃a,Heap.SameBut a s.heap s'.heap/\(a=X.env.locals\/X.env.cells.lookup x=some a))->Q () s') (hf:X.fn x=true\/X.env.scope.names.lookup x=some .local:=by first|exact .inl rfl|exact .inr rfl|assumption):wpAny M A (storeName X.env x u) Q E s:=by
 obtain⟨m,hn,hl⟩:=id I.loc
 have hcls:(X.env.scope.kind== .class||(X.env.scope.kind== .module&&X.env.locals !=X.env.globals))=false:=by rw[I.ok.kind];rfl
 have hiσ:i<σ.length:=by rw[I.len];exact(List.getElem?_eq_some_iff.mp hi).1
 have cne:=I.cne
 have tracked: ∀{a:Addr} {h':Heap},(∃o,s.heap.get? a=some o/\H a=none)->Heap.SameBut a s.heap h'->HOk X.prog X.w H h':=fun{a h'} ha hs b ob e=>by
  obtain⟨_,_,hfree⟩:=ha
  refine(I.hok b ob e).stay (fun c w' hc q=>(hs.2 c ?_).trans q) (fun _ q=>q) fun _ _ q=>q
  rintro rfl
  rcases hc with rfl|hc
  ·rw[hfree] at e;cases e
  ·rw[hfree] at hc;cases hc
 rcases hx with hk|hk
 ·refine wpAny_storeName_local hk hn (fun h' hn' hs=> ?_) hcls
  obtain⟨oL,_,_,hoL,_⟩:=id hn
  refine h _ ⟨I.ok,I.os,I.bare,⟨fun b o e n hb hx=> ?_,fun b o e n hb hx=> ?_,I.base.free,fun b o e hx=> ?_,I.base.tups,I.base.frzs,I.base.tbls⟩,⟨_,hn',fun j y v' e1 e2 e3=> ?_⟩,fun y c e=> ?_,I.free,I.freeC,fun p hp=> ?_,tracked ⟨oL,hoL,I.free⟩ hs,by simpa using I.len⟩ ⟨_,hs, .inl rfl⟩
  ·exact(hs.2 b (Nat.ne_of_lt (Nat.lt_of_lt_of_le (Heap.lt_size e) I.ok.above))).trans (I.base.keep b o e n hb hx)
  ·obtain⟨sl,e1⟩:=I.base.slot b o e n hb hx
   exact⟨sl,(hs.2 b (Nat.ne_of_lt (Nat.lt_of_lt_of_le (Heap.lt_size e) I.ok.above))).trans e1⟩
  ·obtain⟨o',e1⟩:=I.base.there b o e hx
   exact⟨o',(hs.2 b (Nat.ne_of_lt (Nat.lt_of_lt_of_le (Heap.lt_size e) I.ok.above))).trans e1⟩
  ·by_cases hj:j=i
   ·subst hj
    rw[hi] at e1;cases e1
    rw[List.getElem?_set_self hiσ] at e2
    cases e2
    exact⟨u,r, .inl ⟨hk,by simp⟩⟩
   ·rw[List.getElem?_set_ne (Ne.symm hj)] at e2
    obtain⟨u',r',q⟩:=hl j y v' e1 e2 e3
    refine⟨u',r', ?_⟩
    rcases q with⟨k,e⟩|⟨k,c,e,z⟩
    ·refine .inl ⟨k, ?_⟩
     have:y≠x:=fun e=>hj (z6i hN e1 (e▸hi))
     simp[this,e]
    ·exact .inr ⟨k,c,e,z.sameBut hs (cne y c e)⟩
  ·obtain⟨w',z⟩:=I.cell y c e
   exact⟨w',z.sameBut hs (cne y c e)⟩
  ·obtain⟨e,n,ne,nf,d⟩:=I.pin p hp
   exact⟨(hs.2 p.1 ne).trans e,n,ne,nf,d⟩
 ·have hfn:X.fn x=true:=by
   rcases hf with z|z
   ·exact z
   ·rw[z] at hk;cases hk
  obtain⟨c,hc⟩:=I.ok.has x (.inl hk)
  obtain⟨w',z⟩:=I.cell x c hc
  refine wpAny_storeName_cell I.ok.kind hk hc z (fun h' hc' hs=> ?_)
  obtain⟨oc,hoc,hocd⟩:=id z
  refine h {s with heap:=h'} ⟨I.ok,I.os,I.bare,⟨fun b o e n hb hx=> ?_,fun b o e n hb hx=> ?_,I.base.free,fun b o e hx=> ?_,I.base.tups,I.base.frzs,I.base.tbls⟩,⟨m,hn.sameBut hs (Ne.symm (cne x c hc)),fun j y v' e1 e2 e3=> ?_⟩,fun y c' e=> ?_,I.free,I.freeC,fun p hp=> ?_,tracked ⟨oc,hoc,I.freeC x c hc⟩ hs,by simpa using I.len⟩ ⟨c,hs, .inr hc⟩
  ·exact(hs.2 b (Nat.ne_of_lt (Nat.lt_of_lt_of_le (Heap.lt_size e) (I.ok.cab x c hfn hc)))).trans (I.base.keep b o e n hb hx)
  ·obtain⟨sl,e1⟩:=I.base.slot b o e n hb hx
   exact⟨sl,(hs.2 b (Nat.ne_of_lt (Nat.lt_of_lt_of_le (Heap.lt_size e) (I.ok.cab x c hfn hc)))).trans e1⟩
  ·obtain⟨o',e1⟩:=I.base.there b o e hx
   exact⟨o',(hs.2 b (Nat.ne_of_lt (Nat.lt_of_lt_of_le (Heap.lt_size e) (I.ok.cab x c hfn hc)))).trans e1⟩
  ·by_cases hj:j=i
   ·subst hj
    rw[hi] at e1;cases e1
    rw[List.getElem?_set_self hiσ] at e2
    cases e2
    exact⟨u,r, .inr ⟨.inl hk,c,hc,hc'⟩⟩
   ·rw[List.getElem?_set_ne (Ne.symm hj)] at e2
    obtain⟨u',r',q⟩:=hl j y v' e1 e2 e3
    refine⟨u',r', ?_⟩
    rcases q with q|⟨k,c',e,z'⟩
    ·exact .inl q
    ·refine .inr ⟨k,c',e,z'.sameBut hs ?_⟩
     rintro rfl
     exact hj (z6i hN e1 (I.ok.inj _ _ _ e hc▸hi))
  ·by_cases hcc:c'=c
   ·subst hcc;exact⟨_,hc'⟩
   ·obtain⟨w2,z2⟩:=I.cell y c' e
    exact⟨w2,z2.sameBut hs hcc⟩
  ·obtain⟨e,n,ne,nf,d⟩:=I.pin p hp
   refine⟨(hs.2 p.1 ?_).trans e,n,ne,nf,d⟩
   intro q
   rw[q,hoc] at e
   have q':oc=p.2:=Option.some.inj e
   exact d w' (by rw[<-q'];exact hocd)
theorem z2F{M:Model}{A:Around}{E:Value->Shared->Prop}{i:Nat}{x:Str}{v:V}{u:Value}{Q:Unit->Shared->Prop}(I:Inv X pins σ H s)(hN:X.N.Nodup)(hi:X.N[i]? =some x)(hx:Loc X.env.scope x)(r:RelV v u)
 (h: ∀s',Inv X pins (σ.set i (some v)) H s'->Q () s') (hf:X.fn x=true\/X.env.scope.names.lookup x=some .local:=by first|exact .inl rfl|exact .inr rfl|assumption):wpAny M A (storeName X.env x u) Q E s:=
 z7D I hN hi hx r (fun s' I' _=>h s' I') hf
theorem Inv.call'{s':Shared}{ch:List Addr}(I:Inv X pins σ H s)(ho:s'.os=s.os)(u:Un (frs X.stack) ch H H' s.heap s'.heap)(hok:HOk X.prog X.w H' s'.heap)(hg:AllBare s'.gens)
 (hch: ∀b∈ch,(b∈X.ex\/X.s₀.heap.objs.size<=b)/\b≠X.env.locals/\(∀x c,X.env.cells.lookup x=some c->c≠b)/\∀p∈X.pn++pins,p.1≠b):Inv X pins σ H' s':=by
 obtain⟨h',g',d',t',o'⟩:=s'
 have e:o'=s.os:=ho
 subst e
 exact I.call (g':=g') (t':=t') (d':=d') u hok hg hch
end
noncomputable abbrev XK:=Value->Option Addr->Hp->Prop
noncomputable abbrev St:=List (Option V)
noncomputable abbrev VK:=V->Hp->Prop
noncomputable abbrev TE:=St->Hp->VK->Prop
noncomputable abbrev TT:=St->Hp->(Bool->Hp->Prop)->Prop
noncomputable abbrev TA:=St->Hp->(List V->Hp->Prop)->Prop
structure Ends where
 nx:St->Hp->Prop
 rt:VK
 bk:St->Hp->Prop:=fun _ _=>False
 ct:St->Hp->Prop:=fun _ _=>False
noncomputable abbrev TS:=Ends->St->Hp->Prop
noncomputable def EP(X:Cx)(pins:List (Addr×Obj))(σ:St)(Q:VK)(u:Value)(s':Shared):Prop:= ∃v H',Inv X pins σ H' s'/\RelV v u/\Q v H'
noncomputable def TP(X:Cx)(pins:List (Addr×Obj))(σ:St)(Q:Bool->Hp->Prop)(b:Bool)(s':Shared):Prop:= ∃H',Inv X pins σ H' s'/\Q b H'
noncomputable def AP(X:Cx)(pins:List (Addr×Obj))(σ:St)(Q:List V->Hp->Prop)(us:List Value)(s':Shared):Prop:= ∃vs H',Inv X pins σ H' s'/\Vals vs us/\Q vs H'
noncomputable def SP(X:Cx)(pins:List (Addr×Obj))(D:Ends)(f:Flow)(s':Shared):Prop:=
 match f with
 | .next=> ∃σ' H',Inv X pins σ' H' s'/\D.nx σ' H'
 | .brk=> ∃σ' H',Inv X pins σ' H' s'/\D.bk σ' H'
 | .cont=> ∃σ' H',Inv X pins σ' H' s'/\D.ct σ' H'
 | .ret u=> ∃v σ' H',Inv X pins σ' H' s'/\RelV v u/\D.rt v H'
noncomputable def PE(X:Cx)(e:Expr)(t:TE):Prop:=
 ∀(pins:List (Addr×Obj)) (s:Shared) (σ:St) (H:Hp) (Q:VK),Inv X pins σ H s->t σ H Q->wpAny (model X.prog X.w) X.A (eval e X.env) (EP X pins σ Q) X.xe s
noncomputable def PT(X:Cx)(e:Expr)(t:TT):Prop:=
 ∀(pins:List (Addr×Obj)) (s:Shared) (σ:St) (H:Hp) (Q:Bool->Hp->Prop),Inv X pins σ H s->t σ H Q->wpAny (model X.prog X.w) X.A (isTrue e X.env (eval e X.env)) (TP X pins σ Q) X.xe s
noncomputable def PW(X:Cx)(e:Expr)(t:TT):Prop:=
 ∀(whole:Sem Value) (pins:List (Addr×Obj)) (s:Shared) (σ:St) (H:Hp) (Q:Bool->Hp->Prop),Inv X pins σ H s->t σ H Q->wpAny (model X.prog X.w) X.A (isTrue e X.env whole) (TP X pins σ Q) X.xe s
theorem PW.pt{X:Cx}{e:Expr}{t:TT}(h:PW X e t):PT X e t:=h _
noncomputable def PA(X:Cx)(es:List Expr)(t:TA):Prop:=
 ∀(pos:Pos) (pins:List (Addr×Obj)) (s:Shared) (σ:St) (H:Hp) (Q:List V->Hp->Prop),Inv X pins σ H s->t σ H Q->wpAny (model X.prog X.w) X.A (spliced (backTo pos (starEach es X.env))) (AP X pins σ Q) X.xe s
noncomputable def PS(X:Cx)(st:Stmt)(t:TS):Prop:=
 ∀(pins:List (Addr×Obj)) (s:Shared) (σ:St) (H:Hp) (D:Ends),Inv X pins σ H s->t D σ H->wpAny (model X.prog X.w) X.A (exec st X.env) (SP X pins D) X.xe s
noncomputable def PSs(X:Cx)(st:List Stmt)(t:TS):Prop:=
 ∀(pins:List (Addr×Obj)) (s:Shared) (σ:St) (H:Hp) (D:Ends),Inv X pins σ H s->t D σ H->wpAny (model X.prog X.w) X.A (execs st X.env) (SP X pins D) X.xe s
theorem thn{α:Type}{t:Sem α}{Q Q':α->Shared->Prop}{M:Model}{A:Around}{E:Value->Shared->Prop}{s:Shared}(h:wpAny M A t Q E s)(hQ: ∀a s,Q a s->Q' a s):wpAny M A t Q' E s:=wpAny_mono h hQ fun _ _ x=>x
section
variable{X:Cx}
noncomputable def tVar(i:Nat):TE:=fun σ H Q=> ∃v,σ[i]? =some (some v)/\Q v H
noncomputable def tC(v:V):TE:=fun _ H Q=>Q v H
theorem zce{i:Nat}{x:Str}{pos:Pos}(hN:X.N[i]? =some x)(hv:Vis X.env.scope x)(hd:(x==("__debug__" :Str))=false:=by decide)(hcd:(x==("__classdict__" :Str))=false:=by decide):PE X (.Name x pos) (tVar i):=by
 intro pins s σ H Q I h
 obtain⟨v,e,h⟩:=h
 obtain⟨m,hn,hl⟩:=I.loc
 obtain⟨u,r,l⟩:=hl i x v hN e hv
 have fin:EP X pins σ Q u s:=⟨v,H,I,r,h⟩
 rcases l with⟨hk,hm⟩|⟨hk,c,hc,hcell⟩
 ·exact wpAny_Name (wpAny_loadName_local I.ok.kind hk hn hm fin) hd
 ·rcases hk with hk|hk
  ·exact wpAny_Name (wpAny_loadName_cell I.ok.kind hk hc hcell fin) hd
  ·exact wpAny_Name (wpAny_loadName_free I.ok.kind hk hc hcell fin hcd) hd
theorem z01{i j pos}:PE X (.Constant (.int i) j pos) (tC (.int i)):=fun _ _ _ H _ I h=>wpAny_Constant_int ⟨.int i,H,I.tok _,⟨_,rfl⟩,h⟩
theorem z4g{b j pos}:PE X (.Constant (.bool b) j pos) (tC (.bl b)):=fun _ _ _ H _ I h=>Constant_bool ⟨.bl b,H,I,rfl,h⟩
theorem z5i{j pos}:PE X (.Constant .none j pos) (tC .non):=fun _ _ _ H _ I h=>Constant_none ⟨.non,H,I,rfl,h⟩
theorem z7E{x j pos}:PE X (.Constant (.str x) j pos) (tC (.str x)):=fun _ _ _ H _ I h=>Calls.Constant_str ⟨.str x,H,I.tok _,⟨_,rfl⟩,h⟩
noncomputable def Gl(X:Cx)(x:Str):Prop:=X.env.kindOf x=some .globalImplicit
theorem z31{E:Value->Shared->Prop}{pins:List (Addr×Obj)}{s:Shared}{σ:St}{H:Hp}{x:Str}{u:Value}{pos:Pos}{Q:Value->Shared->Prop}(I:Inv X pins σ H s)(hg:Gl X x)(hm:X.mg x=some u)(h:Q u s)
 (hd:(x==("__debug__" :Str))=false:=by decide):wpAny (model X.prog X.w) X.A (eval (.Name x pos) X.env) Q E s:=
 Calls.Name_function_global I.ok.kind hg (Calls.loadGlobal_global (by rw[I.ok.glob];exact I.mod.glob.keeps I.bk) hm h) hd
theorem z3j{E:Value->Shared->Prop}{pins:List (Addr×Obj)}{s:Shared}{σ:St}{H:Hp}{x:Str}{u:Value}{pos:Pos}{Q:Value->Shared->Prop}(I:Inv X pins σ H s)(hg:Gl X x)(hm:X.mg x=none)(hv:bootBuiltins x=some u)(h:Q u s)
 (hn:x≠ "__name__" :=by decide) (hd:(x==("__debug__" :Str))=false:=by decide):wpAny (model X.prog X.w) X.A (eval (.Name x pos) X.env) Q E s:=by
 obtain⟨mb,h1,h2⟩:=I.mod.blt
 exact Calls.Name_function_global I.ok.kind hg (Calls.loadGlobal_builtin (by rw[I.ok.glob];exact I.mod.glob.keeps I.bk) hm (by rw[I.ok.blt];exact h1.keeps I.bk) ((h2 x hn).trans hv) h) hd
theorem z0n{x:Str}{v:V}{u:Value}{pos:Pos}(hg:Gl X x)(hm:X.mg x=some u)(r:RelV v u)(hd:(x==("__debug__" :Str))=false:=by decide):PE X (.Name x pos) (tC v):=
 fun _ _ _ H _ I h=>z31 I hg hm ⟨v,H,I,r,h⟩ hd
theorem z0M{x:Str}{v:V}{u:Value}{pos:Pos}(hg:Gl X x)(hm:X.mg x=none)(hv:bootBuiltins x=some u)(r:RelV v u)(hn:x≠ "__name__" :=by decide)(hd:(x==("__debug__" :Str))=false:=by decide):PE X (.Name x pos) (tC v):=
 fun _ _ _ H _ I h=>z3j I hg hm hv ⟨v,H,I,r,h⟩ hn hd
variable{a b:Expr}{ta tb:TE}{pos:Pos}
variable{tA tB':TT}{rest:List Expr}
noncomputable def tAnd(t u:TT):TT:=fun σ H Q=>t σ H fun c H1=>if c=true then u σ H1 Q else Q false H1
noncomputable def tOr(t u:TT):TT:=fun σ H Q=>t σ H fun c H1=>if c=true then Q true H1 else u σ H1 Q
noncomputable def tNot(t:TT):TT:=fun σ H Q=>t σ H fun c H1=>Q (!c) H1
theorem zax(ha:PT X a tA):PW X (.BoolOp .And [a] pos) tA:=by
 intro wh pins s σ H Q I h
 refine isTrue_and (thn (ha pins s σ H Q I h) fun c s1 e=> ?_)
 cases c with
 |true=>exact isTrue_and_nil e
 |false=>exact e
theorem zcf(ha:PT X a tA):PW X (.BoolOp .Or [a] pos) tA:=by
 intro wh pins s σ H Q I h
 refine isTrue_or (thn (ha pins s σ H Q I h) fun c s1 e=> ?_)
 cases c with
 |false=>exact isTrue_or_nil e
 |true=>exact e
theorem zcg(ha:PT X a tA)(hb:PW X (.BoolOp .And (b::rest) pos) tB'):PW X (.BoolOp .And (a::b::rest) pos) (tAnd tA tB'):=by
 intro wh pins s σ H Q I h
 refine isTrue_and (thn (ha pins s σ H _ I h) fun c s1 ⟨H1,I1,q1⟩=> ?_)
 cases c with
 |true=>exact hb wh pins s1 σ H1 Q I1 q1
 |false=>exact⟨H1,I1,q1⟩
theorem zep(ha:PT X a tA)(hb:PW X (.BoolOp .Or (b::rest) pos) tB'):PW X (.BoolOp .Or (a::b::rest) pos) (tOr tA tB'):=by
 intro wh pins s σ H Q I h
 refine isTrue_or (thn (ha pins s σ H _ I h) fun c s1 ⟨H1,I1,q1⟩=> ?_)
 cases c with
 |true=>exact⟨H1,I1,q1⟩
 |false=>exact hb wh pins s1 σ H1 Q I1 q1
theorem zch(ha:PT X a tA):PT X (.UnaryOp .Not a pos) (tNot tA):=by
 intro pins s σ H Q I h
 exact isTrue_not (ha pins s σ H (fun c H1=>Q (!c) H1) I h)
noncomputable def zeq(ta tb:TE):TE:=fun σ H Q=>ta σ H fun x H1=> ∃c,x= .bl c/\if c=true then tb σ H1 Q else Q (.bl false) H1
noncomputable def tOrV(ta tb:TE):TE:=fun σ H Q=>ta σ H fun x H1=> ∃c,x= .bl c/\if c=true then Q (.bl true) H1 else tb σ H1 Q
noncomputable def zer(ta:TE):TE:=fun σ H Q=>ta σ H fun x H1=> ∃c,x= .bl c/\Q (.bl (!c)) H1
theorem zci{op}{t:TE}(h:PE X a t):PE X (.BoolOp op [a] pos) t:=fun pins s σ H Q I hw=>BoolOp_one (h pins s σ H Q I hw)
theorem zcj(ha:PE X a ta)(hb:PE X (.BoolOp .And (b::rest) pos) tb):PE X (.BoolOp .And (a::b::rest) pos) (zeq ta tb):=by
 intro pins s σ H Q I h
 refine BoolOp_and (thn (ha pins s σ H _ I h) fun v s1 ⟨x,H1,I1,r1,q1⟩=> ?_)
 obtain⟨c,rfl,q1⟩:=q1
 cases r1
 refine wpAny_truthy_bool ?_
 cases c with
 |true=>exact hb pins s1 σ H1 Q I1 q1
 |false=>exact⟨.bl false,H1,I1,rfl,q1⟩
theorem zes(ha:PE X a ta)(hb:PE X (.BoolOp .Or (b::rest) pos) tb):PE X (.BoolOp .Or (a::b::rest) pos) (tOrV ta tb):=by
 intro pins s σ H Q I h
 refine BoolOp_or (thn (ha pins s σ H _ I h) fun v s1 ⟨x,H1,I1,r1,q1⟩=> ?_)
 obtain⟨c,rfl,q1⟩:=q1
 cases r1
 refine wpAny_truthy_bool ?_
 cases c with
 |false=>exact hb pins s1 σ H1 Q I1 q1
 |true=>exact⟨.bl true,H1,I1,rfl,q1⟩
theorem zck(ha:PE X a ta):PE X (.UnaryOp .Not a pos) (zer ta):=by
 intro pins s σ H Q I h
 refine UnaryOp_ (thn (ha pins s σ H _ I h) fun v s1 ⟨x,H1,I1,r1,q1⟩=> ?_)
 obtain⟨c,rfl,q1⟩:=q1
 cases r1
 exact not_of (wpAny_truthy_bool ⟨.bl (!c),H1,I1,rfl,q1⟩)
end
noncomputable def SqL(K:W.Frag)(H:Hp)(a:Addr)(xs:List V):Prop:=
 Rd H a (.lst xs)\/
  ∃(o:Obj) (its:Array Value) (n:Nat),K.lookup a=some o/\o.cls= .type "list" /\o.dict=none/\o.data= .seq its n/\its.size<=sizeLine/\Vals xs its.toList
noncomputable def SqT(K:W.Frag)(H:Hp)(a:Addr)(xs:List V):Prop:=
 Rd H a (.tup xs)\/
  ∃(o:Obj) (its:Array Value) (n:Nat),K.lookup a=some o/\o.cls= .type "tuple" /\o.data= .seq its n/\its.size<=sizeLine/\Vals xs its.toList
noncomputable def absV:Value->Option V
 | .none=>some .non
 | .bool b=>some (.bl b)
 | .int i _=>some (.int i)
 | .str x _=>some (.str x)
 | .bytes b _=>some (.byt b)
 | .float b _=>some (.flt b)
 | .ref a=>some (.ref a)
 | .type n=>some (.ty n)
 |_=>none
theorem RelV.abs{x:V}{u:Value}(r:RelV x u):absV u=some x:=by
 cases x with
 |non=>cases r;rfl
 |bl _=>cases r;rfl
 |int _=>obtain⟨t,rfl⟩:=r;rfl
 |str _=>obtain⟨t,rfl⟩:=r;rfl
 |byt _=>obtain⟨t,rfl⟩:=r;rfl
 |flt _=>obtain⟨t,rfl⟩:=r;rfl
 |ref _=>cases r;rfl
 |ty _=>cases r;rfl
theorem RelV.inj{x y:V}{u:Value}(r:RelV x u)(q:RelV y u):x=y:=Option.some.inj (r.abs.symm.trans q.abs)
theorem Vals.inj: ∀{xs ys:List V} {us:List Value},Vals xs us->Vals ys us->xs=ys
 |_,_,_, .nil, .nil=>rfl
 |_,_,_, .cons r t, .cons r' t'=>by rw[r.inj r',Vals.inj t t']
section
variable{X:Cx}{pins:List (Addr×Obj)}{σ:St}{H:Hp}{s:Shared}{a:Addr}{xs ys:List V}
theorem SqL.of{K:W.Frag}(h:H a=some (.lst xs)):SqL K H a xs:= .inl (.inl h)
theorem SqT.of{K:W.Frag}(h:H a=some (.tup xs)):SqT K H a xs:= .inl (.inl h)
theorem Inv.list(I:Inv X pins σ H s)(h:SqL X.K H a xs): ∃its:List Value,Vals xs its/\PlainL s.heap a its.toArray/\xs.length<=sizeLine:=by
 rcases h with h|⟨o,its,n,hk,hc,hd,hs,hz,r⟩
 ·obtain⟨z,its,n,r,e⟩:=h.ok I.hok
  exact⟨its,r,⟨_,n,e,rfl,rfl,rfl⟩,z⟩
 ·refine⟨its.toList,r,⟨o,n,I.kIn a o hk,hc,hd,by simpa using hs⟩, ?_⟩
  have e:=r.length
  simp only[Array.length_toList] at e
  lia
theorem Inv.tuple(I:Inv X pins σ H s)(h:SqT X.K H a xs): ∃its:List Value,Vals xs its/\IsTup s.heap a its.toArray/\xs.length<=sizeLine:=by
 rcases h with h|⟨o,its,n,hk,hc,hs,hz,r⟩
 ·obtain⟨z,its,r,p⟩:=h.ok I.hok
  exact⟨its,r,p,z⟩
 ·refine⟨its.toList,r,⟨o,I.kIn a o hk,hc,n,by simpa using hs⟩, ?_⟩
  have e:=r.length
  simp only[Array.length_toList] at e
  lia
theorem Inv.list_inj(I:Inv X pins σ H s)(h:SqL X.K H a xs)(h':SqL X.K H a ys):xs=ys:=by
 obtain⟨its,r,⟨o,n,e,_,_,d⟩,_⟩:=I.list h
 obtain⟨its',r',⟨o',n',e',_,_,d'⟩,_⟩:=I.list h'
 rw[e] at e';cases e'
 rw[d] at d'
 injection d' with d1 _
 have:its=its':=by simpa using congrArg Array.toList d1
 subst this
 exact r.inj r'
theorem Inv.tuple_inj(I:Inv X pins σ H s)(h:SqT X.K H a xs)(h':SqT X.K H a ys):xs=ys:=by
 obtain⟨its,r,⟨o,e,_,n,d⟩,_⟩:=I.tuple h
 obtain⟨its',r',⟨o',e',_,n',d'⟩,_⟩:=I.tuple h'
 rw[e] at e';cases e'
 rw[d] at d'
 injection d' with d1 _
 have:its=its':=by simpa using congrArg Array.toList d1
 subst this
 exact r.inj r'
end
noncomputable abbrev Cx.wish(X:Cx)(E:Value->Shared->Prop):Cx:={X with xe:=E}
noncomputable abbrev Cx.nox(X:Cx):Cx:=X.wish fun _ _=>False
theorem Cx.Ok.wish{X:Cx}(ok:X.Ok)(E:Value->Shared->Prop):(X.wish E).Ok:=
 ⟨ok.mod,ok.kind,ok.glob,ok.blt,ok.above,ok.inj,ok.has,ok.cab,ok.hd,ok.frames,ok.stk,ok.exf,ok.bs,ok.bsz,ok.noex,ok.exfs,ok.funs,ok.frf⟩
theorem Cx.Ok.unwish{X:Cx}{E:Value->Shared->Prop}(ok:(X.wish E).Ok):X.Ok:=
 ⟨ok.mod,ok.kind,ok.glob,ok.blt,ok.above,ok.inj,ok.has,ok.cab,ok.hd,ok.frames,ok.stk,ok.exf,ok.bs,ok.bsz,ok.noex,ok.exfs,ok.funs,ok.frf⟩
section
variable{X:Cx}{pins:List (Addr×Obj)}{σ:St}{H:Hp}{s:Shared}{E:Value->Shared->Prop}
theorem Inv.wish(I:Inv X pins σ H s)(E:Value->Shared->Prop):Inv (X.wish E) pins σ H s:=⟨I.ok.wish E,I.os,I.bare,I.base,I.loc,I.cell,I.free,I.freeC,I.pin,I.hok,I.len⟩
theorem Inv.unwish(I:Inv (X.wish E) pins σ H s):Inv X pins σ H s:=⟨I.ok.unwish,I.os,I.bare,I.base,I.loc,I.cell,I.free,I.freeC,I.pin,I.hok,I.len⟩
theorem SP.unwish{D:Ends}{f:Flow}{s':Shared}(h:SP (X.wish E) pins D f s'):SP X pins D f s':=by
 cases f with
 |next=>obtain⟨σ',H',I,q⟩:=h;exact⟨σ',H',I.unwish,q⟩
 |brk=>obtain⟨σ',H',I,q⟩:=h;exact⟨σ',H',I.unwish,q⟩
 |cont=>obtain⟨σ',H',I,q⟩:=h;exact⟨σ',H',I.unwish,q⟩
 |ret u=>obtain⟨v,σ',H',I,r,q⟩:=h;exact⟨v,σ',H',I.unwish,r,q⟩
theorem PSs.nox{st:List Stmt}{t:TS}(h:PSs X.nox st t):PSs X st t:=fun pins s σ H D I hw=>
 wpAny_mono (h pins s σ H D (I.wish _) hw) (fun _ _ q=>q.unwish) fun _ _ z=>False.elim z
end
section
variable{X:Cx}{st:Stmt}{rest:List Stmt}{t u:TS}{e:Expr}{te:TE}{pos:Pos}
noncomputable def zet:TS:=fun D σ H=>D.nx σ H
noncomputable def tSeq(t u:TS):TS:=fun D σ H=>t {D with nx:=u D} σ H
theorem zay:PSs X [] zet:=fun _ _ σ H _ I h=>wpAny_execs_nil ⟨σ,H,I,h⟩
theorem z92(h1:PS X st t)(h2:PSs X rest u):PSs X (st::rest) (tSeq t u):=by
 intro pins s σ H D I h
 refine wpAny_execs_cons (thn (h1 pins s σ H {D with nx:=u D} I h) fun f s1 q=> ?_)
 cases f with
 |next=>
  obtain⟨σ',H',I',q⟩:=q
  exact h2 pins s1 σ' H' D I' q
 |ret v=>exact q
 |brk=>exact q
 |cont=>exact q
theorem zaz(h1:PS X st t):PSs X [st] t:=by
 intro pins s σ H D I h
 refine wpAny_execs_cons (thn (h1 pins s σ H D I h) fun f s1 q=> ?_)
 cases f with
 |next=>exact wpAny_execs_nil q
 |ret v=>exact q
 |brk=>exact q
 |cont=>exact q
theorem Inv.quiet{pins:List (Addr×Obj)}{σ:St}{H:Hp}{s:Shared}(I:Inv X pins σ H s):interactive X.env=false:=by simp[interactive,I.ok.kind]
noncomputable def zeu(te:TE):TS:=fun D σ H=>te σ H fun _ H1=>D.nx σ H1
theorem zaA(he:PE X e te)(hs:swapsWith e none pos.line X.env=pure false:=by rfl):PS X (.Expr e pos) (zeu te):=by
 intro pins s σ H D I h
 exact wpAny_Expr_any (thn (he pins s σ H _ I h) fun v s1 ⟨x,H1,I1,r1,q1⟩=>⟨σ,H1,I1,q1⟩) I.quiet hs
noncomputable def tRet(te:TE):TS:=fun D σ H=>te σ H D.rt
theorem zcl(he:PE X e te):PS X (.Return (some e) pos) (tRet te):=by
 intro pins s σ H D I h
 exact wpAny_Return_some (thn (he pins s σ H _ I h) fun v s1 ⟨x,H1,I1,r1,q1⟩=>⟨x,σ,H1,I1,r1,q1⟩)
noncomputable def tIfS(c:TT)(t u:TS):TS:=fun D σ H=>c σ H fun b H1=>if b=true then t D σ H1 else u D σ H1
theorem zev{c:Expr}{a b:List Stmt}{tc:TT}(hc:PT X c tc)(ha:PSs X a t)(hb:PSs X b u):PS X (.If c a b pos) (tIfS tc t u):=by
 intro pins s σ H D I h
 refine wpAny_If (thn (hc pins s σ H _ I h) fun d s1 ⟨H1,I1,q1⟩=> ?_)
 cases d with
 |true=>exact ha pins s1 σ H1 D I1 q1
 |false=>exact hb pins s1 σ H1 D I1 q1
end
noncomputable abbrev TG:=V->St->Hp->(St->Hp->Prop)->Prop
noncomputable abbrev TGs:=List V->St->Hp->(St->Hp->Prop)->Prop
noncomputable def PG(X:Cx)(target:Expr)(t:TG):Prop:=
 ∀(pins:List (Addr×Obj)) (s:Shared) (σ:St) (H:Hp) (v:V) (u:Value) (Q:St->Hp->Prop),Inv X pins σ H s->RelV v u->t v σ H Q->
  wpAny (model X.prog X.w) X.A (assign target X.env u) (fun _ s'=> ∃σ' H',Inv X pins σ' H' s'/\Q σ' H') X.xe s
noncomputable def PGs(X:Cx)(ts:List Expr)(t:TGs):Prop:=
 ∀(pins:List (Addr×Obj)) (s:Shared) (σ:St) (H:Hp) (vs:List V) (us:List Value) (Q:St->Hp->Prop),Inv X pins σ H s->Vals vs us->t vs σ H Q->
  wpAny (model X.prog X.w) X.A (assignInOrder ((assignEach ts X.env).map (·.2)) us) (fun _ s'=> ∃σ' H',Inv X pins σ' H' s'/\Q σ' H') X.xe s
noncomputable abbrev TSet:=V->V->V->Hp->(Hp->Prop)->Prop
noncomputable def PSet(X:Cx)(t:TSet):Prop:=
 ∀(pins:List (Addr×Obj)) (s:Shared) (σ:St) (H:Hp) (o i v:V) (ov iv u:Value) (Q:Hp->Prop),Inv X pins σ H s->RelV o ov->RelV i iv->RelV v u->t o i v H Q->
  wpAny (model X.prog X.w) X.A (setItem ov iv u) (fun _ s'=> ∃H',Inv X pins σ H' s'/\Q H') X.xe s
section
variable{X:Cx}{pos:Pos}
noncomputable def z6Y(i:Nat):TG:=fun v σ H Q=>Q (σ.set i (some v)) H
theorem z1x{i:Nat}{x:Str}(hN:X.N.Nodup)(hi:X.N[i]? =some x)(hx:Loc X.env.scope x)(hf:X.fn x=true\/X.env.scope.names.lookup x=some .local:=by first|exact .inl rfl|exact .inr rfl|assumption):PG X (.Name x pos) (z6Y i):=by
 intro pins s σ H v u Q I r h
 exact wpAny_assign_Name (z2F I hN hi hx r (fun s' I'=>⟨_,H,I',h⟩) hf)
noncomputable def gNil:TGs:=fun vs σ H Q=>vs=[]/\Q σ H
noncomputable def zew(t:TG)(u:TGs):TGs:=fun vs σ H Q=> ∃v r,vs=v::r/\t v σ H fun σ' H'=>u r σ' H' Q
theorem zaB:PGs X [] gNil:=by
 intro pins s σ H vs us Q I r h
 obtain⟨e,h⟩:=h
 subst e
 cases r
 exact assignInOrder_nil ⟨σ,H,I,h⟩
theorem z93{e:Expr}{es:List Expr}{t:TG}{u:TGs}(h1:PG X e t)(h2:PGs X es u)
 (hs:(assignEach (e::es) X.env).map (·.2)=assign e X.env::(assignEach es X.env).map (·.2):=by rfl):PGs X (e::es) (zew t u):=by
 intro pins s σ H vs us Q I r h
 obtain⟨v,vr,e1,h⟩:=h
 subst e1
 cases r with
 |cons r rr=>
  rw[hs]
  refine assignInOrder_cons (thn (h1 pins s σ H _ _ _ I r h) fun _ s1 ⟨σ1,H1,I1,q1⟩=> ?_)
  exact h2 pins s1 σ1 H1 _ _ Q I1 rr q1
noncomputable def gTup(K:W.Frag)(n:Nat)(t:TGs):TG:=fun v σ H Q=> ∃a xs,v= .ref a/\SqT K H a xs/\xs.length=n/\t xs σ H Q
theorem zcm{es:List Expr}{k:Nat}{t:TGs}{n:Nat}(hc:X.calm=true)(h:PGs X es t)
 (hn:(assignEach es X.env).length=n:=by rfl) (hst:(assignEach es X.env).findIdx? (·.1)=none:=by rfl):PG X (.Tuple es k pos) (gTup X.K n t):=by
 intro pins s σ H v u Q I r hw
 obtain⟨a,xs,e1,hq,hl,hw⟩:=hw
 subst e1
 cases r
 obtain⟨its,rv,ht,hz⟩:=I.tuple hq
 refine assign_Tuple_tuple (I.ok.hd hc) ht (by simp[hn,<-hl,rv.length]) hst fun h' hx=> ?_
 have I1:Inv X pins σ H {s with heap:=h'}:=I.kept (t':=s.toks) fun b o e=>hx b o (Nat.ne_of_lt (Heap.lt_size e)) e
 exact h pins _ σ H xs _ Q I1 (by simpa using rv) hw
noncomputable def gSub(to ti:TE)(t:TSet):TG:=fun v σ H Q=>to σ H fun o H1=>ti σ H1 fun i H2=>t o i v H2 fun H3=>Q σ H3
theorem z7F{o i:Expr}{to ti:TE}{t:TSet}(ho:PE X o to)(hi:PE X i ti)(hs:PSet X t)
 (ha: ∀v,assign (.Subscript o i pos) X.env v=(do
  let ov<-holding [v] (eval o X.env)
  let iv<-holding [v,ov] (eval i X.env)
  standAt pos
  holding [v,ov,iv] (setItem ov iv v)
  release [v,ov,iv] []):=by intro _;rfl):PG X (.Subscript o i pos) (gSub to ti t):=by
 intro pins s σ H v u Q I r h
 rw[ha]
 refine wpAny_bind (wpAny_holding (thn (ho pins s σ H _ I h) fun ov s1 ⟨x,H1,I1,r1,q1⟩=> ?_))
 refine wpAny_bind (wpAny_holding (thn (hi pins s1 σ H1 _ I1 q1) fun iv s2 ⟨y,H2,I2,r2,q2⟩=> ?_))
 refine wpAny_bind (wpAny_standAt (wpAny_bind (wpAny_holding (thn (hs pins s2 σ H2 x y v ov iv u _ I2 r1 r2 r q2) fun _ s3 ⟨H3,I3,q3⟩=> ?_))))
 exact wpAny_release ⟨σ,H3,I3,q3⟩
noncomputable def tAsg(te:TE)(g:TG):TS:=fun D σ H=>te σ H fun x H1=>g x σ H1 D.nx
theorem zcn{tg e:Expr}{te:TE}{g:TG}(he:PE X e te)(hg:PG X tg g)(hs:swapsWithSole [tg] e pos.line X.env=pure false:=by rfl)(hw:swappedStores [tg] e X.env=pure none:=by rfl)
 (h1:(assignEach [tg] X.env).map (·.2)=[assign tg X.env]:=by rfl):PS X (.Assign [tg] e pos) (tAsg te g):=by
 intro pins s σ H D I h
 refine wpAny_Assign_stores (thn (he pins s σ H _ I h) fun v s1 ⟨x,H1,I1,r1,q1⟩=> ?_) hs hw
 rw[h1]
 exact thn (hg pins s1 σ H1 x v _ I1 r1 q1) fun _ s2 q=>q
theorem za4{i:Nat}{x:Str}{e:Expr}{te:TE}{pos':Pos}(hN:X.N.Nodup)(hi:X.N[i]? =some x)(hx:Loc X.env.scope x)(he:PE X e te)(hs:swapsWith e (some (.Name x pos')) pos.line X.env=pure false:=by rfl)(hf:X.fn x=true\/X.env.scope.names.lookup x=some .local:=by first|exact .inl rfl|exact .inr rfl|assumption):
 PS X (.Assign [.Name x pos'] e pos) (tAsg te (z6Y i)):=by
 intro pins s σ H D I h
 refine wpAny_Assign_Name (thn (he pins s σ H _ I h) fun v s1 ⟨y,H1,I1,r1,q1⟩=> ?_) hs
 exact z2F I1 hN hi hx r1 (fun s2 I2=>⟨_,H1,I2,q1⟩) hf
noncomputable def tPar(i j:Nat)(ta:TA):TS:=fun D σ H=>ta σ H fun vs H1=> ∃v w,vs=[v,w]/\D.nx ((σ.set i (some v)).set j (some w)) H1
theorem zco{i j:Nat}{x y:Str}{a b:Expr}{ta:TA}{px py pt:Pos}{kt k2 pt2}(hc:X.calm=true)(hN:X.N.Nodup)(hi:X.N[i]? =some x)(hj:X.N[j]? =some y)(hij:i≠j)
 (hx:X.env.scope.names.lookup x=some .local) (hy:X.env.scope.names.lookup y=some .local) (ha:PA X [a,b] ta)
 (hw:swappedStores [.Tuple [.Name x px, .Name y py] kt pt] (.Tuple [a,b] k2 pt2) X.env=pure (some [x,y]))
 (hs:swapsWithSole [.Tuple [.Name x px, .Name y py] kt pt] (.Tuple [a,b] k2 pt2) pos.line X.env=pure false:=by rfl):
 PS X (.Assign [.Tuple [.Name x px, .Name y py] kt pt] (.Tuple [a,b] k2 pt2) pos) (tPar i j ta):=by
 intro pins s σ H D I h
 rw[exec_Assign_arm]
 refine wpAny_bind (wpAny_standAt ?_)
 rw[hs]
 refine wpAny_bind (wpAny_pure ?_)
 rw[if_neg (by decide)]
 refine wpAny_bind (Tuple_ (thn (ha _ pins s σ H _ I h) fun us s1 ⟨vs,H1,I1,r1,q1⟩=> ?_))
 obtain⟨v,w,e1,q1⟩:=q1
 subst e1
 obtain⟨u1,u2,rfl,rv,rw'⟩: ∃u1 u2,us=[u1,u2]/\RelV v u1/\RelV w u2:=by
  cases r1 with
  |cons p q=>
   cases q with
   |cons p' q'=>
    cases q'
    exact⟨_,_,rfl,p,p'⟩
 refine wpAny_newObj_type ?_ (by show 2<=sizeLine;decide)
 have I2:Inv X pins σ H1 {s1 with heap:=s1.heap.push {cls:= .type "tuple",data:= .seq [u1,u2].toArray}}:=I1.kept (t':=s1.toks) fun b o e=>Heap.get?_push_of_some _ e
 rw[hw]
 refine wpAny_bind (wpAny_pure ?_)
 show wpAny (model X.prog X.w) X.A (do rule "assign.swapped-stores";let items<-unpackItems (.ref s1.heap.objs.size) 2 none;assignInOrder [fun v=>bindName X.env y v,fun v=>bindName X.env x v] items.reverse;pure Flow.next) _ _ _
 refine wpAny_bind (wpAny_rule (wpAny_bind (unpackItems_tuple (items:= #[u1,u2]) (I.ok.hd hc) (IsTup.new s1.heap _) fun h' hx'=> ?_)))
 have I3:=I2.kept (h':=h') (t':=s1.toks) fun b o e=>hx' b o (Nat.ne_of_lt (Heap.lt_size e)) e
 show wpAny _ _ (assignInOrder [fun v=>bindName X.env y v,fun v=>bindName X.env x v] [u2,u1]>>=fun _=>pure Flow.next) _ _ _
 refine wpAny_bind (assignInOrder_cons (wpAny_bindName (z2F I3 hN hj (.inl hy) rw' (fun s2 I4=> ?_) (.inr hy))))
 refine assignInOrder_cons (wpAny_bindName (z2F I4 hN hi (.inl hx) rv (fun s3 I5=>assignInOrder_nil (wpAny_pure ?_)) (.inr hx)))
 rw[List.set_comm _ _ (Ne.symm hij)] at I5
 exact⟨_,H1,I5,q1⟩
noncomputable def zcp(c:TT)(tb:TS):TS:=fun D σ H=> ∃W:Nat->St->Hp->Prop,(∃m,W m σ H)/\∀m σ H,W m σ H->
 c σ H fun b H1=>if b=true then ∃N:St->Hp->Prop,(∀σ' H',N σ' H'->∃m',m'<m/\W m' σ' H')/\tb {D with nx:=N,ct:=N,bk:=D.nx} σ H1 else D.nx σ H1
theorem z94{c:Expr}{body:List Stmt}{tc:TT}{tb:TS}(hp:PassesOwn (model X.prog X.w) X.A X.env X.xe)(hc:PT X c tc)(hb:PSs X body tb):PS X (.While c body [] pos) (zcp tc tb):=by
 intro pins s σ H D I h
 obtain⟨W,⟨m0,w0⟩,turn⟩:=h
 refine wpAny_While (codeAny_whileLoop (fun n s'=> ∃σ' H',Inv X pins σ' H' s'/\W n σ' H') ?_ m0 ⟨σ,H,I,w0⟩)
 rintro n s1 ⟨σ1,H1,I1,w1⟩
 refine wpAny_passesOwn hp (thn (hc pins s1 σ1 H1 _ I1 (turn n σ1 H1 w1)) fun b s2 ⟨H2,I2,q2⟩=> ?_)
 cases b with
 |true=>
  obtain⟨N,hN,q2⟩:=q2
  rw[if_pos rfl]
  refine wpAny_passesOwn hp (thn (hb pins s2 σ1 H2 _ I2 q2) fun f s3 q3=> ?_)
  cases f with
  |next=>
   obtain⟨σ3,H3,I3,n3⟩:=q3
   obtain⟨m',hm,w3⟩:=hN σ3 H3 n3
   exact⟨m',hm,σ3,H3,I3,w3⟩
  |cont=>
   obtain⟨σ3,H3,I3,n3⟩:=q3
   obtain⟨m',hm,w3⟩:=hN σ3 H3 n3
   exact⟨m',hm,σ3,H3,I3,w3⟩
  |brk=>exact q3
  |ret v=>exact q3
 |false=>
  rw[if_neg Bool.false_ne_true]
  exact wpAny_execs_nil ⟨σ1,H2,I2,q2⟩
end
structure It where
 go:Nat->Hp->Prop
 yld:Nat->Hp->V->Hp->Prop
 stop:Nat->Hp->Prop
noncomputable def FpOk(X:Cx)(pins:List (Addr×Obj))(H:Hp)(b:Addr):Prop:=
 H b=none/\b≠X.env.locals/\b∉X.fs/\(b∈X.ex\/X.s₀.heap.objs.size<=b)/\(∀x c,X.env.cells.lookup x=some c->c≠b)/\∀p∈X.pn++pins,p.1≠b
theorem Inv.fpOk{X:Cx}{pins:List (Addr×Obj)}{σ:St}{H H':Hp}{s:Shared}{b:Addr}(I:Inv X pins σ H s)(hb:s.heap.objs.size<=b)(hn:H' b=none):FpOk X pins H' b:=by
 refine⟨hn,Nat.ne_of_gt (Nat.lt_of_lt_of_le I.lt hb),I.nofs hb, .inr (Nat.le_trans I.sz hb),fun x c e z=> ?_,fun p hp z=> ?_⟩
 ·obtain⟨v,q⟩:=I.cell x c e
  exact absurd (Nat.lt_of_lt_of_le q.lt (by rw[z];exact hb)) (Nat.lt_irrefl _)
 ·exact absurd (Nat.lt_of_lt_of_le (Heap.lt_size (I.pin p hp).1) (by rw[z];exact hb)) (Nat.lt_irrefl _)
structure Turn(P:Program)(w:World)(K:W.Frag)(tg:Expr)(J:It)(fp:List Addr)(it:Addr)(tn:Nat->Heap->Prop):Prop where
 mem:it∈fp
 obj: ∀i h,tn i h->∀b∈fp,∃o,h.get? b=some o/\∀v,o.data≠ .cell v
 keep: ∀i h h',tn i h->(∀b∈fp,∀o,h.get? b=some o->h'.get? b=some o)->tn i h'
 item: ∀(X:Cx),X.prog=P->X.w=w->X.K=K->X.calm=true->∀(i:Nat) (pins:List (Addr×Obj)) (s:Shared) (σ:St) (H:Hp) (E:Value->Shared->Prop),Inv X pins σ H s->(∀b∈fp,FpOk X pins H b)->tn i s.heap->J.go i H->
  wpAny (model P w) X.A (pyNext (.ref it)) (fun r s1=> ∃u,r=some u/\
   wpAny (model P w) X.A (letOwnedTupleGo tg (.ref it) u) (fun _ s2=> ∃x H',Inv X pins σ H' s2/\RelV x u/\J.yld i H x H'/\tn (i+1) s2.heap/\∀b∈fp,H' b=none) E s1) E s
 done: ∀(X:Cx),X.prog=P->X.w=w->X.K=K->X.calm=true->∀(i:Nat) (pins:List (Addr×Obj)) (s:Shared) (σ:St) (H:Hp) (E:Value->Shared->Prop),Inv X pins σ H s->(∀b∈fp,FpOk X pins H b)->tn i s.heap->J.stop i H->
  wpAny (model P w) X.A (pyNext (.ref it)) (fun r s1=>r=none/\Inv X pins σ H s1) E s
 self: ∀(A:Around) (i:Nat) (s:Shared) (Q:Value->Shared->Prop) (E:Value->Shared->Prop),tn i s.heap->Q (.ref it) s->wpAny (model P w) A (pyIter (.ref it)) Q E s
noncomputable abbrev TI:=St->Hp->(It->Hp->Prop)->Prop
noncomputable def PIE(X:Cx)(pins:List (Addr×Obj))(σ:St)(tg:Expr)(R:It->Hp->Prop)(itv:Value)(s2:Shared):Prop:=
 ∃(it:Addr) (fp:List Addr) (tn:Nat->Heap->Prop) (J:It) (H':Hp),itv= .ref it/\Inv X pins σ H' s2/\Turn X.prog X.w X.K tg J fp it tn/\tn 0 s2.heap/\(∀b∈fp,FpOk X pins H' b)/\R J H'
noncomputable def PI(X:Cx)(tg iter:Expr)(wi:TI):Prop:=
 ∀(pins:List (Addr×Obj)) (s:Shared) (σ:St) (H:Hp) (R:It->Hp->Prop),Inv X pins σ H s->wi σ H R->
  wpAny (model X.prog X.w) X.A (eval iter X.env) (fun v s1=>wpAny (model X.prog X.w) X.A (pyIter v) (PIE X pins σ tg R) X.xe s1) X.xe s
theorem zaC{M:Model}{A:Around}{E:Value->Shared->Prop}{s:Shared}{tg:Expr}{it:Addr}{u:Value}{o:Obj}{n:String}{vs:Array Value}{Q:Unit->Shared->Prop}(ho:s.heap.get? it=some o)(hc:o.cls= .type n)(hd:o.data= .fields vs)
 (hn:["enumerate", "zip", "dict_itemiterator", "dict_reverseitemiterator", "odict_iterator", "itertools.zip_longest", "itertools.pairwise"].contains n=false) (hQ:Q () s):wpAny M A (letOwnedTupleGo tg (.ref it) u) Q E s:=by
 unfold letOwnedTupleGo
 cases tg<;>first
  |exact wpAny_pure hQ
  |(cases u<;>first
   |exact wpAny_pure hQ
   |(refine wpAny_bind (wpAny_load ho ?_)
     rw[hc,hd]
     show wpAny M A (if(["enumerate", "zip", "dict_itemiterator", "dict_reverseitemiterator", "odict_iterator", "itertools.zip_longest", "itertools.pairwise"].contains n&&vs[0]? ==some (rawInt _))=true then _ else _) Q E s
     rw[if_neg (by intro h;rw[hn,Bool.false_and] at h;cases h)]
     exact wpAny_pure hQ))
noncomputable def Itl(K:W.Frag)(a:Addr):It:=
 ⟨fun i H=> ∃xs x,SqL K H a xs/\xs[i]? =some x,fun i H x H'=>H'=H/\∀xs,SqL K H a xs->xs[i]? =some x,fun i H=> ∃xs,SqL K H a xs/\xs.length<=i⟩
noncomputable def Itt(K:W.Frag)(a:Addr):It:=
 ⟨fun i H=> ∃xs x,SqT K H a xs/\xs[i]? =some x,fun i H x H'=>H'=H/\∀xs,SqT K H a xs->xs[i]? =some x,fun i H=> ∃xs,SqT K H a xs/\xs.length<=i⟩
noncomputable def Itr(lo:Int)(n:Nat):It:=⟨fun i _=>i<n,fun i H x H'=>H'=H/\x= .int (lo+i),fun i _=>n<=i⟩
theorem z7G{P:Program}{w:World}{K:W.Frag}{tg:Expr}(a it:Addr):Turn P w K tg (Itl K a) [it] it (fun i h=>h.IsListIter it a i) where
 mem:=by simp
 obj:=fun i h st b hb=>by
  have e:b=it:=by simpa using hb
  subst e
  obtain⟨o,e,c,d⟩:=st
  exact⟨o,e,fun v z=>by rw[d] at z;cases z⟩
 keep:=fun i h h' st k=>st.at fun o e=>k it (by simp) o e
 item:=by
  intro X hP hw hK hc i pins s σ H E I hf st hg
  subst hP hw hK
  obtain⟨xs,x,hq,hx⟩:=hg
  obtain⟨its,rv,p,hz⟩:=I.list hq
  obtain⟨u,hu,ru⟩:=rv.get hx
  obtain⟨f0,f1,f2,f3,f4,f5⟩:=hf it (by simp)
  refine wpAny_pyNext_list_item st p.isList (x:=u) (by simpa using hu) fun h' st' sb=> ?_
  have I1:Inv X pins σ H {s with heap:=h'}:=I.turned (t':=s.toks) (fun b o hb e=>(sb.2 b hb).trans e) f0 f1 f3 f4 f5
  obtain⟨o,e,c,d⟩:=id st'
  exact⟨u,rfl,zaC (s:={s with heap:=h'}) e c d (by decide) ⟨x,H,I1,ru,⟨rfl,fun ys hy=>by rw[I.list_inj hy hq];exact hx⟩,st',fun b hb=>(hf b hb).1⟩⟩
 done:=by
  intro X hP hw hK hc i pins s σ H E I hf st hg
  subst hP hw hK
  obtain⟨xs,hq,hx⟩:=hg
  obtain⟨its,rv,p,hz⟩:=I.list hq
  obtain⟨f0,f1,f2,f3,f4,f5⟩:=hf it (by simp)
  have hl:=rv.length
  exact wpAny_pyNext_list_end (I.ok.hd hc) st p.isList (by simp;lia) fun h' eb=>⟨rfl,I.turned (t':=s.toks) (fun b o hb e=>eb b o hb e) f0 f1 f3 f4 f5⟩
 self:=fun _ _ _ _ _ st h=>wpAny_pyIter_listiter st h
theorem z6Z{P:Program}{w:World}{K:W.Frag}{tg:Expr}(a it:Addr):Turn P w K tg (Itt K a) [it] it (fun i h=>h.IsTupleIter it a i) where
 mem:=by simp
 obj:=fun i h st b hb=>by
  have e:b=it:=by simpa using hb
  subst e
  obtain⟨o,e,c,d⟩:=st
  exact⟨o,e,fun v z=>by rw[d] at z;cases z⟩
 keep:=fun i h h' st k=>st.at fun o e=>k it (by simp) o e
 item:=by
  intro X hP hw hK hc i pins s σ H E I hf st hg
  subst hP hw hK
  obtain⟨xs,x,hq,hx⟩:=hg
  obtain⟨its,rv,p,hz⟩:=I.tuple hq
  obtain⟨u,hu,ru⟩:=rv.get hx
  obtain⟨f0,f1,f2,f3,f4,f5⟩:=hf it (by simp)
  refine wpAny_pyNext_tuple_item st (show s.heap.IsTuple a its.toArray from p) (x:=u) (by simpa using hu) fun h' st' sb=> ?_
  have I1:Inv X pins σ H {s with heap:=h'}:=I.turned (t':=s.toks) (fun b o hb e=>(sb.2 b hb).trans e) f0 f1 f3 f4 f5
  obtain⟨o,e,c,d⟩:=id st'
  exact⟨u,rfl,zaC (s:={s with heap:=h'}) e c d (by decide) ⟨x,H,I1,ru,⟨rfl,fun ys hy=>by rw[I.tuple_inj hy hq];exact hx⟩,st',fun b hb=>(hf b hb).1⟩⟩
 done:=by
  intro X hP hw hK hc i pins s σ H E I hf st hg
  subst hP hw hK
  obtain⟨xs,hq,hx⟩:=hg
  obtain⟨its,rv,p,hz⟩:=I.tuple hq
  obtain⟨f0,f1,f2,f3,f4,f5⟩:=hf it (by simp)
  have hl:=rv.length
  exact wpAny_pyNext_tuple_end (I.ok.hd hc) st (show s.heap.IsTuple a its.toArray from p) (by simp;lia) fun h' eb=>⟨rfl,I.turned (t':=s.toks) (fun b o hb e=>eb b o hb e) f0 f1 f3 f4 f5⟩
 self:=fun _ _ _ _ _ st h=>wpAny_pyIter_tupleiter st h
theorem z70{P:Program}{w:World}{K:W.Frag}{tg:Expr}(it:Addr)(lo:Int)(n:Nat):Turn P w K tg (Itr lo n) [it] it (fun i h=>IsRangeIter h it (lo+(i:Nat)*1) ((n:Int) -(i:Nat)) 1) where
 mem:=by simp
 obj:=fun i h st b hb=>by
  have e:b=it:=by simpa using hb
  subst e
  exact⟨_,st,fun v z=>by
   have z':Data.fields _=Data.cell v:=z
   cases z'⟩
 keep:=fun i h h' st k=>k it (by simp) _ st
 item:=by
  intro X hP hw hK hc i pins s σ H E I hf st hg
  subst hP hw hK
  obtain⟨f0,f1,f2,f3,f4,f5⟩:=hf it (by simp)
  have W:=Walks.range (prog:=X.prog) (w:=X.w) (I.ok.hd hc) it lo 1 n
  refine W.item i s _ _ hg st fun v h' tk hv st' kk=> ?_
  obtain⟨t,rfl⟩:=hv
  have I1:Inv X pins σ H {s with heap:=h',toks:=tk}:=I.turned (fun b o hb e=>kk b o (by simpa using hb) e) f0 f1 f3 f4 f5
  refine⟨_,rfl,zaC (s:={s with heap:=h',toks:=tk}) (n:= "range_iterator") st' rfl rfl (by decide) ⟨.int (lo+i),H,I1,⟨t, ?_⟩,⟨rfl,rfl⟩,st',fun b hb=>(hf b hb).1⟩⟩
  rw[Int.mul_one]
 done:=by
  intro X hP hw hK hc i pins s σ H E I hf st hg
  subst hP hw hK
  obtain⟨f0,f1,f2,f3,f4,f5⟩:=hf it (by simp)
  exact wpAny_pyNext_range_end (I.ok.hd hc) st (by have:n<=i:=hg;lia) fun h' eb=>⟨rfl,I.turned (t':=s.toks) (fun b o hb e=>eb b o hb e) f0 f1 f3 f4 f5⟩
 self:=fun _ _ _ _ _ st h=>wpAny_pyIter_rangeiter st h
section
variable{X:Cx}{tg:Expr}
theorem z6j{pins:List (Addr×Obj)}{σ:St}{H:Hp}{s:Shared}{R:It->Hp->Prop}{E:Value->Shared->Prop}{lo hi:Int}{t u v:Tok}{tk:Nat}(I:Inv X pins σ H s)(h1: -(2^62)<=lo)(h2:lo<2^62)(h3: -(2^62)<=hi)(h4:hi<2^62)
 (q:R (Itr lo (hi -lo).toNat) H):wpAny (model X.prog X.w) X.A (pyIter (.ref s.heap.objs.size)) (PIE X pins σ tg R) E {s with heap:=s.heap.push {cls:= .type "range",data:= .fields #[.int lo t, .int hi u, .int 1 v]},toks:=tk}:=by
 refine wpAny_pyIter_range (IsRange.new ..) (small_one h1 h2 h3 h4) ?_
 have I1:Inv X pins σ H {s with heap:=s.heap.push {cls:= .type "range",data:= .fields #[.int lo t, .int hi u, .int 1 v]},toks:=tk}:=I.kept fun b o e=>Heap.get?_push_of_some _ e
 refine⟨(s.heap.push {cls:= .type "range",data:= .fields #[.int lo t, .int hi u, .int 1 v]}).objs.size,[(s.heap.push {cls:= .type "range",data:= .fields #[.int lo t, .int hi u, .int 1 v]}).objs.size],_,_,H,rfl,
  I1.kept (t':=tk) fun b o e=>Heap.get?_push_of_some _ e,z70 _ lo (hi -lo).toNat, ?_,fun b hb=> ?_,q⟩
 ·have e1:lo+((0:Nat):Int)*1=lo:=by simp
  have e2:(((hi -lo).toNat:Nat):Int) -((0:Nat):Int)=Builtin.Range.rangeSize lo hi 1:=by rw[rangeSize_one];split<;>lia
  show IsRangeIter _ _ (lo+((0:Nat):Int)*1) ((((hi -lo).toNat:Nat):Int) -((0:Nat):Int)) 1
  rw[e1,e2]
  exact Heap.get?_push_size _ rfl
 ·have e:b=(s.heap.push {cls:= .type "range",data:= .fields #[.int lo t, .int hi u, .int 1 v]}).objs.size:=by simpa using hb
  subst e
  exact I1.fpOk (Nat.le_refl _) (I1.hok.fresh (Nat.le_refl _))
noncomputable def zex(ta:TA):TI:=fun σ H R=>ta σ H fun vs H1=> ∃j:Int,vs=[.int j]/\-(2^62)<=j/\j<2^62/\R (Itr 0 j.toNat) H1
noncomputable def zey(ta:TA):TI:=fun σ H R=>ta σ H fun vs H1=> ∃i j:Int,vs=[.int i, .int j]/\(-(2^62)<=i/\i<2^62/\-(2^62)<=j/\j<2^62)/\R (Itr i (j -i).toNat) H1
theorem z7H{a:Expr}{ta:TA}{p pos:Pos}(hg:Gl X "range")(hm:X.mg "range" =none)(ha:PA X [a] ta)(hs:starEach [a] X.env=[(false,eval a X.env)]:=by rfl):PI X tg (.Call (.Name "range" p) [a] [] pos) (zex ta):=by
 intro pins s σ H R I h
 refine Call_ (z3j I hg hm boot_range (PyProof.Rows.callWith_type1 (thn (ha pos pins s σ H _ I h) fun us s1 ⟨vs,H1,I1,r1,q1⟩=> ?_) hs rfl))
 obtain⟨j,e,q1,q2,q⟩:=q1
 subst e
 cases r1 with
 |cons r rr=>
  cases rr
  obtain⟨t,rfl⟩:=r
  exact call_range_1 (z6j I1 (by lia) (by lia) q1 q2 (by simpa using q))
theorem z7I{a b:Expr}{ta:TA}{p pos:Pos}(hg:Gl X "range")(hm:X.mg "range" =none)(ha:PA X [a,b] ta)(hs:starEach [a,b] X.env=[(false,eval a X.env),(false,eval b X.env)]:=by rfl)(hs2:starEach [b] X.env=[(false,eval b X.env)]:=by rfl):
 PI X tg (.Call (.Name "range" p) [a,b] [] pos) (zey ta):=by
 intro pins s σ H R I h
 refine Call_ (z3j I hg hm boot_range (PyProof.Rows.callWith_type1 (thn (ha pos pins s σ H _ I h) fun us s1 ⟨vs,H1,I1,r1,q1⟩=> ?_) (by rw[hs,hs2]) (by rw[hs2];rfl)))
 obtain⟨i,j,e,⟨q1,q2,q3,q4⟩,q⟩:=q1
 subst e
 cases r1 with
 |cons r rr=>
  cases rr with
  |cons r' rr=>
   cases rr
   obtain⟨t,rfl⟩:=r
   obtain⟨t',rfl⟩:=r'
   exact call_range_2 (z6j I1 q1 q2 q3 q4 q)
noncomputable def tFor(wi:TI)(g:TG)(tb:TS):TS:=fun D σ H=>wi σ H fun J H1=> ∃W:Nat->Nat->St->Hp->Prop,(∃m,W 0 m σ H1)/\∀i m σ H,W i m σ H->
 (J.stop i H/\D.nx σ H)\/(J.go i H/\∃N:St->Hp->Prop,(∀σ' H',N σ' H'->∃m',m'<m/\W (i+1) m' σ' H')/\∀x H',J.yld i H x H'->g x σ H' fun σ2 H2=>tb {D with nx:=N,ct:=N,bk:=D.nx} σ2 H2)
noncomputable def z6k(fp:List Addr)(h:Heap):List (Addr×Obj):=fp.filterMap fun b=>(h.get? b).map fun o=>(b,o)
theorem z1n{fp:List Addr}{h:Heap}{b:Addr}{o:Obj}(hb:b∈fp)(e:h.get? b=some o):(b,o)∈z6k fp h:=List.mem_filterMap.mpr ⟨b,hb,by rw[e];rfl⟩
theorem z7J{fp:List Addr}{h:Heap}{p:Addr×Obj}(hp:p∈z6k fp h):p.1∈fp/\h.get? p.1=some p.2:=by
 obtain⟨b,hb,e⟩:=List.mem_filterMap.mp hp
 cases q:h.get? b with
 |none=>rw[q] at e;cases e
 |some o=>
  rw[q] at e
  have e':(b,o)=p:=Option.some.inj e
  subst e'
  exact⟨hb,q⟩
theorem Inv.pinned{pins:List (Addr×Obj)}{σ:St}{H:Hp}{s:Shared}{fp:List Addr}(I:Inv X pins σ H s)(hf: ∀b∈fp,FpOk X pins H b)(ho: ∀b∈fp,∃o,s.heap.get? b=some o/\∀v,o.data≠ .cell v):Inv X (pins++z6k fp s.heap) σ H s:=
 I.pins_of fun p hp=>(List.mem_append.mp hp).elim (fun z=>I.pin p (List.mem_append_right _ z)) fun z=>by
  obtain⟨hb,e⟩:=z7J z
  obtain⟨f0,f1,f2,_⟩:=hf p.1 hb
  obtain⟨o,e',d⟩:=ho p.1 hb
  rw[e] at e';cases e'
  exact⟨e,f0,f1,f2,d⟩
theorem Inv.unpinned{pins pl:List (Addr×Obj)}{σ:St}{H:Hp}{s:Shared}(I:Inv X (pins++pl) σ H s):Inv X pins σ H s:=I.pins_of fun p hp=>I.pin p (List.mem_append_right _ (List.mem_append_left _ hp))
theorem zcq{iter:Expr}{body:List Stmt}{wi:TI}{g:TG}{tb:TS}{pos:Pos}(hp:PassesOwn (model X.prog X.w) X.A X.env X.xe)(hc:X.calm=true)(hi:PI X tg iter wi)(hg:PG X tg g)(hb:PSs X body tb)
 (hs: ∀x,foldedSetIterable iter X.env x=pure x:=by intro _;rfl):PS X (.For tg iter body [] pos) (tFor wi g tb):=by
 intro pins s σ H D I h
 refine wpAny_For (thn (hi pins s σ H _ I h) fun v s1 h1=>thn h1 fun itv s2 h2=> ?_) hs
 obtain⟨it,fp,tn,J,H2,e,I2,T,st2,f2,W,⟨m0,w0⟩,turn⟩:=h2
 subst e
 have stat: ∀{H':Hp},(∀b∈fp,H' b=none)->∀b∈fp,FpOk X pins H' b:=fun hn b hb=>⟨hn b hb,(f2 b hb).2⟩
 refine codeAny_forLoop_any (fun n s'=> ∃i σ' H',Inv X pins σ' H' s'/\tn i s'.heap/\(∀b∈fp,H' b=none)/\W i n σ' H') ?_ m0 ⟨0,σ,H2,I2,st2,fun b hb=>(f2 b hb).1,w0⟩
 rintro n s3 ⟨i,σ3,H3,I3,st3,fr3,w3⟩
 rcases turn i n σ3 H3 w3 with⟨stop,qn⟩|⟨go,N,hN,step⟩
 ·refine wpAny_passesOwn hp (thn (T.done X rfl rfl rfl hc i pins s3 σ3 H3 X.xe I3 (stat fr3) st3 stop) fun r s4 ⟨hr,I4⟩=> ?_)
  subst hr
  exact wpAny_execs_nil ⟨σ3,H3,I4,qn⟩
 ·refine wpAny_passesOwn hp (thn (T.item X rfl rfl rfl hc i pins s3 σ3 H3 X.xe I3 (stat fr3) st3 go) fun r s4 ⟨u,hr,h4⟩=> ?_)
  subst hr
  refine wpAny_passesOwn hp (thn h4 fun _ s5 ⟨x,H5,I5,r5,y5,st5,fr5⟩=> ?_)
  have I5':=I5.pinned (stat fr5) (T.obj _ _ st5)
  refine wpAny_passesOwn hp (thn (hg _ s5 σ3 H5 x u _ I5' r5 (step x H5 y5)) fun _ s6 ⟨σ6,H6,I6,q6⟩=> ?_)
  refine wpAny_passesOwn hp (thn (hb _ s6 σ6 H6 _ I6 q6) fun f s7 q7=> ?_)
  have again: ∀{σ7:St} {H7:Hp},Inv X (pins++z6k fp s5.heap) σ7 H7 s7->N σ7 H7->∃m,m<n/\∃i σ' H',Inv X pins σ' H' s7/\tn i s7.heap/\(∀b∈fp,H' b=none)/\W i m σ' H':=fun{σ7 H7} I7 n7=>by
   obtain⟨m',hm,w7⟩:=hN σ7 H7 n7
   refine⟨m',hm,i+1,σ7,H7,I7.unpinned,T.keep _ _ _ st5 fun b hb o e=>(I7.pin (b,o) (List.mem_append_right _ (List.mem_append_right _ (z1n hb e)))).1,fun b hb=> ?_,w7⟩
   obtain⟨o,e,d⟩:=T.obj _ _ st5 b hb
   exact(I7.pin (b,o) (List.mem_append_right _ (List.mem_append_right _ (z1n hb e)))).2.1
  cases f with
  |next=>obtain⟨σ7,H7,I7,n7⟩:=q7;exact again I7 n7
  |cont=>obtain⟨σ7,H7,I7,n7⟩:=q7;exact again I7 n7
  |brk=>obtain⟨σ7,H7,I7,q7⟩:=q7;exact⟨σ7,H7,I7.unpinned,q7⟩
  |ret v=>obtain⟨x7,σ7,H7,I7,r7,q7⟩:=q7;exact⟨x7,σ7,H7,I7.unpinned,r7,q7⟩
end
noncomputable abbrev R2:=V->V->Hp->VK->Prop
noncomputable def OpR(X:Cx)(f:Value->Value->Sem Value)(r:R2):Prop:=
 ∀(pins:List (Addr×Obj)) (s:Shared) (σ:St) (H:Hp) (x y:V) (v u:Value) (Q:VK),Inv X pins σ H s->RelV x v->RelV y u->r x y H Q->
  wpAny (model X.prog X.w) X.A (f v u) (EP X pins σ Q) X.xe s
noncomputable def UnR(X:Cx)(f:Value->Sem Value)(r:V->Hp->VK->Prop):Prop:=
 ∀(pins:List (Addr×Obj)) (s:Shared) (σ:St) (H:Hp) (x:V) (v:Value) (Q:VK),Inv X pins σ H s->RelV x v->r x H Q->
  wpAny (model X.prog X.w) X.A (f v) (EP X pins σ Q) X.xe s
noncomputable def CallR(X:Cx)(f:Value)(r:List V->Hp->VK->Prop):Prop:=
 ∀(pins:List (Addr×Obj)) (s:Shared) (σ:St) (H:Hp) (xs:List V) (us:List Value) (Q:VK),Inv X pins σ H s->Vals xs us->r xs H Q->
  wpAny (model X.prog X.w) X.A (call f us) (EP X pins σ Q) X.xe s
noncomputable def TruR(X:Cx)(r:V->Hp->(Bool->Hp->Prop)->Prop):Prop:=
 ∀(pins:List (Addr×Obj)) (s:Shared) (σ:St) (H:Hp) (x:V) (v:Value) (Q:Bool->Hp->Prop),Inv X pins σ H s->RelV x v->r x H Q->
  wpAny (model X.prog X.w) X.A (truthy v) (TP X pins σ Q) X.xe s
noncomputable def tOp(r:R2)(ta tb:TE):TE:=fun σ H Q=>ta σ H fun x H1=>tb σ H1 fun y H2=>r x y H2 Q
noncomputable def tUn(r:V->Hp->VK->Prop)(ta:TE):TE:=fun σ H Q=>ta σ H fun x H1=>r x H1 Q
noncomputable def rI(C:Int->Int->Prop)(g:Int->Int->V):R2:=fun x y H Q=> ∃i j,x= .int i/\y= .int j/\C i j/\Q (g i j) H
noncomputable def rI0(g:Int->Int->V):R2:=fun x y H Q=> ∃i j,x= .int i/\y= .int j/\Q (g i j) H
noncomputable def rU(g:Int->V):V->Hp->VK->Prop:=fun x H Q=> ∃i,x= .int i/\Q (g i) H
section
variable{X:Cx}{a b c:Expr}{ta tb tc:TE}{pos:Pos}
theorem binT(ha:PE X a ta)(hb:PE X b tb){pins:List (Addr×Obj)}{s:Shared}{σ:St}{H:Hp}{R:V->V->Hp->Prop}(I:Inv X pins σ H s)
 (h:ta σ H fun x H1=>tb σ H1 fun y H2=>R x y H2) {Q:Value->Shared->Prop} {f:Value->Value->Sem Value}
 (hf: ∀v u s2 x y H2,Inv X pins σ H2 s2->RelV x v->RelV y u->R x y H2->wpAny (model X.prog X.w) X.A (f v u) Q X.xe s2):
 wpAny (model X.prog X.w) X.A (eval a X.env) (fun v s₁=>wpAny (model X.prog X.w) X.A (eval b X.env) (fun u s₂=>wpAny (model X.prog X.w) X.A (f v u) Q X.xe s₂) X.xe s₁) X.xe s:=by
 refine thn (ha pins s σ H _ I h) fun v s1 ⟨x,H1,I1,r1,q1⟩=> ?_
 refine thn (hb pins s1 σ H1 _ I1 q1) fun u s2 ⟨y,H2,I2,r2,q2⟩=> ?_
 exact hf v u s2 x y H2 I2 r1 r2 q2
theorem zez{op:Operator}{r:R2}(ho:OpR X (binaryOp op) r)(ha:PE X a ta)(hb:PE X b tb):PE X (.BinOp a op b pos) (tOp r ta tb):=by
 intro pins s σ H Q I h
 exact wpAny_BinOp (binT ha hb I h fun v u s2 x y H2 I2 rx ry q=>ho pins s2 σ H2 x y v u Q I2 rx ry q)
theorem zeA{op:UnaryOp}{r:V->Hp->VK->Prop}(ho:UnR X (unaryOp op) r)(ha:PE X a ta):PE X (.UnaryOp op a pos) (tUn r ta):=by
 intro pins s σ H Q I h
 exact UnaryOp_ (thn (ha pins s σ H _ I h) fun v s1 ⟨x,H1,I1,r1,q1⟩=>ho pins s1 σ H1 x v Q I1 r1 q1)
theorem opI{f:Value->Value->Sem Value}{C:Int->Int->Prop}{g:Int->Int->Int}
 (rule: ∀(i j:Int) (t u:Tok) (s:Shared) (Q:Value->Shared->Prop) (E:Value->Shared->Prop),C i j->Q (.int (g i j) s.toks) {s with toks:=s.toks+1}->wpAny (model X.prog X.w) X.A (f (.int i t) (.int j u)) Q E s):
 OpR X f (rI C fun i j=> .int (g i j)):=by
 intro pins s σ H x y v u Q I rx ry h
 obtain⟨i,j,rfl,rfl,hc,q⟩:=h
 obtain⟨t,rfl⟩:=rx
 obtain⟨t',rfl⟩:=ry
 exact rule i j t t' s _ _ hc ⟨.int (g i j),H,I.tok _,⟨_,rfl⟩,q⟩
theorem opI0{f:Value->Value->Sem Value}{g:Int->Int->Int}
 (rule: ∀(i j:Int) (t u:Tok) (s:Shared) (Q:Value->Shared->Prop) (E:Value->Shared->Prop),Q (.int (g i j) s.toks) {s with toks:=s.toks+1}->wpAny (model X.prog X.w) X.A (f (.int i t) (.int j u)) Q E s):
 OpR X f (rI0 fun i j=> .int (g i j)):=by
 intro pins s σ H x y v u Q I rx ry h
 obtain⟨i,j,rfl,rfl,q⟩:=h
 obtain⟨t,rfl⟩:=rx
 obtain⟨t',rfl⟩:=ry
 exact rule i j t t' s _ _ ⟨.int (g i j),H,I.tok _,⟨_,rfl⟩,q⟩
theorem opB0{f:Value->Value->Sem Value}{g:Int->Int->Bool}
 (rule: ∀(i j:Int) (t u:Tok) (s:Shared) (Q:Value->Shared->Prop) (E:Value->Shared->Prop),Q (.bool (g i j)) s->wpAny (model X.prog X.w) X.A (f (.int i t) (.int j u)) Q E s):
 OpR X f (rI0 fun i j=> .bl (g i j)):=by
 intro pins s σ H x y v u Q I rx ry h
 obtain⟨i,j,rfl,rfl,q⟩:=h
 obtain⟨t,rfl⟩:=rx
 obtain⟨t',rfl⟩:=ry
 exact rule i j t t' s _ _ ⟨.bl (g i j),H,I,rfl,q⟩
noncomputable def CDiv(i j:Int):Prop:=0<j/\j<2^200
theorem zeB{x j:Int}(h1:0<j)(h2:j<2^200):Builtin.divisionGoesByPylong x j=false:=by
 refine PyProof.noPylong_of_log2 ?_
 have h3:j.natAbs.log2<200:=(Nat.log2_lt (by lia)).mpr (by lia)
 lia
noncomputable def CPow(i j:Int):Prop:=0<=j/\j<=1000000/\i.natAbs<2^64
noncomputable def CMul(i j:Int):Prop:=(-(2^64)<i/\i<2^64)\/(-(2^64)<j/\j<2^64)
theorem CMul.ok{i j:Int}(h:CMul i j):IntMulOk i j:=by
 rcases h with⟨h1,h2⟩|⟨h1,h2⟩
 ·exact .of_left (intBits_le_64 h1 h2)
 ·exact .of_right (intBits_le_64 h1 h2)
theorem zcr:OpR X (binaryOp .Add) (rI0 fun i j=> .int (i+j)):=opI0 fun _ _ _ _ _ _ _ q=>add_int q
theorem zcs:OpR X (binaryOp .Sub) (rI0 fun i j=> .int (i -j)):=opI0 fun _ _ _ _ _ _ _ q=>sub_int q
theorem zct:OpR X (binaryOp .Mult) (rI CMul fun i j=> .int (i*j)):=opI fun _ _ _ _ _ _ _ hc q=>mul_int q hc.ok
theorem zaD:OpR X (binaryOp .FloorDiv) (rI CDiv fun i j=> .int (i/j)):=opI fun i j _ _ _ _ _ hc q=>by
 have h1:(0:Int)<j:=hc.1
 have h2:j<2^200:=hc.2
 exact floordiv_int (by lia) (by rw[Int.fdiv_eq_ediv_of_nonneg i (by lia)];exact q) (.inl (zeB h1 h2))
theorem zcu:OpR X (binaryOp .Mod) (rI (fun _ j=>0<j) fun i j=> .int (i %j)):=opI fun i j _ _ _ _ _ hc q=>by
 have h1:(0:Int)<j:=hc
 exact mod_int' (by lia) (by rw[Int.fmod_eq_emod_of_nonneg i (by lia)];exact q)
theorem zcv:OpR X (binaryOp .Pow) (rI CPow fun i j=> .int (i^j.toNat)):=opI fun _ _ _ _ _ _ _ hc q=>pow_int_small hc.1 hc.2.1 hc.2.2 q
theorem unI{f:Value->Sem Value}{g:Int->Int}
 (rule: ∀(i:Int) (t:Tok) (s:Shared) (Q:Value->Shared->Prop) (E:Value->Shared->Prop),Q (.int (g i) s.toks) {s with toks:=s.toks+1}->wpAny (model X.prog X.w) X.A (f (.int i t)) Q E s):
 UnR X f (rU fun i=> .int (g i)):=by
 intro pins s σ H x v Q I rx h
 obtain⟨i,rfl,q⟩:=h
 obtain⟨t,rfl⟩:=rx
 exact rule i t s _ _ ⟨.int (g i),H,I.tok _,⟨_,rfl⟩,q⟩
theorem zcw:UnR X (unaryOp .USub) (rU fun i=> .int (-i)):=unI fun _ _ _ _ _ q=>neg_int q
end
noncomputable def scal:V->V->Bool
 | .non, .non=>true| .non, .int _=>true| .int _, .non=>true| .non, .bl _=>true| .bl _, .non=>true| .non, .str _=>true| .str _, .non=>true
 | .int _, .int _=>true| .bl _, .bl _=>true| .str _, .str _=>true| .byt _, .byt _=>true
 | .int _, .str _=>true| .str _, .int _=>true| .bl _, .str _=>true| .str _, .bl _=>true
 |_,_=>false
noncomputable def rEq:R2:=fun x y H Q=>scal x y=true/\Q (.bl (decide (x=y))) H
theorem zaE{i j:Int}:decide (V.int i=V.int j)=(i==j):=by
 rw[Bool.eq_iff_iff]
 simp
theorem zcx{i j:Bool}:decide (V.bl i=V.bl j)=(i==j):=by
 rw[Bool.eq_iff_iff]
 simp
theorem z7K{i j:Str}:decide (V.str i=V.str j)=(i==j):=by
 rw[Bool.eq_iff_iff]
 simp
theorem zaF{i j:Array UInt8}:decide (V.byt i=V.byt j)=(i.toList==j.toList):=by
 rw[Bool.eq_iff_iff]
 cases i
 cases j
 simp
section
variable{X:Cx}{a b c:Expr}{ta tb tc:TE}{pos:Pos}
theorem z1p{pins:List (Addr×Obj)}{σ:St}{H:Hp}{s:Shared}{Q:VK}{k k':Bool}(I:Inv X pins σ H s)(q:Q (.bl k) H)(e:k=k'):EP X pins σ Q (.bool k') s:=by
 subst e
 exact⟨.bl k,H,I,rfl,q⟩
theorem zeC:OpR X (compareOp .Eq) rEq:=by
 intro pins s σ H x y v u Q I rx ry h
 obtain⟨hs,q⟩:=h
 cases x with
 |non=>
  cases rx
  cases y with
  |non=>cases ry;exact PySem.EqNone.eq_none_none (z1p I q (by simp))
  |bl j=>cases ry;exact PySem.EqNone.eq_none_bool (z1p I q (by simp))
  |int j=>obtain⟨t',rfl⟩:=ry;exact PySem.EqNone.eq_none_int (z1p I q (by simp))
  |str j=>obtain⟨t',rfl⟩:=ry;exact PySem.EqNone.eq_none_str (z1p I q (by simp))
  |_=>exact absurd (show false=true from hs) Bool.false_ne_true
 |bl i=>
  cases rx
  cases y with
  |non=>cases ry;exact PySem.EqNone.eq_bool_none (z1p I q (by simp))
  |bl j=>cases ry;exact eq_bool (z1p I q zcx)
  |str j=>obtain⟨t',rfl⟩:=ry;exact PySem.EqMixed.eq_bool_str (z1p I q (by simp))
  |_=>exact absurd (show false=true from hs) Bool.false_ne_true
 |int i=>
  obtain⟨t,rfl⟩:=rx
  cases y with
  |non=>cases ry;exact PySem.EqNone.eq_int_none (z1p I q (by simp))
  |int j=>obtain⟨t',rfl⟩:=ry;exact eq_int (z1p I q zaE)
  |str j=>obtain⟨t',rfl⟩:=ry;exact PySem.EqMixed.eq_int_str (z1p I q (by simp))
  |_=>exact absurd (show false=true from hs) Bool.false_ne_true
 |str i=>
  obtain⟨t,rfl⟩:=rx
  cases y with
  |non=>cases ry;exact PySem.EqNone.eq_str_none (z1p I q (by simp))
  |bl j=>cases ry;exact PySem.EqMixed.eq_str_bool (z1p I q (by simp))
  |int j=>obtain⟨t',rfl⟩:=ry;exact PySem.EqMixed.eq_str_int (z1p I q (by simp))
  |str j=>obtain⟨t',rfl⟩:=ry;exact eq_str (z1p I q z7K)
  |_=>exact absurd (show false=true from hs) Bool.false_ne_true
 |byt i=>
  obtain⟨t,rfl⟩:=rx
  cases y with
  |byt j=>obtain⟨t',rfl⟩:=ry;exact W.eq_bytes (z1p I q zaF)
  |_=>exact absurd (show false=true from hs) Bool.false_ne_true
 |_=>cases y<;>exact absurd (show false=true from hs) Bool.false_ne_true
theorem zeD:OpR X (compareOp .Lt) (rI0 fun i j=> .bl (decide (i<j))):=opB0 fun _ _ _ _ _ _ _ q=>lt_int q
theorem zeE:OpR X (compareOp .LtE) (rI0 fun i j=> .bl (decide (i<=j))):=opB0 fun _ _ _ _ _ _ _ q=>le_int q
theorem zeF:OpR X (compareOp .Gt) (rI0 fun i j=> .bl (decide (j<i))):=opB0 fun _ _ _ _ _ _ _ q=>gt_int q
theorem zeG:OpR X (compareOp .GtE) (rI0 fun i j=> .bl (decide (j<=i))):=opB0 fun _ _ _ _ _ _ _ q=>ge_int q
theorem OpR.or{f:Value->Value->Sem Value}{r r':R2}(h:OpR X f r)(h':OpR X f r'):OpR X f (fun x y H Q=>r x y H Q\/r' x y H Q):=by
 intro pins s σ H x y v u Q I rx ry q
 rcases q with q|q
 ·exact h pins s σ H x y v u Q I rx ry q
 ·exact h' pins s σ H x y v u Q I rx ry q
theorem z0N(b:Expr){op:CmpOp}(h:op≠ .In:=by decide)(h2:op≠ .NotIn:=by decide):behindInMarks op b=false:=by
 have e1:(op==CmpOp.In)=false:=by cases op<;>first|rfl|exact absurd rfl h
 have e2:(op==CmpOp.NotIn)=false:=by cases op<;>first|rfl|exact absurd rfl h2
 cases b<;>simp[behindInMarks,e1,e2]
theorem zaG{op:CmpOp}{r:R2}(ho:OpR X (compareOp op) r)(ha:PE X a ta)(hb:PE X b tb)(hm:behindInMarks op b=false):PE X (.Compare a [op] [b] pos) (tOp r ta tb):=by
 intro pins s σ H Q I h
 exact wpAny_Compare1 (binT ha hb I h fun v u s2 x y H2 I2 rx ry q=>ho pins s2 σ H2 x y v u Q I2 rx ry q) hm
noncomputable def zeH(t:TE):TT:=fun σ H Q=>t σ H fun x H'=> ∃k,x= .bl k/\Q k H'
theorem zaH{op:CmpOp}{r:R2}(ho:OpR X (compareOp op) r)(ha:PE X a ta)(hb:PE X b tb)(hm:behindInMarks op b=false):PT X (.Compare a [op] [b] pos) (zeH (tOp r ta tb)):=by
 intro pins s σ H Q I h
 refine wpAny_isTrue_Compare1 (thn (ha pins s σ H _ I h) fun v s1 ⟨x,H1,I1,r1,q1⟩=>thn (hb pins s1 σ H1 _ I1 q1) fun u s2 ⟨y,H2,I2,r2,q2⟩=>
  thn (ho pins s2 σ H2 x y v u _ I2 r1 r2 q2) fun c s3 ⟨z,H3,I3,r3,k,e,q3⟩=> ?_) hm
 subst e
 cases r3
 exact wpAny_truthy_bool ⟨H3,I3,q3⟩
noncomputable def za5(r r':R2)(ta tb tc:TE):TE:=fun σ H Q=>ta σ H fun x H1=>tb σ H1 fun y H2=>r x y H2 fun z H3=> ∃k,z= .bl k/\
 (if k=true then tc σ H3 fun w' H4=>r' y w' H4 Q else Q (.bl false) H3)
theorem z95{op op':CmpOp}{r r':R2}(ho:OpR X (compareOp op) r)(ho':OpR X (compareOp op') r')(ha:PE X a ta)(hb:PE X b tb)(hc:PE X c tc)
 (hm:lastMarks [op,op'] [b,c]=false:=by with_unfolding_all rfl):PE X (.Compare a [op,op'] [b,c] pos) (za5 r r' ta tb tc):=by
 intro pins s σ H Q I h
 refine Compare_chain (thn (ha pins s σ H _ I h) fun v s1 ⟨x,H1,I1,r1,q1⟩=>chain_link (thn (hb pins s1 σ H1 _ I1 q1) fun u s2 ⟨y,H2,I2,r2,q2⟩=>
  thn (ho pins s2 σ H2 x y v u _ I2 r1 r2 q2) fun d s3 ⟨z,H3,I3,r3,k,e,q3⟩=> ?_)) hm
 subst e
 cases r3
 refine wpAny_truthy_bool ?_
 cases k with
 |false=>exact ite_ff ⟨.bl false,H3,I3,rfl,q3⟩
 |true=>exact ite_tt (chain_last (thn (hc pins s3 σ H3 _ I3 q3) fun w' s4 ⟨z',H4,I4,r4,q4⟩=>ho' pins s4 σ H4 y z' u w' Q I4 r2 r4 q4))
noncomputable def TruV(K:W.Frag)(x:V)(H:Hp)(k:Bool):Prop:=
 match x with
 | .non=>k=false
 | .bl b=>k=b
 | .int i=>k=(i !=0)
 | .str y=>y.length<=sizeLine/\k=((y.length:Int) !=0)
 | .byt y=>y.size<=sizeLine/\k=((y.size:Int) !=0)
 | .ref p=>(∃xs,SqL K H p xs/\k= !xs.isEmpty)\/(∃xs,SqT K H p xs/\k= !xs.isEmpty)\/∃kvs,H p=some (.dK kvs)/\k= !kvs.isEmpty
 |_=>False
theorem z71{κ:Type}{kvs:List (κ×V)}{vs:List (κ×Value)}(r:KV kvs vs):(!vs.isEmpty)= !kvs.isEmpty:=by
 cases r<;>rfl
theorem z4q{xs:List V}{its:List Value}(r:Vals xs its):(!its.toArray.isEmpty)= !xs.isEmpty:=by
 cases r<;>simp
theorem z5j:(sizeLine:Nat)<2^63:=by rw[sizeLine_eq];decide
theorem zcy:TruR X (fun x H Q=> ∃k,TruV X.K x H k/\Q k H):=by
 intro pins s σ H x v Q I rx h
 obtain⟨k,e,q⟩:=h
 have hl:=z5j
 have hs:sizeLine=16777216:=sizeLine_eq
 cases x with
 |non=>
  cases rx
  have e':k=false:=e
  subst e'
  exact truthy_none ⟨H,I,q⟩
 |bl b=>
  cases rx
  have e':k=b:=e
  subst e'
  exact wpAny_truthy_bool ⟨H,I,q⟩
 |int i=>
  obtain⟨t,rfl⟩:=rx
  have e':k=(i !=0):=e
  subst e'
  exact PySem.P.truthy_int ⟨H,I,q⟩
 |str y=>
  obtain⟨t,rfl⟩:=rx
  obtain⟨hy,e'⟩:y.length<=sizeLine/\k=((y.length:Int) !=0):=e
  subst e'
  exact PySem.P.truthy_str (by lia) ⟨H,I.tok _,q⟩
 |byt y=>
  obtain⟨t,rfl⟩:=rx
  obtain⟨hy,e'⟩:y.size<=sizeLine/\k=((y.size:Int) !=0):=e
  subst e'
  exact W.truthy_bytes (by lia) ⟨H,I.tok _,q⟩
 |ref p=>
  cases rx
  have e':(∃xs,SqL X.K H p xs/\k= !xs.isEmpty)\/(∃xs,SqT X.K H p xs/\k= !xs.isEmpty)\/∃kvs,H p=some (.dK kvs)/\k= !kvs.isEmpty:=e
  rcases e' with⟨xs,hx,e'⟩|⟨xs,hx,e'⟩|⟨kvs,hx,e'⟩
  ·subst e'
   obtain⟨its,r,pl,hz⟩:=I.list hx
   have hlen:=r.length
   exact wpAny_truthy_list pl.isList (by simp only[List.size_toArray];lia) ⟨H,I.tok _,by rw[z4q r];exact q⟩
  ·subst e'
   obtain⟨its,r,pl,hz⟩:=I.tuple hx
   have hlen:=r.length
   exact truthy_tuple pl (by simp only[List.size_toArray];lia) ⟨H,I.tok _,by rw[z4q r];exact q⟩
  ·subst e'
   obtain⟨hz,hS,vs,r,m⟩:kvs.length<=sizeLine/\(p==sysModules)=false/\∃vs,KV kvs vs/\s.heap.DictOf (z5R X.prog X.w) p vs:=I.hok p _ hx
   have hlen:kvs.length=vs.length:=Paired.length r
   exact wpAny_truthy_dict hS m (by lia) ⟨H,I.tok _,by rw[z71 r];exact q⟩
 |_=>exact(show False from e).elim
theorem z96(ha:PE X a ta)(he: ∀whole,isTrue a X.env whole=(do let v<-whole;standAt a.pos;holding [v] (truthy v))):
 PT X a (fun σ H Q=>ta σ H fun x H'=> ∃k,TruV X.K x H' k/\Q k H'):=by
 intro pins s σ H Q I h
 exact isTrue_plain (thn (ha pins s σ H _ I h) fun v s1 ⟨x,H1,I1,r1,q1⟩=>zcy pins s1 σ H1 x v Q I1 r1 q1) (he _)
theorem z72:OpR X (binaryOp .Add) (fun x y H Q=> ∃i j,x= .str i/\y= .str j/\i.length+j.length<=sizeLine/\Q (.str (i++j)) H):=by
 intro pins s σ H x y v u Q I rx ry h
 obtain⟨i,j,rfl,rfl,hz,q⟩:=h
 obtain⟨t,rfl⟩:=rx
 obtain⟨t',rfl⟩:=ry
 exact add_str (fun t' tk=>⟨.str (i++j),H,I.tok _,⟨_,rfl⟩,q⟩) hz
theorem z73{x:V}{us:List Value}(r:Vals [x] us): ∃u,us=[u]/\RelV x u:=by
 cases r with
 |cons r1 r2=>cases r2;exact⟨_,rfl,r1⟩
theorem z97{x y:V}{us:List Value}(r:Vals [x,y] us): ∃u w',us=[u,w']/\RelV x u/\RelV y w':=by
 cases r with
 |cons r1 r2=>
  cases r2 with
  |cons r3 r4=>cases r4;exact⟨_,_,rfl,r1,r3⟩
theorem z98:CallR X (.builtin "abs") (fun xs H Q=> ∃i,xs=[.int i]/\Q (.int (if i<0 then -i else i)) H):=by
 intro pins s σ H xs us Q I r h
 obtain⟨i,rfl,q⟩:=h
 obtain⟨u,rfl,t,rfl⟩:=z73 r
 exact call_abs_int fun u tk=>⟨.int (if i<0 then -i else i),H,I.tok _,⟨_,rfl⟩,q⟩
theorem z7L(hc:X.calm=true):CallR X (.builtin "max") (fun xs H Q=> ∃i j,xs=[.int i, .int j]/\Q (.int (if j>i then j else i)) H):=by
 intro pins s σ H xs us Q I r h
 obtain⟨i,j,rfl,q⟩:=h
 obtain⟨u,w',rfl,⟨t,rfl⟩,⟨t',rfl⟩⟩:=z97 r
 refine max_two_ints (I.ok.hd hc) fun h' tk k=>⟨_,H,I.kept k, ?_,q⟩
 by_cases hj:j>i
 ·rw[if_pos hj,if_pos hj];exact⟨_,rfl⟩
 ·rw[if_neg hj,if_neg hj];exact⟨_,rfl⟩
theorem z7M(hc:X.calm=true):CallR X (.builtin "min") (fun xs H Q=> ∃i j,xs=[.int i, .int j]/\Q (.int (if j<i then j else i)) H):=by
 intro pins s σ H xs us Q I r h
 obtain⟨i,j,rfl,q⟩:=h
 obtain⟨u,w',rfl,⟨t,rfl⟩,⟨t',rfl⟩⟩:=z97 r
 refine min_two_ints (I.ok.hd hc) fun h' tk k=>⟨_,H,I.kept k, ?_,q⟩
 by_cases hj:j<i
 ·rw[if_pos hj,if_pos hj];exact⟨_,rfl⟩
 ·rw[if_neg hj,if_neg hj];exact⟨_,rfl⟩
end
structure ObjM(h:Heap)(x dx C:Addr)(mA:Str->Option Value):Prop where
 obj:h.get? x=some (W.instObj C dx)
 ns:h.Ns1 dx mA
 ne:dx≠x
theorem z7N{h:Heap}{dx:Addr}{mA:Str->Option Value}(n:h.Ns1 dx mA): ∃od,h.get? dx=some od/\∀name,W.lookIn name od=some (mA name):=by
 obtain⟨o,es,ep,ho,hd,hk,_,hm⟩:=n
 refine⟨o,ho,fun name=> ?_⟩
 have e:=hm name
 unfold nsFind findBy at e
 rw[<-Array.find?_toList] at e
 unfold W.lookIn
 rw[hd]
 dsimp only
 split
 ·rename_i y q
  rw[q] at e
  exact congrArg some e
 ·rename_i q
  rw[q] at e
  have a:es.toList.any (·.refKey)=false:=by
   rw[List.any_eq_false]
   intro y hy
   obtain⟨z,t,hkey⟩:=hk y (Array.mem_toList_iff.mp hy)
   simp[DictEntry.refKey,hkey]
  have a': ¬es.toList.any (·.refKey)=true:=by rw[a];exact Bool.false_ne_true
  rw[if_neg a']
  exact congrArg some e
theorem ObjM.look{h:Heap}{x dx C:Addr}{mA:Str->Option Value}(I:ObjM h x dx C mA): ∃od,W.InstAt h x (W.instObj C dx) C (some od)/\∀name,W.lookIn name od=some (mA name):=
 let⟨od,ho,hl⟩:=z7N I.ns
 ⟨od,⟨I.obj,rfl,rfl,ho⟩,hl⟩
section
variable{prog:Program}{w:World}{A:Around}{E:Value->Shared->Prop}{s:Shared}{K:W.Frag}{x dx C f:Addr}{mA:Str->Option Value}{name:Str}{v:Value}
theorem zaI{expr:Bool}{Q:Value->Shared->Prop}(X:K.In s.heap)(I:ObjM s.heap x dx C mA)(hg:W.plainGet K C name=true)(hh:W.hasDictIn K C=true)
 (ha:W.findIn K (.ref C) name=some none) (hv:mA name=some v) (hv':W.handedIn v=true) (h:Q v {s with toks:=s.toks+1}):
 wpAny (model prog w) A (getAttr (.ref x) name expr) Q E s:=by
 obtain⟨od,J,hl⟩:=I.look
 exact W.get_value X J (W.plainGet_of hg).1 (W.findObj_own hh ha rfl (by rw[hl,hv])) hv' h
theorem z99{pl:Sem Bool}{Q:Value×List Value->Shared->Prop}(X:K.In s.heap)(I:ObjM s.heap x dx C mA)(hg:W.plainGet K C name=true)
 (hf:W.findIn K (.ref C) name=some (some (.ref f))) (ht:W.isFn K (.ref f)=true) (hv:mA name=none) (h:Q (.ref f,[.ref x]) s):
 wpAny (model prog w) A (getMethod (.ref x) name pl) Q E s:=by
 obtain⟨od,J,hl⟩:=I.look
 exact W.method_fn X J (W.plainGet_of hg).1 (W.plainGet_of hg).2 hf (beq_iff_eq.mp ht) (by show(W.lookIn name od).map (·.isSome)=some false;rw[hl,hv];rfl) h
theorem zaJ{ns:List Str}{Q:Unit->Shared->Prop}(X:K.In s.heap)(I:ObjM s.heap x dx C mA)
 (hs:W.findIn K (.ref C) "__setattr__" =some (some (.builtin "object.__setattr__"))) (hp:W.plainOver K C=true) (ht:W.takerIn K C name=some none) (hh:W.hasDictIn K C=true)
 (hw:PySem.Within mA ns) (hsz:ns.length<=sizeLine)
 (h: ∀h',ObjM h' x dx C (fun y=>if y=name then some v else mA y)->Heap.SameBut dx s.heap h'->Q () {s with heap:=h',toks:=s.toks+2}):
 wpAny (model prog w) A (setAttr (.ref x) name v) Q E s:=by
 obtain⟨od,J,hl⟩:=I.look
 refine W.set_plain X J hs (W.osa_open (s:={s with toks:=s.toks+1}) (r:=none) X J hp ht fun b=> ?_)
 obtain⟨cd,hc,hd'⟩:=W.any_some hh
 have hx:s.heap.get? x=some ⟨.ref C,some dx, .plain, #[]⟩:=I.obj
 refine wpAny_bind (wpAny_pure (wpAny_bind (wpAny_bind (wpAny_loadPart hx (wpAny_bind (W.Looks.here (s:={s with toks:=s.toks+1}) (W.looks_clsIn X hc) ?_))))))
 rw[hd']
 refine wpAny_pure (a:=some dx) (wpAny_bind (wpAny_pure (wpAny_bind ?_)))
 refine wpAny_nsSet1 (s:={s with toks:=s.toks+1}) I.ns fun h' hn2 hs2=> ?_
 obtain⟨oD,esD,epD,hoD,hdD,hcD⟩:=hn2.count (PySem.Within.cons name v hw)
 refine wpAny_bind (wpAny_lookBehind hoD (by rw[hdD];exact pastItsLine_dict (Nat.le_trans hcD (by rw[List.length_cons];lia))) ?_)
 exact wpAny_pure (h _ ⟨(hs2.2 _ (Ne.symm I.ne)).trans I.obj,hn2,I.ne⟩ hs2)
theorem z9a{R:Result->Shared->Prop}{vs:List Value}{kw:List (Str×Value)}(X:K.In s.heap)(hm:W.makesIn K C=true)
 (hi:W.findIn K (.ref C) "__init__" =some (some (.ref f))) (hf:W.typeIn K (.ref f)=some (.type "function"))
 (h:codeAny (model prog w) (A.under (.builtin "type.__call__" ⟨.ref C::vs,kw⟩)) (.call (.ref f) ⟨.ref (s.heap.objs.size+1)::vs,kw⟩) (W.InitBack (s.heap.objs.size+1) R)
  {s with heap:=(s.heap.push W.emptyDict).push (W.instObj C s.heap.objs.size)}):
 codeAny (model prog w) A (.call (.ref C) ⟨vs,kw⟩) R s:=by
 obtain⟨hh,g,d,t,os⟩:=s
 exact W.make_core (W.makes_of X hm) (W.looks_findIn X hi) (fun self=>W.bind_fn X self hf) (.inl rfl) h
end
noncomputable def putF(f:Str)(v:V):List (Str×V)->List (Str×V)
 |[]=>[(f,v)]
 |(g,x)::r=>if g=f then(g,v)::r else(g,x)::putF f v r
theorem z3u(f g:Str)(v:V): ∀fs:List (Str×V),(putF f v fs).lookup g=if g=f then some v else fs.lookup g
 |[]=>by
  show List.lookup g [(f,v)]=_
  by_cases h:g=f
  ·have hb:(g==f)=true:=beq_iff_eq.mpr h
   simp only[List.lookup,hb,if_pos h]
  ·have hb:(g==f)=false:=beq_eq_false_iff_ne.mpr h
   simp only[List.lookup,hb,if_neg h]
 |(k,x)::r=>by
  have ih:=z3u f g v r
  rw[show putF f v ((k,x)::r)=(if k=f then(k,v)::r else(k,x)::putF f v r) from rfl]
  by_cases hk:k=f
  ·rw[if_pos hk]
   by_cases h:g=k
   ·have hb:(g==k)=true:=beq_iff_eq.mpr h
    simp only[List.lookup,hb,if_pos (h.trans hk)]
   ·have hb:(g==k)=false:=beq_eq_false_iff_ne.mpr h
    simp only[List.lookup,hb,if_neg (fun e:g=f=>h (e.trans hk.symm))]
  ·rw[if_neg hk]
   by_cases h:g=k
   ·have hb:(g==k)=true:=beq_iff_eq.mpr h
    simp only[List.lookup,hb,if_neg (fun e:g=f=>hk (h.symm.trans e))]
   ·have hb:(g==k)=false:=beq_eq_false_iff_ne.mpr h
    simp only[List.lookup,hb]
    exact ih
theorem z3v(f:Str)(v:V): ∀fs:List (Str×V),f∈(putF f v fs).map (·.1)/\∀g,g∈fs.map (·.1)->g∈(putF f v fs).map (·.1)
 |[]=>⟨by simp[putF],fun g h=>by simp at h⟩
 |(k,x)::r=>by
  obtain⟨i1,i2⟩:=z3v f v r
  rw[show putF f v ((k,x)::r)=(if k=f then(k,v)::r else(k,x)::putF f v r) from rfl]
  by_cases hk:k=f
  ·rw[if_pos hk]
   subst hk
   exact⟨by simp,fun g h=>by simpa using h⟩
  ·rw[if_neg hk]
   refine⟨?_,fun g h=> ?_⟩
   ·rw[List.map_cons]
    exact List.mem_cons_of_mem _ i1
   ·rw[List.map_cons] at h⊢
    rcases List.mem_cons.mp h with e|e
    ·exact List.mem_cons.mpr (.inl e)
    ·exact List.mem_cons_of_mem _ (i2 g e)
theorem z3w(f:Str)(v:V): ∀fs:List (Str×V),(putF f v fs).length<=fs.length+1
 |[]=>by simp[putF]
 |(k,x)::r=>by
  have ih:=z3w f v r
  rw[show putF f v ((k,x)::r)=(if k=f then(k,v)::r else(k,x)::putF f v r) from rfl]
  by_cases hk:k=f
  ·rw[if_pos hk,List.length_cons,List.length_cons];lia
  ·rw[if_neg hk,List.length_cons,List.length_cons];lia
theorem RelO.some_of{v:V}{o:Option Value}(r:RelO (some v) o): ∃u,o=some u/\RelV v u:=by
 cases o with
 |none=>exact(show False from r).elim
 |some u=>exact⟨u,rfl,r⟩
theorem RelO.none_of{o:Option Value}(r:RelO none o):o=none:=by
 cases o with
 |none=>rfl
 |some u=>exact(show False from r).elim
theorem z7O{v:V}{u:Value}(r:RelV v u):W.handedIn u=true:=by
 cases v with
 |non=>cases(show u=Value.none from r);rfl
 |bl b=>cases(show u=Value.bool b from r);rfl
 |int i=>obtain⟨t,e⟩:=(show ∃t,u=Value.int i t from r);cases e;rfl
 |str x=>obtain⟨t,e⟩:=(show ∃t,u=Value.str x t from r);cases e;rfl
 |byt b=>obtain⟨t,e⟩:=(show ∃t,u=Value.bytes b t from r);cases e;rfl
 |flt b=>obtain⟨t,e⟩:=(show ∃t,u=Value.float b t from r);cases e;rfl
 |ref a=>cases(show u=Value.ref a from r);rfl
 |ty n=>cases(show u=Value.type n from r);rfl
section
variable{P:Program}{w:World}{H H':Hp}{h h':Heap}{a C dx:Addr}{fs fs':List (Str×V)}
theorem z5S(hok:HOk P w H h)(e:H a=some (.ins C dx fs)): ∃mA,ObjM h a dx C mA/\(∀f,RelO (fs.lookup f) (mA f))/\PySem.Within mA (fs.map (·.1))/\fs.length<=1000/\H dx=some (.own a):=by
 obtain⟨d,z,ne,ob,mA,n,r,q⟩:=(show z25 P w H h a (.ins C dx fs) from hok a _ e)
 exact⟨mA,⟨ob,n,ne⟩,r,q,z,d⟩
end
structure Cls(K:W.Frag)(C:Addr):Prop where
 pg:W.plainGet K C Str.empty=true
 hd:W.hasDictIn K C=true
 po:W.plainOver K C=true
 sa:W.findIn K (.ref C) "__setattr__" =some (some (.builtin "object.__setattr__"))
theorem Cls.get{K:W.Frag}{C:Addr}(c:Cls K C)(f:Str):W.plainGet K C f=true:=c.pg
noncomputable def z0t(K:W.Frag)(C:Addr)(f:Str):Prop:=W.findIn K (.ref C) f=some none
theorem z0t.taker{K:W.Frag}{C:Addr}{f:Str}(n:z0t K C f):W.takerIn K C f=some none:=by
 unfold W.takerIn
 rw[show W.findIn K (.ref C) f=some none from n]
 rfl
structure Con(K:W.Frag)(C:Addr)(f:Str)(v:V)(u:Value):Prop where
 at_:W.findIn K (.ref C) f=some (some u)
 rel:RelV v u
 get:W.specialIn K u "__get__" =some none
 cp:W.copiedNames.contains f=false
structure Meth(K:W.Frag)(C:Addr)(m:Str)(f:Addr):Prop where
 at_:W.findIn K (.ref C) m=some (some (.ref f))
 fn:W.isFn K (.ref f)=true
 kp:W.keepIn K (.ref f)=true
section
variable{X:Cx}{pins:List (Addr×Obj)}{σ:St}{H:Hp}{s:Shared}{a C dx:Addr}{fs:List (Str×V)}{f:Str}{v:V}{A:Around}{E:Value->Shared->Prop}
theorem z74{b:Bool}{Q:Value->Shared->Prop}(I:Inv X pins σ H s)(e:H a=some (.ins C dx fs))(c:Cls X.K C)(n:z0t X.K C f)(l:fs.lookup f=some v)
 (h: ∀u s',Inv X pins σ H s'->RelV v u->Q u s'):wpAny (model X.prog X.w) A (getAttr (.ref a) f b) Q E s:=by
 obtain⟨mA,O,r,_,_,_⟩:=z5S I.hok e
 obtain⟨u,hu,ru⟩:=RelO.some_of (v:=v) (o:=mA f) (by rw[<-l];exact r f)
 exact zaI I.kIn O (c.get f) c.hd n hu (z7O ru) (h u _ (I.tok _) ru)
theorem z32{m:Str}{g:Addr}{pl:Sem Bool}{Q:Value×List Value->Shared->Prop}(I:Inv X pins σ H s)(e:H a=some (.ins C dx fs))(c:Cls X.K C)(k:Meth X.K C m g)(l:fs.lookup m=none)
 (h:Q (.ref g,[.ref a]) s):wpAny (model X.prog X.w) A (getMethod (.ref a) m pl) Q E s:=by
 obtain⟨mA,O,r,_,_,_⟩:=z5S I.hok e
 have hn:mA m=none:=RelO.none_of (by rw[<-l];exact r m)
 exact z99 I.kIn O (c.get m) k.at_ k.fn hn h
theorem z75{y:V}{u:Value}{Q:Unit->Shared->Prop}(I:Inv X pins σ H s)(e:H a=some (.ins C dx fs))(c:Cls X.K C)(n:z0t X.K C f)(hl:fs.length<1000)(ry:RelV y u)
 (h: ∀s',Inv X pins σ (upd H a (.ins C dx (putF f y fs))) s'->Q () s'):wpAny (model X.prog X.w) A (setAttr (.ref a) f u) Q E s:=by
 obtain⟨mA,O,r,wi,_,ho⟩:=z5S I.hok e
 have hz:(fs.map (·.1)).length<=sizeLine:=by rw[List.length_map,sizeLine_eq];lia
 refine zaJ I.kIn O c.sa c.po n.taker c.hd wi hz fun h' O' sb=>h _ ?_
 have hd: ∃o,h'.get? dx=some o:=let⟨o,_,_,e',_⟩:=O'.ns;⟨o,e'⟩
 refine I.write (x:=a) (e:=dx) (by rw[e];exact True.intro) (.inr ho) (fun b q hb z=>(sb.2 b hb).trans z) hd ?_
 refine⟨by rw[z04 O.ne];exact ho, ?_,O.ne,O'.obj,_,O'.ns,fun g=> ?_,fun g hg=> ?_⟩
 ·have:=z3w f y fs;lia
 ·show RelO ((putF f y fs).lookup g) (if g=f then some u else mA g)
  rw[z3u]
  by_cases q:g=f
  ·rw[if_pos q,if_pos q];exact ry
  ·rw[if_neg q,if_neg q];exact r g
 ·by_cases q:g=f
  ·rw[q];exact(z3v f y fs).1
  ·refine(z3v f y fs).2 g (wi g fun z=>hg ?_)
   show(if g=f then some u else mA g)=none
   rw[if_neg q];exact z
theorem Inv.made(I:Inv X pins σ H s):Inv X pins σ (upd (upd H s.heap.objs.size (.own (s.heap.objs.size+1))) (s.heap.objs.size+1) (.ins C s.heap.objs.size []))
 {s with heap:=(s.heap.push W.emptyDict).push (W.instObj C s.heap.objs.size)}:=by
 have e1:(s.heap.push W.emptyDict).get? s.heap.objs.size=some W.emptyDict:=Heap.get?_push_size s.heap rfl
 have e2:((s.heap.push W.emptyDict).push (W.instObj C s.heap.objs.size)).get? (s.heap.objs.size+1)=some (W.instObj C s.heap.objs.size):=by
  have:=Heap.get?_push_size (s.heap.push W.emptyDict) (o:=W.instObj C s.heap.objs.size) rfl
  rwa [Heap.size_push] at this
 have e3:(s.heap.push W.emptyDict).Ns s.heap.objs.size (fun _=>none):=⟨W.emptyDict, #[],_,e1,rfl,(fun e he=>absurd he (by simp)),fun _=>rfl⟩
 have I1:=I.laid (a:=s.heap.objs.size) (o:= .own (s.heap.objs.size+1)) (h':=s.heap.push W.emptyDict) (t':=s.toks) (fun b u q=>Heap.get?_push_of_some _ q) (Nat.le_refl _) ⟨_,e1⟩
 refine I1.laid (a:=s.heap.objs.size+1) (o:= .ins C s.heap.objs.size []) (t':=s.toks) (fun b u q=>Heap.get?_push_of_some _ q) (Nat.le_of_eq (Heap.size_push _ _)) ?_
 have ne:s.heap.objs.size≠s.heap.objs.size+1:=Nat.ne_of_lt (Nat.lt_succ_self _)
 refine⟨by rw[z04 ne,z09],Nat.zero_le _,ne,e2,fun _=>none,(Heap.Ns1.of_empty e3).at fun o q=>Heap.get?_push_of_some _ q,fun _=>True.intro,fun y hy=>absurd rfl hy⟩
theorem zaK{prog:Program}{w:World}{env:Env}{e:Expr}{f:Str}{pos:Pos}{s:Shared}{Q:Value->Shared->Prop}(hb:attributeBase e f env (eval e env)=eval e env)
 (h:wpAny (model prog w) A (eval e env) (fun o s₁=>wpAny (model prog w) A (getAttr o f true) Q E s₁) E s):wpAny (model prog w) A (eval (.Attribute e f pos) env) Q E s:=
 Attribute_any_ h (by rw[arm_eval_Attribute,hb])
end
noncomputable def tFld(K:W.Frag)(ta:TE)(f:Str):TE:=fun σ H Q=>ta σ H fun x H1=> ∃a C dx fs v,x= .ref a/\H1 a=some (.ins C dx fs)/\Cls K C/\z0t K C f/\fs.lookup f=some v/\Q v H1
noncomputable def sFld(K:W.Frag)(ta tv:TE)(f:Str):TS:=fun D σ H=>tv σ H fun y H1=>ta σ H1 fun x H2=> ∃a C dx fs,x= .ref a/\H2 a=some (.ins C dx fs)/\Cls K C/\z0t K C f/\fs.length<1000/\
 D.nx σ (upd H2 a (.ins C dx (putF f y fs)))
section
variable{X:Cx}{o e value:Expr}{f:Str}{pos pos' tpos:Pos}{ta tv:TE}
theorem zcz(he:PE X e ta)(hb:attributeBase e f X.env (eval e X.env)=eval e X.env):PE X (.Attribute e f pos) (tFld X.K ta f):=by
 intro pins s σ H Q I h
 refine zaK hb (thn (he pins s σ H _ I h) fun u s1 ⟨x,H1,I1,rx,a,C,dx,fs,v,ex,ea,c,n,l,q⟩=> ?_)
 subst ex
 obtain rfl:u=Value.ref a:=rx
 exact z74 I1 ea c n l fun u' s2 I2 ru=>⟨v,H1,I2,ru,q⟩
theorem zcA(ha:PE X o ta)(hv:PE X value tv)(hs:swapsWith value (some (.Attribute o f pos')) pos.line X.env=pure false):PS X (.Assign [.Attribute o f pos'] value pos) (sFld X.K ta tv f):=by
 intro pins s σ H D I h
 refine plainObj_wpAny_Assign_Attribute (thn (hv pins s σ H _ I h) fun u s1 ⟨y,H1,I1,ry,q⟩=>thn (ha pins s1 σ H1 _ I1 q) fun ov s2 ⟨x,H2,I2,rx,a,C,dx,fs,ex,ea,c,n,l,q2⟩=> ?_) hs
 subst ex
 obtain rfl:ov=Value.ref a:=rx
 exact z75 I2 ea c n l ry fun s3 I3=>⟨σ,_,I3,q2⟩
end
section
variable{X:Cx}{pins:List (Addr×Obj)}{σ:St}{H:Hp}{s:Shared}{A:Around}{E:Value->Shared->Prop}{Q:Value->Shared->Prop}{c:Value}{b:Bool}
inductive TyOf(K:W.Frag)(H:Hp):V->Value->Prop where
 |non:TyOf K H .non (.type "NoneType")
 |bl (x:Bool):TyOf K H (.bl x) (.type "bool")
 |int (i:Int):TyOf K H (.int i) (.type "int")
 |str (x:Str):TyOf K H (.str x) (.type "str")
 |flt (x:UInt64):TyOf K H (.flt x) (.type "float")
 |lst {a:Addr} {xs:List V} (e:H a=some (.lst xs)):TyOf K H (.ref a) (.type "list")
 |frz {a:Addr} {o:Obj} {xs:List V} (e:H a=some (.frz o (.lst xs))):TyOf K H (.ref a) (.type "list")
 |tup {a:Addr} {xs:List V} (e:H a=some (.tup xs)):TyOf K H (.ref a) (.type "tuple")
 |dK {a:Addr} {kvs:List (Key×V)} (e:H a=some (.dK kvs)):TyOf K H (.ref a) (.type "dict")
 |dT {a:Addr} {kvs:List (List Key×V)} (e:H a=some (.dT kvs)):TyOf K H (.ref a) (.type "dict")
 |ins {a C dx:Addr} {fs:List (Str×V)} (e:H a=some (.ins C dx fs)) (cl:Cls K C) (ha:W.findIn K (.ref C) "__class__" =some (some (.builtin "object.__class__")))
  (hn:W.specialIn K (.builtin "object.__class__") "__get__" =some (some (.builtin "getset_descriptor.__get__"))) (htk:W.takesIn K (.builtin "object.__class__")=some true)
  (hm:W.mroIn K C (.type "object")=some true):TyOf K H (.ref a) (.ref C)
end
structure Room(k:Nat)(A:Around):Prop where
 hd:A.handled=none
 dp:A.depth+3*k+5<recursionLimit
 un:A.units+16*k+200<cLine
 gd:A.guards=some []
theorem Room.mono{j k:Nat}{A:Around}(r:Room k A)(h:j<=k):Room j A:=⟨r.hd,by have:=r.dp;lia,by have:=r.un;lia,r.gd⟩
theorem Room.deeper{k:Nat}{A:Around}(r:Room (k+1) A)(env:Env):Room k (A.deeper env):=
 ⟨r.hd,by have:=r.dp;show A.depth+1+3*k+5<_;lia,by have:=r.un;show A.units+3+16*k+200<_;lia,r.gd⟩
theorem z76{A:Around}{C:Addr}{us:List Value}{kw:List (Str×Value)}:(A.under (.builtin "type.__call__" ⟨.ref C::us,kw⟩)).depth=A.depth+1:=by
 first|rfl|simp[Around.under,Code.weight,Code.isCreation,Code.isGuard,Code.isCaller,Code.frames,Code.isFrame,guardIds]
theorem z77{A:Around}{C:Addr}{us:List Value}{kw:List (Str×Value)}:(A.under (.builtin "type.__call__" ⟨.ref C::us,kw⟩)).units=A.units+1:=by
 first|rfl|simp[Around.under,Code.cUnits,Code.frames,Code.isFrame]
theorem Room.make{k:Nat}{A:Around}(r:Room (k+1) A)(C:Addr)(us:List Value)(kw:List (Str×Value)):Room k (A.under (.builtin "type.__call__" ⟨.ref C::us,kw⟩)):=
 ⟨r.hd,by have:=r.dp;rw[z76];lia,by have:=r.un;rw[z77];lia,by first|exact r.gd|simpa[Around.under] using r.gd⟩
theorem Room.depth{k:Nat}{A:Around}(r:Room k A):A.depth<recursionLimit:=by have:=r.dp;lia
theorem Room.units{k:Nat}{A:Around}(r:Room k A):A.units+64<cLine:=by have:=r.un;lia
noncomputable def tNil:TA:=fun _ H Q=>Q [] H
noncomputable def zeI(ta:TE)(tr:TA):TA:=fun σ H Q=>ta σ H fun x H1=>tr σ H1 fun xs H2=>Q (x::xs) H2
section
variable{X:Cx}{e:Expr}{es:List Expr}{te:TE}{t:TA}{pos:Pos}
theorem z27:PA X [] tNil:=fun _ _ _ _ H Q I h=>Calls.spliced_nil ⟨[],H,I, .nil,h⟩
theorem z08(ha:PE X e te)(hr:PA X es t)(hs:starEach (e::es) X.env=(false,eval e X.env)::starEach es X.env:=by rfl):PA X (e::es) (zeI te t):=by
 intro pos pins s σ H Q I h
 rw[hs]
 show wpAny _ _ (spliced ((false,eval e X.env)::backTo pos (starEach es X.env))) _ _ s
 refine Calls.spliced_cons (thn (ha pins s σ H _ I h) fun u s1 ⟨x,H1,I1,r1,q1⟩=> ?_)
 exact thn (hr pos pins s1 σ H1 _ I1 q1) fun us s2 ⟨xs,H2,I2,r2,q2⟩=>⟨x::xs,H2,I2, .cons r1 r2,q2⟩
noncomputable def tTup(t:TA):TE:=fun σ H Q=>t σ H fun xs H1=>xs.length<=sizeLine/\∀p,H1 p=none->Q (.ref p) (upd H1 p (.tup xs))
noncomputable def tLst(t:TA):TE:=fun σ H Q=>t σ H fun xs H1=>xs.length<=sizeLine/\∀p,H1 p=none->Q (.ref p) (upd H1 p (.lst xs))
theorem zcB{x1}(h:PA X es t):PE X (.Tuple es x1 pos) (tTup t):=by
 intro pins s σ H Q I hq
 refine wpAny_Tuple_spliced (thn (h pos pins s σ H _ I hq) fun us s1 ⟨xs,H1,I1,r,z,q⟩=>⟨by rw[<-r.length];exact z, ?_⟩)
 have hf:H1 s1.heap.objs.size=none:=I1.hok.fresh (Nat.le_refl _)
 refine⟨.ref s1.heap.objs.size,upd H1 s1.heap.objs.size (.tup xs),I1.laid (t':=s1.toks) (fun b u e=>Heap.get?_push_of_some _ e) (Nat.le_refl _) ?_,rfl,q _ hf⟩
 exact⟨z,us,r,⟨_,Heap.get?_push_size _ rfl,rfl,_,rfl⟩⟩
theorem zcC(h:PA X es t):PE X (.List es pos) (tLst t):=by
 intro pins s σ H Q I hq
 refine wpAny_List_spliced (thn (h pos pins s σ H _ I hq) fun us s1 ⟨xs,H1,I1,r,z,q⟩=>⟨by rw[<-r.length];exact z, ?_⟩)
 have hf:H1 s1.heap.objs.size=none:=I1.hok.fresh (Nat.le_refl _)
 refine⟨.ref s1.heap.objs.size,upd H1 s1.heap.objs.size (.lst xs),I1.laid (t':=s1.toks) (fun b u e=>Heap.get?_push_of_some _ e) (Nat.le_refl _) ?_,rfl,q _ hf⟩
 exact⟨z,us,0,r,Heap.get?_push_size _ rfl⟩
end
noncomputable abbrev Sp:=List V->Hp->VK->XK->Prop
noncomputable abbrev CXT:=List Env->Hp->Shared->XK->Value->Shared->Prop
structure Env0(P:Program)(w:World)(K:W.Frag)(mg:Str->Option Value)(base:Heap)(A:Around)(outer:List Env)(s:Shared)(H:Hp):Prop where
 frames:A.frames=some outer
 mod:Mod K mg base
 bs: ∀b o,base.get? b=some o->s.heap.get? b=some o/\H b=none
 bsz:base.objs.size<=s.heap.objs.size
 funs:s.heap.FunFrames base outer
 frf: ∀b∈frs outer,H b=none
 hok:HOk P w H s.heap
 bare:AllBare s.gens
noncomputable def CE(outer:List Env)(P:Program)(w:World)(H:Hp)(s:Shared)(Q:VK)(u:Value)(s':Shared):Prop:=
 ∃v H',s'.os=s.os/\AllBare s'.gens/\Un (frs outer) [] H H' s.heap s'.heap/\HOk P w H' s'.heap/\RelV v u/\Q v H'
noncomputable def CR(CX:CXT)(outer:List Env)(P:Program)(w:World)(H:Hp)(s:Shared)(Q:VK)(E:XK)(r:Result)(s':Shared):Prop:=
 match r with
 | .ok (.ret u)=>CE outer P w H s Q u s'
 | .ok _=>False
 | .error e=>CX outer H s E e s'
structure FnOk(P:Program)(w:World)(K:W.Frag)(mg:Str->Option Value)(base:Heap)(CX:CXT)(k:Nat)(f:Addr)(fd:FuncData)(ps:List Str)(sp:Sp):Prop where
 len: ∀vs H Q E,sp vs H Q E->vs.length=ps.length
 run: ∀(A:Around) (outer:List Env) (s:Shared) (H:Hp) (args:Args) (us:List Value) (vs:List V) (Q:VK) (E:XK),Room k A->Env0 P w K mg base A outer s H->BindsTo s fd args (ps.zip us)->Vals vs us->sp vs H Q E->
  codeAny (model P w) A (.call (.ref f) args) (CR CX outer P w H s Q E) s
theorem FnOk.mono{P:Program}{w:World}{K:W.Frag}{mg:Str->Option Value}{base:Heap}{CX:CXT}{j k:Nat}{f:Addr}{fd:FuncData}{ps:List Str}{sp:Sp}(F:FnOk P w K mg base CX j f fd ps sp)(h:j<=k):
 FnOk P w K mg base CX k f fd ps sp:=⟨F.len,fun A outer s H args us vs Q E hr=>F.run A outer s H args us vs Q E (hr.mono h)⟩
theorem Env0.make{P:Program}{w:World}{K:W.Frag}{mg:Str->Option Value}{base:Heap}{A:Around}{outer:List Env}{s:Shared}{H:Hp}(e:Env0 P w K mg base A outer s H)(C:Addr)(us:List Value)(kw:List (Str×Value)):
 Env0 P w K mg base (A.under (.builtin "type.__call__" ⟨.ref C::us,kw⟩)) outer s H:=⟨by first|exact e.frames|(simpa[Around.under,Code.envs,Code.isFrame,pushEnvs] using e.frames),e.mod,e.bs,e.bsz,e.funs,e.frf,e.hok,e.bare⟩
section
variable{X:Cx}{pins:List (Addr×Obj)}{σ:St}{H:Hp}{s s':Shared}
theorem Inv.env0(I:Inv X pins σ H s):Env0 X.prog X.w X.K X.mg X.base X.A X.stack s H:=
 ⟨I.ok.frames,I.ok.mod,I.bs,Nat.le_trans I.ok.bsz I.sz,I.stack,I.stkFree,I.hok,I.bare⟩
theorem Inv.after{Q:VK}{u:Value}(I:Inv X pins σ H s)(h:CE X.stack X.prog X.w H s Q u s'):EP X pins σ Q u s':=by
 obtain⟨v,H',os,bare,un,hok,r,q⟩:=h
 obtain⟨hh,g,d,t,os'⟩:=s'
 obtain rfl:os'=s.os:=os
 exact⟨v,H',I.call (h':=hh) (g':=g) (d':=d) (t':=t) (ch:=[]) un hok bare (fun b z=>absurd z (by simp)),r,q⟩
end
noncomputable def zcD(sp:Sp)(dvs:List V)(E:XK)(t:TA):TE:=fun σ H Q=>t σ H fun vs H1=>sp (vs++dvs) H1 Q E
noncomputable def zaL(C:Addr)(m:Str)(sp:Sp)(dvs:List V)(E:XK)(ta:TE)(t:TA):TE:=fun σ H Q=>ta σ H fun x H1=> ∃a dx fs,x= .ref a/\H1 a=some (.ins C dx fs)/\fs.lookup m=none/\
 t σ H1 fun vs H2=>sp (x::(vs++dvs)) H2 Q E
noncomputable def zcE(C:Addr)(sp:Sp)(dvs:List V)(E:XK)(t:TA):TE:=fun σ H Q=>t σ H fun vs H1=> ∀x dx,H1 x=none->H1 dx=none->dx≠x->
 sp (.ref x::(vs++dvs)) (upd (upd H1 dx (.own x)) x (.ins C dx [])) (fun v H2=>v= .non/\Q (.ref x) H2) E
noncomputable def z0U(K:W.Frag)(fd:FuncData)(ps:List Str)(ds:List Value):Prop:=
 ∀(s:Shared) (us:List Value),K.In s.heap->(us++ds).length=ps.length->BindsTo s fd ⟨us,[]⟩ (ps.zip (us++ds))
theorem z0U.all{K:W.Frag}{fd:FuncData}{ps:List Str}(h: ∀us:List Value,us.length=ps.length->bindArgs fd ⟨us,[]⟩=pure (ps.zip us)):z0U K fd ps []:=fun s us _ hl=>by
 rw[List.append_nil] at hl⊢
 exact .of_eq (h us hl)
noncomputable def z0G(CX:CXT)(X:Cx)(E:XK):Prop:= ∀(pins:List (Addr×Obj)) (σ:St) (H:Hp) (s:Shared) (e:Value) (s':Shared),Inv X pins σ H s->CX X.stack H s E e s'->X.xe e s'
section
variable{X:Cx}{CX:CXT}{k:Nat}{f C:Addr}{fd:FuncData}{ps:List Str}{sp:Sp}{dvs:List V}{ds:List Value}{E:XK}{x m:Str}{p pos apos:Pos}{e o:Expr}{es:List Expr}{ta:TE}{t:TA}
theorem z7P{pins:List (Addr×Obj)}{σ:St}{H:Hp}{s:Shared}{Q:VK}{us:List Value}{vs:List V}(F:FnOk X.prog X.w X.K X.mg X.base CX k f fd ps sp)(hr:Room k X.A)(hb:z0U X.K fd ps ds)(hd:Vals dvs ds)(hx:z0G CX X E)
 (I:Inv X pins σ H s) (r:Vals vs us) (h:sp (vs++dvs) H Q E):wpAny (model X.prog X.w) X.A (call (.ref f) us) (EP X pins σ Q) X.xe s:=by
 have r2:Vals (vs++dvs) (us++ds):=r.append hd
 have hl:(us++ds).length=ps.length:=by rw[<-r2.length];exact F.len _ _ _ _ h
 refine wpAny_call (codeAny_mono (F.run X.A X.stack s H ⟨us,[]⟩ (us++ds) (vs++dvs) Q E hr I.env0 (hb s us I.kIn hl) r2 h) fun r s' hq=> ?_)
 cases r with
 |error e=>exact hx pins σ H s e s' I hq
 |ok fl=>
  cases fl with
  |ret u=>exact I.after hq
  |next=>exact False.elim hq
  |brk=>exact False.elim hq
  |cont=>exact False.elim hq
theorem zaM(F:FnOk X.prog X.w X.K X.mg X.base CX k f fd ps sp)(hr:Room k X.A)(hg:Gl X x)(hm:X.mg x=some (.ref f))(hk:W.keepIn X.K (.ref f)=true)(hb:z0U X.K fd ps ds)(hd:Vals dvs ds)(hx:z0G CX X E)
 (ha:PA X (e::es) t) (hdb:(x==("__debug__" :Str))=false:=by decide) (he:starEach (e::es) X.env=(false,eval e X.env)::starEach es X.env:=by rfl) (hpl:(backTo pos (starEach es X.env)).any (·.1)=false:=by rfl):
 PE X (.Call (.Name x p) (e::es) [] pos) (zcD sp dvs E t):=by
 intro pins s σ H Q I h
 refine wpAny_Call_Name_kw (z31 I hg hm ?_ hdb)
 refine W.callWith_K (h₀:=X.base) I.ok.mod.kin hk (thn (ha pos pins s σ H _ I h) fun us s1 ⟨vs,H1,I1,r,q⟩=>⟨I1.kIn, ?_⟩) he hpl
 exact z7P F hr hb hd hx I1 r q
theorem zaN{pl:Sem Bool}(he:PE X o ta)(c:Cls X.K C)(hm:Meth X.K C m f)(F:FnOk X.prog X.w X.K X.mg X.base CX k f fd ps sp)(hr:Room k X.A)(hb:z0U X.K fd ps ds)(hd:Vals dvs ds)(hx:z0G CX X E)(ha:PA X (e::es) t)
 (hst:starEach (e::es) X.env=(false,eval e X.env)::starEach es X.env:=by rfl) (hpl:(backTo pos (starEach es X.env)).any (·.1)=false:=by rfl)
 (ht:eval (.Call (.Attribute o m apos) (e::es) [] pos) X.env=(do
  let ov<-eval o X.env
  standAt apos.atName
  let(f,first)<-holding [ov] (getMethod ov m pl)
  callWith pos f first (backTo pos (starEach (e::es) X.env)) (backToKw pos (keywordEach [] X.env))):=by rfl):
 PE X (.Call (.Attribute o m apos) (e::es) [] pos) (zaL C m sp dvs E ta t):=by
 intro pins s σ H Q I h
 refine W.methodCall_KW (pl:=pl) (thn (he pins s σ H _ I h) fun u s1 ⟨x,H1,I1,rx,a,dx,fs,ex,ea,l,q⟩=> ?_) ht
 subst ex
 obtain rfl:u=Value.ref a:=rx
 refine z32 I1 ea c hm l ?_
 refine W.callWith_K (first:=[.ref a]) (h₀:=X.base) I.ok.mod.kin hm.kp (thn (ha pos pins s1 σ H1 _ I1 q) fun us s2 ⟨vs,H2,I2,r,q2⟩=>⟨I2.kIn, ?_⟩) hst hpl
 exact z7P (us:= .ref a::us) (vs:= .ref a::vs) F hr hb hd hx I2 (.cons rfl r) q2
theorem z9b{pl:Sem Bool}(he:PE X o ta)(c:Cls X.K C)(hm:Meth X.K C m f)(F:FnOk X.prog X.w X.K X.mg X.base CX k f fd ps sp)(hr:Room k X.A)(hb:z0U X.K fd ps ds)(hd:Vals dvs ds)(hx:z0G CX X E)
 (ht:eval (.Call (.Attribute o m apos) [] [] pos) X.env=(do
  let ov<-eval o X.env
  standAt apos.atName
  let(f,first)<-holding [ov] (getMethod ov m pl)
  callWith pos f first (backTo pos (starEach [] X.env)) (backToKw pos (keywordEach [] X.env))):=by rfl):
 PE X (.Call (.Attribute o m apos) [] [] pos) (zaL C m sp dvs E ta tNil):=by
 intro pins s σ H Q I h
 refine W.methodCall_KW (pl:=pl) (thn (he pins s σ H _ I h) fun u s1 ⟨x,H1,I1,rx,a,dx,fs,ex,ea,l,q⟩=> ?_) ht
 subst ex
 obtain rfl:u=Value.ref a:=rx
 refine z32 I1 ea c hm l ?_
 exact W.callWith_K0 (first:=[.ref a]) I1.kIn hm.kp (z7P (us:=[.ref a]) (vs:=[.ref a]) F hr hb hd hx I1 (.cons rfl .nil) q)
structure Mk(K:W.Frag)(C f:Addr):Prop where
 makes:W.makesIn K C=true
 init:W.findIn K (.ref C) "__init__" =some (some (.ref f))
 fn:W.isFn K (.ref f)=true
 kp:W.keepIn K (.ref C)=true
theorem z9c{pins:List (Addr×Obj)}{σ:St}{H:Hp}{s:Shared}{Q:VK}{us:List Value}{vs:List V}(M:Mk X.K C f)(F:FnOk X.prog X.w X.K X.mg X.base CX k f fd ps sp)(hr:Room (k+1) X.A)(hb:z0U X.K fd ps ds)(hd:Vals dvs ds)
 (hx:z0G CX X E) (I:Inv X pins σ H s) (r:Vals vs us)
 (h: ∀x dx,H x=none->H dx=none->dx≠x->sp (.ref x::(vs++dvs)) (upd (upd H dx (.own x)) x (.ins C dx [])) (fun v H2=>v= .non/\Q (.ref x) H2) E):
 wpAny (model X.prog X.w) X.A (call (.ref C) us) (EP X pins σ Q) X.xe s:=by
 have hq:=h (s.heap.objs.size+1) s.heap.objs.size (I.hok.fresh (Nat.le_succ _)) (I.hok.fresh (Nat.le_refl _)) (Nat.ne_of_lt (Nat.lt_succ_self _))
 have I2:=Inv.made (C:=C) I
 have r2:Vals (V.ref (s.heap.objs.size+1)::(vs++dvs)) (Value.ref (s.heap.objs.size+1)::(us++ds)):= .cons rfl (r.append hd)
 have hl:(Value.ref (s.heap.objs.size+1)::us++ds).length=ps.length:=by
  have e:=r2.length
  rw[F.len _ _ _ _ hq] at e
  exact e.symm
 refine wpAny_call (z9a (f:=f) I.kIn M.makes M.init (beq_iff_eq.mp M.fn) (codeAny_mono (F.run _ X.stack _ _ ⟨Value.ref (s.heap.objs.size+1)::us,[]⟩ (Value.ref (s.heap.objs.size+1)::(us++ds)) _ _ E (hr.make C us [])
  (I2.env0.make C us []) (hb _ (Value.ref (s.heap.objs.size+1)::us) I2.kIn hl) r2 hq) fun r s' hq'=> ?_))
 cases r with
 |error e=>exact hx pins σ _ _ e s' I2 hq'
 |ok fl=>
  cases fl with
  |ret u=>
   obtain⟨v,H',I3,rv,ev,q3⟩:=I2.after hq'
   subst ev
   exact⟨rv,⟨V.ref (s.heap.objs.size+1),H',I3,rfl,q3⟩⟩
  |next=>exact False.elim hq'
  |brk=>exact False.elim hq'
  |cont=>exact False.elim hq'
theorem z9d(M:Mk X.K C f)(F:FnOk X.prog X.w X.K X.mg X.base CX k f fd ps sp)(hr:Room (k+1) X.A)(hg:Gl X x)(hm:X.mg x=some (.ref C))(hb:z0U X.K fd ps ds)(hd:Vals dvs ds)(hx:z0G CX X E)
 (hdb:(x==("__debug__" :Str))=false:=by decide):PE X (.Call (.Name x p) [] [] pos) (zcE C sp dvs E tNil):=by
 intro pins s σ H Q I h
 refine wpAny_Call_Name_kw (z31 I hg hm ?_ hdb)
 exact W.callWith_K0 I.kIn M.kp (z9c (us:=[]) M F hr hb hd hx I .nil h)
end
section
variable{X:Cx}{CX:CXT}{k:Nat}{f C:Addr}{fd:FuncData}{ps ks:List Str}{sp:Sp}{E:XK}{x m:Str}{p pos apos kpos:Pos}{e o:Expr}{es:List Expr}{kws:List Keyword}{te ta:TE}{t tk:TA}{nm:Option Str}
structure zg0(K:W.Frag)(fd:FuncData)(ps ks:List Str)(g:List Value->List Value->List Value)(gV:List V->List V->List V):Prop where
 to: ∀(s:Shared) (us ws:List Value),K.In s.heap->(g us ws).length=ps.length->BindsTo s fd ⟨us,ks.zip ws⟩ (ps.zip (g us ws))
 rel: ∀{vs:List V} {us:List Value} {zs:List V} {ws:List Value},Vals vs us->Vals zs ws->Vals (gV vs zs) (g us ws)
variable{g:List Value->List Value->List Value}{gV:List V->List V->List V}
end
structure z05(N P:List Str)(sc:Scope):Prop where
 kind:sc.kind= .function
 co:sc.isCoroutine=false
 gen:sc.isGenerator=false
 nd:N.Nodup
 pre:N.take P.length=P
 par: ∀x∈P,sc.names.lookup x=some .local\/sc.names.lookup x=some .cell
 nofree: ∀y∈sc.names,y.2≠ .free
theorem z5k{kindOf:Str->Option NameKind}{x:Str}: ∀{binds:List (Str×Value)} {m:Str->Option Value},(∀v,(x,v)∉binds)->bindL kindOf binds m x=m x
 |[],_,_=>rfl
 |(n,v)::r,m,h=>by
  unfold bindL
  rw[z5k fun w hw=>h w (List.mem_cons_of_mem _ hw)]
  split
  ·have:x≠n:=by rintro rfl;exact h v List.mem_cons_self
   simp[this]
  ·rfl
theorem z5l{kindOf:Str->Option NameKind}{x:Str}: ∀{binds:List (Str×Value)} {m:Str->Option Value},(∀v,(x,v)∉binds)->bindC kindOf binds m x=m x
 |[],_,_=>rfl
 |(n,v)::r,m,h=>by
  unfold bindC
  rw[z5l fun w hw=>h w (List.mem_cons_of_mem _ hw)]
  split
  ·rfl
  ·have:x≠n:=by rintro rfl;exact h v List.mem_cons_self
   simp[this]
theorem z5m{kindOf:Str->Option NameKind}{x:Str}{v:Value}: ∀{P:List Str} {vs:List Value} {i:Nat} {m:Str->Option Value},P.Nodup->P[i]? =some x->vs[i]? =some v->kindOf x=some .local->
 bindL kindOf (P.zip vs) m x=some v
 |[],_,_,_,_,h,_,_=>by simp at h
 |_::_,[],_,_,_,_,h,_=>by simp at h
 |p::P,w::vs,0,m,nd,h1,h2,hk=>by
  simp at h1 h2;subst h1;subst h2
  show bindL kindOf ((p,w)::P.zip vs) m p=_
  unfold bindL
  rw[z5k fun v hv=>(List.nodup_cons.mp nd).1 (List.of_mem_zip hv).1,if_pos hk]
  simp
 |p::P,w::vs,i+1,m,nd,h1,h2,hk=>by
  show bindL kindOf ((p,w)::P.zip vs) m x=_
  unfold bindL
  exact z5m (i:=i) (List.nodup_cons.mp nd).2 (by simpa using h1) (by simpa using h2) hk
theorem z5n{kindOf:Str->Option NameKind}{x:Str}{v:Value}: ∀{P:List Str} {vs:List Value} {i:Nat} {m:Str->Option Value},P.Nodup->P[i]? =some x->vs[i]? =some v->kindOf x≠some .local->
 bindC kindOf (P.zip vs) m x=some v
 |[],_,_,_,_,h,_,_=>by simp at h
 |_::_,[],_,_,_,_,h,_=>by simp at h
 |p::P,w::vs,0,m,nd,h1,h2,hk=>by
  simp at h1 h2;subst h1;subst h2
  show bindC kindOf ((p,w)::P.zip vs) m p=_
  unfold bindC
  rw[z5l fun v hv=>(List.nodup_cons.mp nd).1 (List.of_mem_zip hv).1,if_neg hk]
  simp
 |p::P,w::vs,i+1,m,nd,h1,h2,hk=>by
  show bindC kindOf ((p,w)::P.zip vs) m x=_
  unfold bindC
  exact z5n (i:=i) (List.nodup_cons.mp nd).2 (by simpa using h1) (by simpa using h2) hk
noncomputable def z33(N:List Str)(vs:List V):St:=vs.map some++List.replicate (N.length -vs.length) none
noncomputable def cxOf(CX:CXT)(P:Program)(w:World)(K:W.Frag)(mg:Str->Option Value)(base:Heap)(N:List Str)(qual:Str)(scope:Scope)(f:Addr)(cd:Value)(A:Around)(outer:List Env)(s:Shared)(H:Hp)(E:XK):Cx where
 prog:=P
 w:=w
 K:=K
 mg:=mg
 base:=base
 A:=A.deeper (envOfC qual scope s.heap.objs.size f cd)
 N:=N
 s₀:=s
 H₀:=H
 env:=envOfC qual scope s.heap.objs.size f cd
 outer:=outer
 stack:=envOfC qual scope s.heap.objs.size f cd::outer
 ex:=[]
 calm:=true
 fn:=fun _=>true
 pn:=[]
 xe:=fun e s'=>wpAny (model P w) (A.deeper (envOfC qual scope s.heap.objs.size f cd)) (leaving (envOfC qual scope s.heap.objs.size f cd) e) (fun _ s''=>CX outer H s E e s'') (fun e' s''=>CX outer H s E e' s'') s'
theorem z6l{sc:Scope}{n:Nat}{x:Str}(h:sc.names.lookup x=some .cell): ∃c,(cellsFrom n sc.names []).lookup x=some c:=by
 have q:=W.cellsFrom_some sc.names n [] (.inl h)
 exact Option.isSome_iff_exists.mp q
theorem z5o{CX:CXT}{P:Program}{w:World}{K:W.Frag}{mg:Str->Option Value}{base:Heap}{N ps:List Str}{qual:Str}{scope:Scope}{f:Addr}{cd:Value}{A:Around}{outer:List Env}{s s1:Shared}{H:Hp}{E:XK}{us:List Value}{vs:List V}
 (S:z05 N ps scope) (hd:A.handled=none) (e0:Env0 P w K mg base A outer s H) (hl:vs.length=ps.length) (r:Vals vs us)
 (x:InCallC s s.heap.objs.size (bindL (envOfC qual scope s.heap.objs.size f cd).kindOf (ps.zip us) fun _=>none) (cellsFrom (s.heap.objs.size+1) scope.names []) (bindC (envOfC qual scope s.heap.objs.size f cd).kindOf (ps.zip us) fun _=>none) s1):
 Inv (cxOf CX P w K mg base N qual scope f cd A outer s H E) [] (z33 N vs) H s1:=by
 have hpl:ps.length<=N.length:=by have:=congrArg List.length S.pre;rw[List.length_take] at this;lia
 obtain⟨h1,tk,rfl,hk⟩:=x.done
 have noA: ∀b:Addr,b∉(cxOf CX P w K mg base N qual scope f cd A outer s H E).ex:=fun b z=>absurd (show b∈([]:List Addr) from z) (by simp)
 refine⟨⟨e0.mod,S.kind,rfl,rfl,Nat.le_refl _,fun y z c h1 h2=> ?_,fun y hy=> ?_,fun y c _ h=> ?_,fun _=>hd,Around.frames_deeper e0.frames, .inr ⟨rfl,rfl⟩,fun b z=>absurd z (noA b),e0.bs,e0.bsz,fun b _ _=>noA b,fun b z=>absurd z (noA b),e0.funs,e0.frf⟩,
  rfl,e0.bare,Un.kept hk,⟨_,x.toInCall.ns,fun i y v h1 h2 h3=> ?_⟩,fun y c h=>⟨_,x.cell y c h⟩,e0.hok.fresh (Nat.le_refl _),fun y c h=> ?_,fun p hp=>absurd (show p∈([]:List (Addr×Obj)) from hp) (by simp),e0.hok.kept hk, ?_⟩
 ·exact name_of_addr x.apart (PySem.mem_of_lookup h1) (PySem.mem_of_lookup h2)
 ·have hy:scope.names.lookup y=some .cell\/scope.names.lookup y=some .free:=hy
  rcases hy with hy|hy
  ·exact z6l hy
  ·exact absurd rfl (S.nofree _ (PySem.mem_of_lookup hy))
 ·exact Nat.le_of_lt (x.above y c (PySem.mem_of_lookup h))
 ·have hi:i<vs.length:=by
   unfold z33 at h2
   by_cases hi:i<vs.length
   ·exact hi
   ·rw[List.getElem?_append_right (by simpa using hi)] at h2
    rw[List.getElem?_replicate] at h2
    split at h2<;>cases h2
  have ha:vs[i]? =some v:=by
   unfold z33 at h2
   rw[List.getElem?_append_left (by simpa using hi),List.getElem?_map] at h2
   cases e:vs[i]? with
   |none=>rw[e] at h2;cases h2
   |some a=>rw[e] at h2;cases h2;rfl
  obtain⟨u,hu,rv⟩:=r.get ha
  have hp:ps[i]? =some y:=by
   rw[<-S.pre,List.getElem?_take_of_lt (by lia)];exact h1
  have ndP:ps.Nodup:=by rw[<-S.pre];exact S.nd.sublist (List.take_sublist _ _)
  refine⟨u,rv, ?_⟩
  rcases S.par y (List.mem_of_getElem? hp) with k|k
  ·exact .inl ⟨k,z5m ndP hp hu k⟩
  ·obtain⟨c,e⟩:=z6l (n:=s.heap.objs.size+1) k
   refine .inr ⟨.inl k,c,e, ?_⟩
   have q:=x.cell y c e
   rw[z5n ndP hp hu (by show scope.names.lookup y≠_;rw[k];decide)] at q
   exact q
 ·exact e0.hok.fresh (Nat.le_of_lt (x.above y c (PySem.mem_of_lookup h)))
 ·unfold z33
  show _=N.length
  rw[List.length_append,List.length_map,List.length_replicate]
  lia
theorem zcF{CX:CXT}{P:Program}{w:World}{K:W.Frag}{mg:Str->Option Value}{base:Heap}{k:Nat}{f:Addr}{name qual:Str}{params:Arguments}{body:List Stmt}{scope:Scope}{dV kV doc pm cdv ct oc:Value}{an od:Option Addr}
 {osl:Array (Option Value)} {N ps:List Str} {sp:Sp} (lk:K.lookup f=some ⟨oc,od, .func (W.fnOf name qual params body scope dV kV doc pm an cdv ct),osl⟩) (hcd:W.codeIn K cdv qual=true) (S:z05 N ps scope)
 (len: ∀vs H Q E,sp vs H Q E->vs.length=ps.length)
 (hbody: ∀(A:Around) (outer:List Env) (s:Shared) (H:Hp) (vs:List V) (Q:VK) (E:XK),Room k (A.deeper (envOfC qual scope s.heap.objs.size f cdv))->sp vs H Q E->
  ∃t,PSs (cxOf CX P w K mg base N qual scope f cdv A outer s H E) body t/\t {nx:=fun _ H'=>Q .non H',rt:=Q} (z33 N vs) H):
 FnOk P w K mg base CX (k+1) f (W.fnOf name qual params body scope dV kV doc pm an cdv ct) ps sp:=by
 refine⟨len,fun A outer s H args us vs Q E hr e0 hb r hsp=> ?_⟩
 have hl:=len _ _ _ _ hsp
 have KX:K.In s.heap:=e0.mod.kin.keeps fun b o e=>(e0.bs b o e).1
 have lim:s.heap.NoLimit:=e0.mod.nolimit.keeps fun b o e=>(e0.bs b o e).1
 have hkind: ∀y∈ps.zip us,scope.names.lookup y.1=some .local\/(scope.names.lookup y.1=some .cell/\((cellsFrom (s.heap.objs.size+1) scope.names []).lookup y.1).isSome=true):=fun⟨n,v⟩ hy=>by
  rcases S.par n (List.of_mem_zip hy).1 with q|q
  ·exact .inl q
  ·exact .inr ⟨q,W.cellsFrom_some _ _ _ (.inl q)⟩
 refine codeAny_call_function hr.depth (KX _ _ lk) rfl S.co S.gen rfl (W.codeRec_of KX hcd) (hb _ _ _ _ ?_)
 refine wpAny_newFunctionEnv_cells S.kind hkind fun env he s1 x=> ?_
 subst he
 refine⟨lim.keeps x.toInCall.keep,codeAny_func ?_⟩
 obtain⟨t,ht,hq⟩:=hbody A outer s H vs Q E (hr.deeper _) hsp
 have I:Inv (cxOf CX P w K mg base N qual scope f cdv A outer s H E) [] (z33 N vs) H s1:=z5o S hr.hd e0 hl r x
 refine wpAny_mono (ht [] s1 (z33 N vs) H _ I hq) (fun fl s' hs=> ?_) fun e s' hs=>hs
 have fin: ∀{σ':St} {H':Hp} {v:V} {u:Value},Inv (cxOf CX P w K mg base N qual scope f cdv A outer s H E) [] σ' H' s'->RelV v u->Q v H'->CE outer P w H s Q u s':=
  fun{σ' H' v u} J rv q=>⟨v,H',J.os,J.bare,J.base,J.hok,rv,q⟩
 cases fl with
 |ret u=>
  obtain⟨v,σ',H',J,rv,q⟩:=hs
  exact fin J rv q
 |next=>
  obtain⟨σ',H',J,q⟩:=hs
  exact fin (v:=V.non) (u:=Value.none) J rfl q
 |brk=>
  obtain⟨_,_,_,q⟩:=hs
  exact False.elim q
 |cont=>
  obtain⟨_,_,_,q⟩:=hs
  exact False.elim q
section
variable{X:Cx}{x:Str}{p pos:Pos}{e:Expr}{es:List Expr}{t:TA}{id T:String}{r:List V->Hp->VK->Prop}
noncomputable def tCB(r:List V->Hp->VK->Prop)(t:TA):TE:=fun σ H Q=>t σ H fun vs H1=>r vs H1 Q
theorem z2G(hc:CallR X (.builtin id) r)(hg:Gl X x)(hm:X.mg x=none)(hv:bootBuiltins x=some (.builtin id))(ha:PA X (e::es) t)(hn:x≠ "__name__" :=by decide)(hdb:(x==("__debug__" :Str))=false:=by decide)
 (he:starEach (e::es) X.env=(false,eval e X.env)::starEach es X.env:=by rfl) (hpl:(backTo pos (starEach es X.env)).any (·.1)=false:=by rfl):PE X (.Call (.Name x p) (e::es) [] pos) (tCB r t):=by
 intro pins s σ H Q I h
 refine wpAny_Call_Name_kw (z3j I hg hm hv ?_ hn hdb)
 exact PyProof.Rows.callWith_builtin1 (thn (ha pos pins s σ H _ I h) fun us s1 ⟨vs,H1,I1,r1,q1⟩=>hc pins s1 σ H1 vs us Q I1 r1 q1) he hpl
theorem z7Q(hc:CallR X (.type T) r)(hg:Gl X x)(hm:X.mg x=none)(hv:bootBuiltins x=some (.type T))(ha:PA X (e::es) t)(hn:x≠ "__name__" :=by decide)(hdb:(x==("__debug__" :Str))=false:=by decide)
 (he:starEach (e::es) X.env=(false,eval e X.env)::starEach es X.env:=by rfl) (hpl:(backTo pos (starEach es X.env)).any (·.1)=false:=by rfl):PE X (.Call (.Name x p) (e::es) [] pos) (tCB r t):=by
 intro pins s σ H Q I h
 refine wpAny_Call_Name_kw (z3j I hg hm hv ?_ hn hdb)
 exact PyProof.Rows.callWith_type1 (thn (ha pos pins s σ H _ I h) fun us s1 ⟨vs,H1,I1,r1,q1⟩=>hc pins s1 σ H1 vs us Q I1 r1 q1) he hpl
end
end L2
namespace HT
open PySem PyProof.Rows
section
open PySem.SeqAt
open PySem.AutoSeq1 (wpAny_loadPart')
open PySem.MeetsSeq PySem.MeetsSeq2 PySem.MeetsSeq3
end
section
variable{prog:Program}{w:World}{A:Around}{E:Value->Shared->Prop}{s:Shared}
theorem cat_tup{t b:Addr}{vs ws:List Value}{Q:Value->Shared->Prop}(ht:IsTup s.heap t vs.toArray)(hb:IsTup s.heap b ws.toArray)(hv:vs≠[])
 (h1:ws=[]->Q (.ref t) s) (h2:ws≠[]->Q (.ref s.heap.objs.size) {s with heap:=s.heap.push {cls:= .type "tuple",data:= .seq (vs++ws).toArray}})
 (hsz:vs.length+ws.length<=sizeLine):wpAny (model prog w) A (binaryOp .Add (.ref t) (.ref b)) Q E s:=by
 obtain⟨⟨cls,dd,data,sl⟩,ho,hc,n,hd⟩:=id ht
 obtain⟨⟨cls2,dd2,data2,sl2⟩,ho2,hc2,n2,hd2⟩:=id hb
 simp only at hc hd hc2 hd2
 subst hc hd hc2 hd2
 have e:vs.toArray++ws.toArray=(vs++ws).toArray:=by simp
 by_cases hw:ws=[]
 ·exact concat_meets ⟨_,ho,rfl⟩ ⟨_,ho2,rfl⟩ noFill_tuple_add seq_tuple_add PySem.F.slot_tuple_add PySem.F.entry_tuple_add (PySem.F.args_tuple_add_2 _ _)
   (tuple_addW1 t b vs.toArray ws.toArray n n2 dd dd2 sl sl2 (by simpa using hv) (by simp[hw])) ⟨ho,ho2,h1 hw⟩
 ·refine concat_meets ⟨_,ho,rfl⟩ ⟨_,ho2,rfl⟩ noFill_tuple_add seq_tuple_add PySem.F.slot_tuple_add PySem.F.entry_tuple_add (PySem.F.args_tuple_add_2 _ _)
   (tuple_addW2 t b vs.toArray ws.toArray n n2 dd dd2 sl sl2 (by simpa using hv) (by simpa using hw) (by rw[List.size_toArray,List.size_toArray];exact hsz)) ⟨ho,ho2, ?_⟩
  rw[e]
  exact h2 hw
noncomputable def sIx(n d:Nat):Option Int->Nat
 |none=>d
 |some v=>if v<0 then(v+(n:Int)).toNat else min v.toNat n
theorem sIx_none(n d:Nat):sIx n d none=d:=rfl
theorem sIx_nat(n d k:Nat):sIx n d (some (k:Int))=min k n:=by
 show(if(k:Int)<0 then((k:Int)+(n:Int)).toNat else min (k:Int).toNat n)=min k n
 rw[if_neg (by lia),Int.toNat_natCast]
theorem zcG(n d:Nat)(hd:d<=n)(o:Option Int):sIx n d o<=n:=by
 cases o with
 |none=>exact hd
 |some v=>
  show(if v<0 then(v+(n:Int)).toNat else min v.toNat n)<=n
  by_cases hv:v<0
  ·rw[if_pos hv];lia
  ·rw[if_neg hv];exact Nat.min_le_right _ _
theorem z7R(v:Int)(n d:Nat):(if v<0 then max (v+(n:Int)) 0 else min v (n:Int))=((sIx n d (some v):Nat):Int):=by
 show(if v<0 then max (v+(n:Int)) 0 else min v (n:Int))=(((if v<0 then(v+(n:Int)).toNat else min v.toNat n):Nat):Int)
 by_cases hv:v<0
 ·simp only[if_pos hv];lia
 ·simp only[if_neg hv];lia
theorem z78(lo hi:Option Int)(n:Nat):Builtin.Slice.sliceAdjust lo hi 1 (n:Int)=(((sIx n 0 lo:Nat):Int),((sIx n n hi:Nat):Int)):=by
 have h1: ¬((1:Int)<0):=by lia
 unfold Builtin.Slice.sliceAdjust
 simp only[h1,if_false]
 refine Prod.ext ?_ ?_
 ·cases lo with
  |none=>rfl
  |some v=>exact z7R v n 0
 ·cases hi with
  |none=>rfl
  |some v=>exact z7R v n n
theorem z79(i j:Nat):Builtin.Slice.slicePlaces (i:Int) (j:Int) 1=j -i:=by
 unfold Builtin.Slice.slicePlaces
 have h1:(1:Int)>0:=by lia
 simp only[h1,if_true,Int.ediv_one]
 split<;>lia
theorem z4r{v:Value}{o:Option Int}{Q:Option Int->Shared->Prop}(p:IsPart v o)(h:Q o s):wpAny (model prog w) A (Builtin.Slice.slicePartIndex v) Q E s:=by
 cases p with
 |none=>exact slicePart_none h
 |int i t=>exact slicePart_int h
theorem z23{sl:Addr}{vl vu:Value}{lo hi:Option Int}{n:Nat}{Q:Int×Int×Nat->Shared->Prop}(hs:s.heap.IsSliceOf sl vl vu .none)(pl:IsPart vl lo)(pu:IsPart vu hi)
 (h:Q (((sIx n 0 lo:Nat):Int),1,sIx n n hi -sIx n 0 lo) s):wpAny (model prog w) A (Builtin.Slice.sliceApplied (.ref sl) (pure (n:Int))) Q E s:=by
 obtain⟨os,hos,hcs,hds⟩:=id hs
 unfold Builtin.Slice.sliceApplied Builtin.Slice.sliceFields
 refine wpAny_bind (wpAny_bind (wpAny_field hos hds (x:=vl) rfl (wpAny_bind (wpAny_field hos hds (x:=vu) rfl (wpAny_bind (wpAny_field hos hds (x:= .none) rfl (wpAny_pure ?_)))))))
 refine wpAny_bind (slicePart_none ?_)
 show wpAny _ _ (if((1:Int)==0)=true then _ else _) _ _ s
 rw[if_neg (by decide)]
 refine wpAny_bind (z4r pl (wpAny_bind (z4r pu (wpAny_bind (wpAny_pure ?_)))))
 show wpAny _ _ (match Builtin.Slice.sliceAdjust lo hi 1 (n:Int) with|(lo,hi)=>pure (lo,(1:Int),Builtin.Slice.slicePlaces lo hi 1)) _ _ s
 rw[z78 lo hi n]
 show wpAny _ _ (pure (((sIx n 0 lo:Nat):Int),(1:Int),Builtin.Slice.slicePlaces ((sIx n 0 lo:Nat):Int) ((sIx n n hi:Nat):Int) 1)) _ _ s
 rw[z79]
 exact wpAny_pure h
theorem z9e(xs:Array Value)(i k:Nat):((List.range k).filterMap fun(m:Nat)=>xs[((i:Int)+(m:Int)*1).toNat]?).toArray=((xs.toList.drop i).take k).toArray:=by
 have e:(fun(m:Nat)=>xs[((i:Int)+(m:Int)*1).toNat]?)=fun m=>xs[i+m]? :=by
  funext m
  have:((i:Int)+(m:Int)*1).toNat=i+m:=by lia
  rw[this]
 rw[e]
 have:=pick_run xs i k
 rw[List.filterMap_map] at this
 have e2:((fun x=>xs[x]?)∘fun x=>i+x)=fun m=>xs[i+m]? :=rfl
 rw[e2] at this
 rw[this]
theorem getItem_tuple_cut{t sl:Addr}{items:Array Value}{vl vu:Value}{lo hi:Option Int}{Q:Value->Shared->Prop}(ht:IsTup s.heap t items)(hs:s.heap.IsSliceOf sl vl vu .none)(pl:IsPart vl lo)(pu:IsPart vu hi)
 (hw: ¬(sIx items.size 0 lo=0/\sIx items.size items.size hi=items.size))
 (h:Q (.ref s.heap.objs.size) {s with heap:=s.heap.push {cls:= .type "tuple",data:= .seq ((items.toList.drop (sIx items.size 0 lo)).take (sIx items.size items.size hi -sIx items.size 0 lo)).toArray}})
 (hsz:items.size<=sizeLine):wpAny (model prog w) A (getItem (.ref t) (.ref sl)) Q E s:=by
 have htake:sizeOk (.seq ((items.toList.drop (sIx items.size 0 lo)).take (sIx items.size items.size hi -sIx items.size 0 lo)).toArray):=by
  show((items.toList.drop (sIx items.size 0 lo)).take (sIx items.size items.size hi -sIx items.size 0 lo)).toArray.size<=sizeLine
  rw[List.size_toArray,List.length_take,List.length_drop,Array.length_toList]
  lia
 have hj:sIx items.size items.size hi<=items.size:=zcG _ _ (Nat.le_refl _) hi
 obtain⟨os,hos,hcs,hds⟩:=id hs
 have hTs:s.TypeIs (.ref sl) "slice" :=⟨os,hos,hcs⟩
 unfold getItem
 try with_reducible refine wpAny_holding ?_
 first|refine wpAny_bind (wpAny_pure ?_)|skip
 refine wpAny_bind (wpAny_sequenceKey ht.typeIs (by decide) ?_)
 refine wpAny_bind (wpAny_callSpecial?_slot (name:=Str.ofString "__getitem__") ht.typeIs PyProof.Rows.slot_tuple_getitem
  (wpAny_call_entry PyProof.Rows.slot_tuple_getitem ht.typeIs entry_tuple_getitem ?_ (args_tuple_getitem _ _)))
 show wpAny _ _ (Builtin.Tuple.tupleItemsOf (.ref t)>>=_) _ _ s
 refine wpAny_bind (tupleItemsOf_ ht ?_)
 refine wpAny_bind (wpAny_typeOf hTs ?_)
 rw[if_pos (by decide)]
 refine wpAny_bind (z23 hs pl pu ?_)
 have hno: ¬((((sIx items.size 0 lo:Nat):Int)==0&&(1:Int)==1&&(sIx items.size items.size hi -sIx items.size 0 lo)==items.size)=true):=by
  intro q
  rw[Bool.and_eq_true,Bool.and_eq_true] at q
  have q1:((sIx items.size 0 lo:Nat):Int)=0:=eq_of_beq q.1.1
  have q2:sIx items.size items.size hi -sIx items.size 0 lo=items.size:=eq_of_beq q.2
  exact hw ⟨by lia,by lia⟩
 show wpAny _ _ (if(((sIx items.size 0 lo:Nat):Int)==0&&(1:Int)==1&&(sIx items.size items.size hi -sIx items.size 0 lo)==items.size)=true then _ else _) _ _ s
 rw[if_neg hno,z9e]
 first
  |exact wpAny_bind (m:=Builtin.Tuple.tupleExact _) (wpAny_newObj_type (wpAny_pure ⟨_,rfl,wpAny_pure h⟩) htake)
  |exact wpAny_bind (m:=Builtin.Tuple.tupleExact _) (wpAny_newObj_type (wpAny_bind (wpAny_pure (wpAny_pure ⟨_,rfl,wpAny_pure h⟩))) htake)
  |exact wpAny_bind (wpAny_bind (m:=Builtin.Tuple.tupleExact _) (wpAny_newObj_type (wpAny_pure (wpAny_pure ⟨_,rfl,wpAny_pure h⟩)) htake))
  |exact wpAny_bind (wpAny_bind (m:=Builtin.Tuple.tupleExact _) (wpAny_newObj_type (wpAny_pure ⟨_,rfl,wpAny_pure h⟩) htake))
end
end HT
namespace L2
open PySem PySem.Spec PyProof.Rows
noncomputable abbrev TO:=St->Hp->(Option Int->Hp->Prop)->Prop
noncomputable def PO(X:Cx)(e:Option Expr)(t:TO):Prop:=
 ∀(pins:List (Addr×Obj)) (s:Shared) (σ:St) (H:Hp) (Q:Option Int->Hp->Prop),Inv X pins σ H s->t σ H Q->
  wpAny (model X.prog X.w) X.A (evalPart e X.env) (fun u s'=> ∃o H',Inv X pins σ H' s'/\IsPart u o/\Q o H') X.xe s
noncomputable def zaO:TO:=fun _ H Q=>Q none H
noncomputable def zeJ(t:TE):TO:=fun σ H Q=>t σ H fun x H1=> ∃i,x= .int i/\Q (some i) H1
section
variable{X:Cx}{e:Expr}{te:TE}{lo hi:Option Expr}{tl th:TO}{pos p2:Pos}
theorem zaP:PO X none zaO:=by
 intro pins s σ H Q I h
 rw[evalPart_none]
 exact wpAny_pure ⟨none,H,I, .none,h⟩
theorem zaQ(h:PE X e te):PO X (some e) (zeJ te):=by
 intro pins s σ H Q I hw
 rw[evalPart_some]
 refine thn (h pins s σ H _ I hw) fun u s1 ⟨x,H1,I1,r1,q1⟩=> ?_
 obtain⟨i,rfl,q⟩:=q1
 obtain⟨t,rfl⟩:=r1
 exact⟨some i,H1,I1, .int i t,q⟩
noncomputable def SlR(X:Cx)(r:V->Option Int->Option Int->Hp->VK->Prop):Prop:=
 ∀(pins:List (Addr×Obj)) (s:Shared) (σ:St) (H:Hp) (x:V) (v vl vu:Value) (lo hi:Option Int) (sl:Addr) (Q:VK),Inv X pins σ H s->RelV x v->s.heap.IsSliceOf sl vl vu .none->IsPart vl lo->IsPart vu hi->r x lo hi H Q->
  ∃T id,typeLookup (.type T) "__getitem__" =pure (some (.builtin id))/\s.TypeIs v T/\wpAny (model X.prog X.w) X.A (getItem v (.ref sl)) (EP X pins σ Q) X.xe s
theorem SlR.or{r r':V->Option Int->Option Int->Hp->VK->Prop}(h:SlR X r)(h':SlR X r'):SlR X (fun x lo hi H Q=>r x lo hi H Q\/r' x lo hi H Q):=by
 intro pins s σ H x v vl vu lo hi sl Q I rx hs pl pu q
 rcases q with q|q
 ·exact h pins s σ H x v vl vu lo hi sl Q I rx hs pl pu q
 ·exact h' pins s σ H x v vl vu lo hi sl Q I rx hs pl pu q
noncomputable def tSl(r:V->Option Int->Option Int->Hp->VK->Prop)(te:TE)(tl th:TO):TE:=fun σ H Q=>te σ H fun x H1=>tl σ H1 fun l H2=>th σ H2 fun u H3=>r x l u H3 Q
theorem z9f{r:V->Option Int->Option Int->Hp->VK->Prop}(hr:SlR X r)(he:PE X e te)(hl:PO X lo tl)(hu:PO X hi th):PE X (.Subscript e (.Slice lo hi none p2) pos) (tSl r te tl th):=by
 intro pins s σ H Q I h
 refine Subscript_ (thn (he pins s σ H _ I h) fun v s1 ⟨x,H1,I1,r1,q1⟩=> ?_)
 refine wpAny_Slice (thn (hl pins s1 σ H1 _ I1 q1) fun vl s2 ⟨l,H2,I2,pl,q2⟩=>thn (hu pins s2 σ H2 _ I2 q2) fun vu s3 ⟨u,H3,I3,pu,q3⟩=> ?_)
 rw[evalPart_none]
 refine wpAny_pure ?_
 have I4:Inv X pins σ H3 {s3 with heap:=s3.heap.push {cls:= .type "slice",data:= .fields #[vl,vu, .none]}}:=I3.kept (t':=s3.toks) fun b ob q=>Heap.get?_push_of_some _ q
 obtain⟨T,id,hT,ht,hg⟩:=hr pins {s3 with heap:=s3.heap.push {cls:= .type "slice",data:= .fields #[vl,vu, .none]}} σ H3 x v vl vu l u s3.heap.objs.size Q I4 r1 (Heap.IsSliceOf.new ..) pl pu q3
 show wpAny (model X.prog X.w) X.A (subscriptTail e (.Slice lo hi none p2) v (.ref s3.heap.objs.size)) (EP X pins σ Q) X.xe {s3 with heap:=s3.heap.push {cls:= .type "slice",data:= .fields #[vl,vu, .none]}}
 exact tail_any (ops:=[.ref s3.heap.objs.size,v]) ht hT hg (by with_unfolding_all rfl)
noncomputable def cutV(xs:List V)(lo hi:Option Int):List V:=(xs.drop (HT.sIx xs.length 0 lo)).take (HT.sIx xs.length xs.length hi -HT.sIx xs.length 0 lo)
theorem z3x(xs:List V)(lo hi:Option Int):(cutV xs lo hi).length<=xs.length:=by
 unfold cutV
 rw[List.length_take,List.length_drop]
 lia
noncomputable def rSlT(K:W.Frag):V->Option Int->Option Int->Hp->VK->Prop:=fun x lo hi H Q=> ∃a xs,x= .ref a/\SqT K H a xs/\
 ¬(HT.sIx xs.length 0 lo=0/\HT.sIx xs.length xs.length hi=xs.length)/\∀p,H p=none->Q (.ref p) (upd H p (.tup (cutV xs lo hi)))
theorem zcH:SlR X (rSlT X.K):=by
 intro pins s σ H x v vl vu lo hi sl Q I rx hs pl pu h
 obtain⟨a,xs,rfl,hx,hw,q⟩:=h
 cases rx
 obtain⟨its,r,ht,hz⟩:=I.tuple hx
 have hlen:its.toArray.size=xs.length:=by rw[List.size_toArray];exact r.length.symm
 refine⟨"tuple",_,PyProof.Rows.slot_tuple_getitem.lookup,ht.typeIs, ?_⟩
 refine HT.getItem_tuple_cut ht hs pl pu (by rw[hlen];exact hw) ?_ (by rw[hlen];exact hz)
 rw[hlen]
 refine⟨.ref s.heap.objs.size,_,I.laid (t':=s.toks) (o:= .tup (cutV xs lo hi)) (fun b ob q=>Heap.get?_push_of_some _ q) (Nat.le_refl _) ?_,rfl,q _ (I.hok.fresh (Nat.le_refl _))⟩
 exact⟨Nat.le_trans (z3x xs lo hi) hz,_,(r.drop (HT.sIx xs.length 0 lo)).take (HT.sIx xs.length xs.length hi -HT.sIx xs.length 0 lo),IsTup.new _ _⟩
noncomputable def zeK(K:W.Frag):R2:=fun x y H Q=> ∃a b xs ys,x= .ref a/\y= .ref b/\SqT K H a xs/\SqT K H b ys/\xs≠[]/\xs.length+ys.length<=sizeLine/\
 (ys=[]->Q (.ref a) H)/\(ys≠[]->∀p,H p=none->Q (.ref p) (upd H p (.tup (xs++ys))))
theorem Vals.nil_iff{xs:List V}{us:List Value}(r:Vals xs us):us=[]↔xs=[]:=by
 cases r with
 |nil=>simp
 |cons _ _=>simp
theorem zaR:OpR X (binaryOp .Add) (zeK X.K):=by
 intro pins s σ H x y v u Q I rx ry h
 obtain⟨a,b,xs,ys,rfl,rfl,ha,hb,hx,hz,q1,q2⟩:=h
 cases rx
 cases ry
 obtain⟨its,r1,p1,_⟩:=I.tuple ha
 obtain⟨its2,r2,p2,_⟩:=I.tuple hb
 refine HT.cat_tup p1 p2 (fun z=>hx (r1.nil_iff.mp z)) (fun z=>⟨.ref a,H,I,rfl,q1 (r2.nil_iff.mp z)⟩) (fun z=> ?_) (by rw[<-r1.length,<-r2.length];exact hz)
 refine⟨.ref s.heap.objs.size,_,I.laid (t':=s.toks) (o:= .tup (xs++ys)) (fun b ob q=>Heap.get?_push_of_some _ q) (Nat.le_refl _) ?_,rfl,q2 (fun w=>z (r2.nil_iff.mpr w)) _ (I.hok.fresh (Nat.le_refl _))⟩
 exact⟨by rw[List.length_append];exact hz,_,r1.append r2,IsTup.new _ _⟩
end
noncomputable def ixN(n:Nat)(i:Int):Option Nat:=if 0<=i then(if i<n then some i.toNat else none) else if -(n:Int)<=i then some (i+n).toNat else none
noncomputable def atI{α:Type}(xs:List α)(i:Int):Option α:=(ixN xs.length i).bind fun j=>xs[j]?
theorem z7S{n:Nat}{i:Int}{j:Nat}(h:ixN n i=some j):seqIndex? i n=some j/\j<n/\-(n:Int)<=i/\i<n:=by
 unfold ixN at h
 by_cases h0:0<=i
 ·rw[if_pos h0] at h
  by_cases h1:i<n
  ·rw[if_pos h1] at h
   have e:i.toNat=j:=Option.some.inj h
   exact⟨by rw[seqIndex_of h0 h1,e],by lia,by lia,h1⟩
  ·rw[if_neg h1] at h;cases h
 ·rw[if_neg h0] at h
  by_cases h1: -(n:Int)<=i
  ·rw[if_pos h1] at h
   have e:(i+n).toNat=j:=Option.some.inj h
   exact⟨by rw[seqIndex_neg (by lia) h1,e],by lia,h1,by lia⟩
  ·rw[if_neg h1] at h;cases h
theorem z7T{α:Type}{xs:List α}{i:Int}{v:α}(h:atI xs i=some v): ∃j,seqIndex? i xs.length=some j/\xs[j]? =some v/\j<xs.length/\-(xs.length:Int)<=i/\i<xs.length:=by
 unfold atI at h
 cases e:ixN xs.length i with
 |none=>rw[e] at h;cases h
 |some j=>
  rw[e] at h
  obtain⟨h1,h2,h3,h4⟩:=z7S e
  exact⟨j,h1,h,h2,h3,h4⟩
theorem zaS{α:Type}{xs:List α}{j:Nat}{v:α}(h:xs[j]? =some v):atI xs (j:Int)=some v:=by
 have hj:j<xs.length:=(List.getElem?_eq_some_iff.mp h).1
 have e:ixN xs.length (j:Int)=some j:=by
  unfold ixN
  rw[if_pos (by lia),if_pos (by lia)];simp
 unfold atI;rw[e];exact h
noncomputable def z34(b:Expr):Prop:= ∀o i,subscripted b false o i=operate [o,i] (getItem o i)
noncomputable def IxR(X:Cx)(r:R2):Prop:=
 ∀(value slice:Expr) (pins:List (Addr×Obj)) (s:Shared) (σ:St) (H:Hp) (x y:V) (v u:Value) (Q:VK),Inv X pins σ H s->RelV x v->RelV y u->r x y H Q->
  subscripted slice false v u=operate [v,u] (getItem v u)->wpAny (model X.prog X.w) X.A (subscriptTail value slice v u) (EP X pins σ Q) X.xe s
noncomputable def MtR(X:Cx)(id:String)(r:V->List V->Hp->VK->Prop):Prop:=
 ∀(pins:List (Addr×Obj)) (s:Shared) (σ:St) (H:Hp) (x:V) (xs:List V) (v:Value) (us:List Value) (Q:VK),Inv X pins σ H s->RelV x v->Vals xs us->r x xs H Q->
  wpAny (model X.prog X.w) X.A (call (.builtin id) (v::us)) (EP X pins σ Q) X.xe s
section
variable{X:Cx}{a b:Expr}{ta tb:TE}{pos:Pos}
theorem IxR.or{r r':R2}(h:IxR X r)(h':IxR X r'):IxR X (fun x y H Q=>r x y H Q\/r' x y H Q):=by
 intro value slice pins s σ H x y v u Q I rx ry q hs
 rcases q with q|q
 ·exact h value slice pins s σ H x y v u Q I rx ry q hs
 ·exact h' value slice pins s σ H x y v u Q I rx ry q hs
theorem zeL{r:R2}(hr:IxR X r)(ha:PE X a ta)(hb:PE X b tb)(hs:z34 b):PE X (.Subscript a b pos) (tOp r ta tb):=by
 intro pins s σ H Q I h
 exact Subscript_ (binT ha hb I h fun v u s2 x y H2 I2 rx ry q=>hr a b pins s2 σ H2 x y v u Q I2 rx ry q (hs _ _))
noncomputable def rIxL(K:W.Frag):R2:=fun x y H Q=> ∃p xs i v,x= .ref p/\y= .int i/\SqL K H p xs/\atI xs i=some v/\Q v H
noncomputable def rIxT(K:W.Frag):R2:=fun x y H Q=> ∃p xs i v,x= .ref p/\y= .int i/\SqT K H p xs/\atI xs i=some v/\Q v H
theorem zaT:IxR X (rIxL X.K):=by
 intro value slice pins s σ H x y v u Q I rx ry h hs
 obtain⟨p,xs,i,z,rfl,rfl,hq,he,q⟩:=h
 cases rx
 obtain⟨t,rfl⟩:=ry
 obtain⟨its,r,pl,hz⟩:=I.list hq
 obtain⟨j,h1,h2,h3,h4,h5⟩:=z7T he
 obtain⟨w,ew,rw'⟩:=r.get h2
 have hl:=r.length
 have hn:=z5j
 have fin:EP X pins σ Q w s:=⟨z,H,I,rw',q⟩
 by_cases h0:0<=i
 ·have hj:i.toNat=j:=by
   rw[seqIndex_of h0 h5] at h1
   exact Option.some.inj h1
  exact item_listR pl.isList h0 (by lia) (by rw[hj];simpa using ew) fin hs
 ·have hj:(i+(its.toArray.size:Int)).toNat=j:=by
   rw[seqIndex_neg (by lia) h4] at h1
   rw[List.size_toArray,<-hl]
   exact Option.some.inj h1
  exact subscriptTail_builtinR (x:=w) pl.isList.typeIs slot_list_getitem.lookup
   (wpAny_getItem_list_neg (Q:=fun r s'=>r=w/\EP X pins σ Q r s') pl.isList (by lia) (by rw[List.size_toArray]<;>lia) (by lia) (by rw[hj];simpa using ew) ⟨rfl,fin⟩) hs
theorem zcI:IxR X (rIxT X.K):=by
 intro value slice pins s σ H x y v u Q I rx ry h hs
 obtain⟨p,xs,i,z,rfl,rfl,hq,he,q⟩:=h
 cases rx
 obtain⟨t,rfl⟩:=ry
 obtain⟨its,r,pl,hz⟩:=I.tuple hq
 obtain⟨j,h1,h2,h3,h4,h5⟩:=z7T he
 obtain⟨w,ew,rw'⟩:=r.get h2
 have hl:=r.length
 have hn:=z5j
 have fin:EP X pins σ Q w s:=⟨z,H,I,rw',q⟩
 exact subscriptTail_builtinR (x:=w) pl.typeIs slot_tuple_getitem.lookup
  (getItem_tuple (j:=j) (Q:=fun r s'=>r=w/\EP X pins σ Q r s') pl (by lia) (by lia) (by rw[List.size_toArray,<-hl];exact h1) (by simpa using ew) ⟨rfl,fin⟩) hs
theorem z7a(its:List Value)(n j:Nat)(u:Value):Obj.mapSeq (·.setIfInBounds j u) {cls:= .type "list",data:= .seq its.toArray n}={cls:= .type "list",data:= .seq (its.set j u).toArray n}:=by
 simp[Obj.mapSeq]
theorem Inv.lst{pins:List (Addr×Obj)}{σ:St}{H:Hp}{s:Shared}{p:Addr}{xs:List V}(I:Inv X pins σ H s)(h:H p=some (.lst xs)):
 ∃(its:List Value) (n:Nat),Vals xs its/\s.heap.get? p=some {cls:= .type "list",data:= .seq its.toArray n}/\xs.length<=sizeLine:=by
 obtain⟨z,its,n,r,e⟩:=I.hok p _ h
 exact⟨its,n,r,e,z⟩
theorem Inv.lstUpd{pins:List (Addr×Obj)}{σ:St}{H:Hp}{s:Shared}{p:Addr}{xs ys:List V}{its its':List Value}{n n':Nat}{f:Obj->Obj}(I:Inv X pins σ H s)(h:H p=some (.lst xs))
 (ho:s.heap.get? p=some {cls:= .type "list",data:= .seq its.toArray n}) (hf:f {cls:= .type "list",data:= .seq its.toArray n}={cls:= .type "list",data:= .seq its'.toArray n'}) (r:Vals ys its') (hz:ys.length<=sizeLine) (t:Nat):
 Inv X pins σ (upd H p (.lst ys)) {s with heap:=s.heap.update p f,toks:=t}:=by
 have e:(s.heap.update p f).get? p=some {cls:= .type "list",data:= .seq its'.toArray n'}:=by
  rw[Heap.get?_update_self f ho (by rw[hf]<;>rfl),hf]
 refine I.write (x:=p) (e:=p) (by rw[h];trivial) (.inl rfl) (fun b u hb q=>(Heap.get?_update_other _ _ (Ne.symm hb)).trans q) ⟨_,e⟩ ?_
 exact⟨hz,its',n',r,e⟩
noncomputable def z9g:V->V->V->Hp->(Hp->Prop)->Prop:=fun o i v H Q=> ∃p xs k j,o= .ref p/\i= .int k/\H p=some (.lst xs)/\ixN xs.length k=some j/\Q (upd H p (.lst (xs.set j v)))
theorem z4K:PSet X z9g:=by
 intro pins s σ H o i v ov iv u Q I ro ri rv h
 obtain⟨p,xs,k,j,rfl,rfl,hp,hj,q⟩:=h
 cases ro
 obtain⟨t,rfl⟩:=ri
 obtain⟨its,n,r,ho,hz⟩:=I.lst hp
 obtain⟨h1,h2,h3,h4⟩:=z7S hj
 have hl:=r.length
 have hn:=z5j
 have I':Inv X pins σ (upd H p (.lst (xs.set j v))) {s with heap:=s.heap.update p (Obj.mapSeq (·.setIfInBounds j u))}:=
  I.lstUpd hp ho (z7a its n j u) (r.set rv j) (by rw[List.length_set];exact hz) s.toks
 by_cases h0:0<=k
 ·have hk:k.toNat=j:=by
   rw[seqIndex_of h0 h4] at h1
   exact Option.some.inj h1
  exact W.ki_setAt ho h0 (by lia) (by rw[List.size_toArray,<-hl];exact h4) (by rw[hk];exact⟨_,I',q⟩)
 ·have hk:(k+(its.toArray.size:Int)).toNat=j:=by
   rw[seqIndex_neg (by lia) h3] at h1
   rw[List.size_toArray,<-hl]
   exact Option.some.inj h1
  exact W.ki_setBack ho (by lia) (by rw[List.size_toArray,<-hl];exact h3) (by lia) (by rw[hk];exact⟨_,I',q⟩)
theorem z5p(lo hi:Option Int)(n:Nat):(sliceBounds lo hi none n).1=((HT.sIx n 0 lo:Nat):Int)/\(sliceBounds lo hi none n).2.1=((HT.sIx n n hi:Nat):Int)/\(sliceBounds lo hi none n).2.2=1:=by
 refine⟨?_, ?_,rfl⟩
 ·cases lo with
  |none=>simp[sliceBounds,HT.sIx]
  |some i=>
   simp only[sliceBounds,HT.sIx,Option.getD_none,show(1:Int)>0 by decide,if_true]
   by_cases h:i<0
   ·simp only[h,if_true]<;>lia
   ·simp only[h,if_false]<;>lia
 ·cases hi with
  |none=>simp[sliceBounds,HT.sIx]
  |some i=>
   simp only[sliceBounds,HT.sIx,Option.getD_none,show(1:Int)>0 by decide,if_true]
   by_cases h:i<0
   ·simp only[h,if_true]<;>lia
   ·simp only[h,if_false]<;>lia
theorem z4L(its:List Value)(lo hi:Option Int):slicePick its.toArray lo hi none=((its.drop (HT.sIx its.length 0 lo)).take (HT.sIx its.length its.length hi -HT.sIx its.length 0 lo)).toArray:=by
 obtain⟨h1,h2,h3⟩:=z5p lo hi its.toArray.size
 unfold slicePick
 rw[h1,h2,h3]
 simp only[sliceRange_one,pick_run,List.size_toArray]<;>rfl
noncomputable def rSlL(K:W.Frag):V->Option Int->Option Int->Hp->VK->Prop:=fun x lo hi H Q=> ∃a xs,x= .ref a/\SqL K H a xs/\∀p,H p=none->Q (.ref p) (upd H p (.lst (cutV xs lo hi)))
theorem zaU:SlR X (rSlL X.K):=by
 intro pins s σ H x v vl vu lo hi sl Q I rx hs pl pu h
 obtain⟨a,xs,rfl,hx,q⟩:=h
 cases rx
 obtain⟨its,r,ht,hz⟩:=I.list hx
 have hlen:=r.length
 refine⟨"list",_,slot_list_getitem.lookup,ht.isList.typeIs, ?_⟩
 refine wpAny_getItem_list_slice ht.isList hs pl pu .none (by simp) ?_ (by rw[List.size_toArray]<;>lia)
 rw[z4L,<-hlen]
 refine⟨.ref s.heap.objs.size,_,I.laid (t':=s.toks) (o:= .lst (cutV xs lo hi)) (fun b ob q=>Heap.get?_push_of_some _ q) (Nat.le_refl _) ?_,rfl,q _ (I.hok.fresh (Nat.le_refl _))⟩
 exact⟨Nat.le_trans (z3x xs lo hi) hz,_,0,(r.drop (HT.sIx xs.length 0 lo)).take (HT.sIx xs.length xs.length hi -HT.sIx xs.length 0 lo),Heap.get?_push_size _ rfl⟩
theorem z5q:CallR X (.builtin "len") (fun xs H Q=> ∃p ys,xs=[.ref p]/\(SqL X.K H p ys\/SqT X.K H p ys)/\Q (.int ys.length) H):=by
 intro pins s σ H xs us Q I r h
 obtain⟨p,ys,rfl,hq,q⟩:=h
 obtain⟨u,rfl,rx⟩:=z73 r
 cases rx
 have hn:=z5j
 rcases hq with hq|hq
 ·obtain⟨its,r',pl,hz⟩:=I.list hq
  have hlen:=r'.length
  exact Calls.call_len_list pl.isList (by simp only[List.size_toArray]<;>lia) ⟨.int ys.length,H,I.tok _,⟨s.toks+1,by rw[List.size_toArray,hlen]⟩,q⟩
 ·obtain⟨its,r',pl,hz⟩:=I.tuple hq
  have hlen:=r'.length
  exact len_tuple pl (by simp only[List.size_toArray]<;>lia) ⟨.int ys.length,H,I.tok _,⟨s.toks+1,by rw[List.size_toArray,hlen]⟩,q⟩
theorem z5r:CallR X (.type "list") (fun xs H Q=> ∃p ys,xs=[.ref p]/\(SqL X.K H p ys\/SqT X.K H p ys)/\∀l,H l=none->Q (.ref l) (upd H l (.lst ys))):=by
 intro pins s σ H xs us Q I r h
 obtain⟨p,ys,rfl,hq,q⟩:=h
 obtain⟨u,rfl,rx⟩:=z73 r
 cases rx
 have fin: ∀(its:List Value),Vals ys its->ys.length<=sizeLine->∀(h':Heap) (c':Nat),(∀b o',s.heap.get? b=some o'->h'.get? b=some o')->
  h'.get? s.heap.objs.size=some {cls:= .type "list",dict:=none,data:= .seq its.toArray c',slots:= #[]}->EP X pins σ Q (.ref s.heap.objs.size) {s with heap:=h'}:=fun its r' hz h' c' kp e=>
  ⟨.ref s.heap.objs.size,_,I.laid (t':=s.toks) kp (Nat.le_refl _) (show z25 X.prog X.w _ h' _ (.lst ys) from⟨hz,its,c',r',e⟩),rfl,q _ (I.hok.fresh (Nat.le_refl _))⟩
 rcases hq with hq|hq
 ·obtain⟨its,r',pl,hz⟩:=I.list hq
  have hlen:=r'.length
  obtain⟨o,ho,hc,n,hd⟩:=pl.isList
  exact call_list_seq p (.inl rfl) ho hc hd (fun h' c' kp e=>fin its r' hz h' c' kp e) (by simp only[List.size_toArray]<;>lia)
 ·obtain⟨its,r',pl,hz⟩:=I.tuple hq
  have hlen:=r'.length
  obtain⟨o,ho,hc,n,hd⟩:=pl
  exact call_list_seq p (.inr rfl) ho hc hd (fun h' c' kp e=>fin its r' hz h' c' kp e) (by simp only[List.size_toArray]<;>lia)
theorem z4M:CallR X (.type "tuple") (fun xs H Q=> ∃p ys,xs=[.ref p]/\((SqL X.K H p ys/\∀l,H l=none->Q (.ref l) (upd H l (.tup ys)))\/(SqT X.K H p ys/\Q (.ref p) H))):=by
 intro pins s σ H xs us Q I r h
 obtain⟨p,ys,rfl,h⟩:=h
 obtain⟨u,rfl,rx⟩:=z73 r
 cases rx
 rcases h with⟨hq,q⟩|⟨hq,q⟩
 ·obtain⟨its,r',pl,hz⟩:=I.list hq
  have hlen:=r'.length
  refine call_tuple_list pl.isList (fun h' kp=> ?_) (by simp only[List.size_toArray]<;>lia)
  have I1:Inv X pins σ H {s with heap:=h'}:=I.kept (t':=s.toks) kp
  have I2:Inv X pins σ (upd H h'.objs.size (.tup ys)) {s with heap:=h'.push {cls:= .type "tuple",data:= .seq its.toArray}}:=
   I1.laid (t':=s.toks) (fun b o e=>Heap.get?_push_of_some _ e) (Nat.le_refl _) (show z25 X.prog X.w _ _ _ (.tup ys) from⟨hz,its,r',IsTup.new _ _⟩)
  exact⟨.ref h'.objs.size,_,I2,rfl,q _ (I1.hok.fresh (Nat.le_refl _))⟩
 ·obtain⟨its,r',pl,hz⟩:=I.tuple hq
  exact call_tuple_same pl ⟨.ref p,H,I,rfl,q⟩
noncomputable def tyV(K:W.Frag)(T:String)(x:V)(H:Hp):Prop:=match x with
 | .str _=>T= "str"
 | .int _=>T= "int"
 | .ref p=>(T= "list" /\∃xs,SqL K H p xs)\/(T= "tuple" /\∃o,K.lookup p=some o/\o.cls= .type "tuple" /\o.dict=none)\/
  (T= "dict" /\((∃kvs,H p=some (.dK kvs))\/∃kvs,H p=some (.dT kvs)))\/(T= "set" /\∃S n,H p=some (.set S n))
 |_=>False
theorem za6{pins:List (Addr×Obj)}{σ:St}{H:Hp}{s:Shared}{T:String}{x:V}{v:Value}(I:Inv X pins σ H s)(r:RelV x v)(ty:tyV X.K T x H):
 s.TypeIs v T/\∀a,v= .ref a->∃ob,s.heap.get? a=some ob/\ob.dict=none:=by
 cases x with
 |str z=>
  obtain⟨t,rfl⟩:=r
  cases(show T= "str" from ty)
  exact⟨typeIs_str s z t,fun _ e=>nomatch e⟩
 |int i=>
  obtain⟨t,rfl⟩:=r
  cases(show T= "int" from ty)
  exact⟨typeIs_int s i t,fun _ e=>nomatch e⟩
 |ref p=>
  cases r
  rcases ty with⟨rfl,xs,hq⟩|⟨rfl,o,hk,hc,hd⟩|⟨rfl,hk⟩|⟨rfl,S,n,hk⟩
  ·obtain⟨its,_,pl,_⟩:=I.list hq
   refine⟨pl.isList.typeIs,fun a e=> ?_⟩
   cases e
   obtain⟨o,n,e,c,hd,_⟩:=pl
   exact⟨o,e,hd⟩
  ·refine⟨⟨o,I.kIn p o hk,hc⟩,fun a e=> ?_⟩
   cases e
   exact⟨o,I.kIn _ o hk,hd⟩
  ·have z: ∃o,s.heap.get? p=some o/\o.ExactDict:=by
    rcases hk with⟨kvs,hk⟩|⟨kvs,hk⟩
    ·obtain⟨_,_,_,_,o,_,_,e,ex,_⟩:=I.hok p _ hk
     exact⟨o,e,ex⟩
    ·obtain⟨_,_,_,_,o,_,_,e,ex,_⟩:=I.hok p _ hk
     exact⟨o,e,ex⟩
   obtain⟨o,e,ex⟩:=z
   refine⟨⟨o,e,ex.1⟩,fun a e2=> ?_⟩
   cases e2
   exact⟨o,e,ex.2.1⟩
  ·obtain⟨o,_,_,_,e,ex,_⟩:=I.hok p _ hk
   refine⟨⟨o,e,ex.1⟩,fun a e2=> ?_⟩
   cases e2
   exact⟨o,e,ex.2.1⟩
 |_=>exact False.elim ty
noncomputable def tBM0(K:W.Frag)(T:String)(r:V->List V->Hp->VK->Prop)(to:TE):TE:=fun σ H Q=>to σ H fun x H1=>tyV K T x H1/\r x [] H1 Q
noncomputable def tBM(K:W.Frag)(T:String)(r:V->List V->Hp->VK->Prop)(to:TE)(t:TA):TE:=fun σ H Q=>to σ H fun x H1=>tyV K T x H1/\t σ H1 fun xs H2=>r x xs H2 Q
variable{o e:Expr}{es:List Expr}{to:TE}{t:TA}{name:Str}{apos cpos:Pos}{T id:String}{r:V->List V->Hp->VK->Prop}
theorem zcJ(pa:PlainAttrs T)(slot:Slot T name id)(hty:typeOf (.builtin id)=pure (.type "method_descriptor"))(hm:MtR X id r)(ho:PE X o to)
 (hbase:attributeBase o name X.env (eval o X.env)=eval o X.env:=by rfl) (hline:(apos.endLine==cpos.line)=true:=by rfl):PE X (.Call (.Attribute o name apos) [] [] cpos) (tBM0 X.K T r to):=by
 intro pins s σ H Q I h
 refine wpAny_Call_method0_late hbase hline (thn (ho pins s σ H _ I h) fun v s1 ⟨x,H1,I1,r1,ty,q1⟩=> ?_)
 obtain⟨h1,h2⟩:=za6 I1 r1 ty
 exact⟨T,id,pa,slot,hty,h1,h2,Calls.callWith_builtin rfl (PySem.evalArgs_none (hm pins s1 σ H1 x [] v [] Q I1 r1 .nil q1))⟩
theorem zeM(pa:PlainAttrs T)(slot:Slot T name id)(hty:typeOf (.builtin id)=pure (.type "method_descriptor"))(hm:MtR X id r)(ho:PE X o to)(ha:PA X (e::es) t)
 (hbase:attributeBase o name X.env (eval o X.env)=eval o X.env:=by rfl)
 (hfew:((backTo cpos (starEach (e::es) X.env)).all (fun x=> !x.1)&&(backToKw cpos (keywordEach [] X.env)).all (fun x=>x.1.isSome)
  &&decide ((e::es).length+([]:List Keyword).length+(if([]:List Keyword).isEmpty then 0 else 1)<30))=true:=by rfl)
 (hline:(apos.endLine==cpos.line)=true:=by rfl) (hs:starEach (e::es) X.env=(false,eval e X.env)::starEach es X.env:=by rfl) (hplain:(backTo cpos (starEach es X.env)).any (·.1)=false:=by rfl):
 PE X (.Call (.Attribute o name apos) (e::es) [] cpos) (tBM X.K T r to t):=by
 intro pins s σ H Q I h
 refine wpAny_Call_method_late hbase hfew hline rfl (thn (ho pins s σ H _ I h) fun v s1 ⟨x,H1,I1,r1,ty,q1⟩=> ?_)
 obtain⟨h1,h2⟩:=za6 I1 r1 ty
 refine⟨T,id,pa,slot,hty,h1,h2, ?_⟩
 have hA:=ha cpos pins s1 σ H1 _ I1 q1
 rw[hs] at hA⊢
 refine Calls.callWith_builtin (by show(false||(backTo cpos (starEach es X.env)).any (·.1))=false;rw[hplain]<;>rfl) (Calls.evalArgs_plain ?_)
 exact thn hA fun us s2 ⟨vs,H2,I2,r2,q2⟩=>hm pins s2 σ H2 x vs v us Q I2 r1 r2 q2
end
noncomputable def MtM(X:Cx)(id:String)(r:V->List V->Hp->VK->Prop):Prop:=
 ∀(pins:List (Addr×Obj)) (s:Shared) (σ:St) (H:Hp) (x:V) (xs:List V) (v:Value) (us:List Value) (Q:VK),Inv X pins σ H s->RelV x v->Vals xs us->r x xs H Q->
  wpAny (model X.prog X.w) X.A (call (.builtin id) (v::us)) (EP X pins σ Q) X.xe s
theorem Vals.one: ∀{x:V} {us:List Value},Vals [x] us->∃u,us=[u]/\RelV x u
 |_,_, .cons r .nil=>⟨_,rfl,r⟩
theorem Vals.zero: ∀{us:List Value},Vals [] us->us=[]
 |_, .nil=>rfl
theorem Vals.eraseIdx: ∀{xs:List V} {us:List Value} (i:Nat),Vals xs us->Vals (xs.eraseIdx i) (us.eraseIdx i)
 |_,_,_, .nil=> .nil
 |_,_,0, .cons _ t=>t
 |_,_,i+1, .cons r t=> .cons r (Vals.eraseIdx i t)
theorem Vals.reverse{xs:List V}{us:List Value}(h:Vals xs us):Vals xs.reverse us.reverse:=by
 induction h with
 |nil=>exact .nil
 |cons r t ih=>rw[List.reverse_cons,List.reverse_cons];exact Vals.append ih (.cons r .nil)
theorem Vals.rep{xs:List V}{us:List Value}(h:Vals xs us): ∀k:Nat,Vals (List.replicate k xs).flatten (List.replicate k us).flatten
 |0=> .nil
 |k+1=>by
  rw[List.replicate_succ,List.replicate_succ,List.flatten_cons,List.flatten_cons]
  exact Vals.append h (Vals.rep h k)
theorem z5s{α:Type}: ∀(l:List α) (i:Nat),(l.eraseIdx i).length<=l.length
 |[],_=>Nat.le_refl _
 |_::_,0=>Nat.le_succ _
 |_::r,i+1=>Nat.succ_le_succ (z5s r i)
theorem z3y(its:List Value): ∀(k:Nat) (acc:List Value),
 List.foldl (fun x1 x2=>x1++x2) acc.toArray (List.replicate k its.toArray)=(acc++(List.replicate k its).flatten).toArray
 |0,acc=>by simp
 |k+1,acc=>by
  have e:acc.toArray++its.toArray=(acc++its).toArray:=by simp
  have e2:(acc++its)++(List.replicate k its).flatten=acc++(List.replicate (k+1) its).flatten:=by
   rw[List.replicate_succ,List.flatten_cons,List.append_assoc]
  rw[<-e2,<-z3y its k (acc++its),<-e,List.replicate_succ,List.foldl_cons]
section
variable{X:Cx}{pins:List (Addr×Obj)}{σ:St}{H:Hp}{s:Shared}{l b:Addr}{xs ys zs:List V}
theorem Inv.lset{its its':List Value}{n:Nat}{f:Array Value->Array Value}{t':Nat}(I:Inv X pins σ H s)(hH:H l=some (.lst xs))
 (e:s.heap.get? l=some {cls:= .type "list",data:= .seq its.toArray n}) (hf:f its.toArray=its'.toArray) (hv:Vals ys its') (hz:ys.length<=sizeLine):
 Inv X pins σ (upd H l (.lst ys)) {s with heap:=s.heap.update l (Obj.mapSeq f),toks:=t'}:=by
 have q:=PySem.IsL.update e f
 rw[hf] at q
 refine I.write (x:=l) (e:=l) (by rw[hH];exact trivial) (.inl rfl) (fun b' u hb hu=>(Heap.get?_update_other s.heap (Obj.mapSeq f) (Ne.symm hb)).trans hu) ⟨_,q⟩ ?_
 exact⟨hz,its',_,hv,q⟩
theorem Inv.lnew{its:List Value}{t':Nat}(I:Inv X pins σ H s)(hv:Vals ys its)(hz:ys.length<=sizeLine):
 Inv X pins σ (upd H s.heap.objs.size (.lst ys)) {s with heap:=s.heap.push {cls:= .type "list",data:= .seq its.toArray},toks:=t'}:=
 I.laid (fun _ _ q=>Heap.get?_push_of_some _ q) (Nat.le_refl _) ⟨hz,its,0,hv,Heap.get?_push_size _ rfl⟩
theorem Inv.fresh(I:Inv X pins σ H s):H s.heap.objs.size=none:=I.hok.fresh (Nat.le_refl _)
theorem Inv.lstM(I:Inv X pins σ H s)(hH:H l=some (.lst xs)):xs.length<=sizeLine/\∃(its:List Value) (n:Nat),Vals xs its/\xs.length=its.length/\s.heap.get? l=some {cls:= .type "list",data:= .seq its.toArray n}:=by
 obtain⟨z,its,n,r,e⟩:=I.hok l _ hH
 exact⟨z,its,n,r,r.length,e⟩
theorem z6m{n:Nat}(h:n<=sizeLine):Builtin.List.listTooLong n=false:=by
 unfold Builtin.List.listTooLong
 exact decide_eq_false (by lia)
end
section
variable{X:Cx}
noncomputable def z7U:V->List V->Hp->VK->Prop:=fun x vs H Q=> ∃l xs y,x= .ref l/\vs=[y]/\H l=some (.lst xs)/\xs.length<sizeLine/\Q .non (upd H l (.lst (xs++[y])))
theorem z5t:MtM X "list.append" z7U:=by
 intro pins s σ H x vs v us Q I rx rv h
 obtain⟨l,xs,y,rfl,rfl,hH,hz,q⟩:=h
 cases rx
 obtain⟨u,rfl,ru⟩:=rv.one
 obtain⟨z,its,n,r,hl,e⟩:=I.lstM hH
 refine call_meets F.slot_list_append ⟨_,e,rfl⟩ F.entry_list_append (F.args_list_append_2 _ _) (PySem.list_append l its.toArray n u (by rw[List.size_toArray];lia)) ⟨e, ?_⟩
 refine⟨.non,_,I.lset (its':=its++[u]) hH e (by simp) (r.append (.cons ru .nil)) ?_,rfl,q⟩
 rw[List.length_append,List.length_singleton]
 lia
noncomputable def za7:V->List V->Hp->VK->Prop:=fun x vs H Q=> ∃l xs i k y,x= .ref l/\vs=[.int i]/\H l=some (.lst xs)/\-(2^63)<=i/\i<2^63/\seqIndex? i xs.length=some k/\xs[k]? =some y/\Q y (upd H l (.lst (xs.eraseIdx k)))
theorem z9h:MtM X "list.pop" za7:=by
 intro pins s σ H x vs v us Q I rx rv h
 obtain⟨l,xs,i,k,y,rfl,rfl,hH,h1,h2,hk,hy,q⟩:=h
 cases rx
 obtain⟨u,rfl,ru⟩:=rv.one
 obtain⟨t,rfl⟩:=ru
 obtain⟨z,its,n,r,hl,e⟩:=I.lstM hH
 obtain⟨w,hw,rw'⟩:=r.get hy
 refine call_meets F.slot_list_pop ⟨_,e,rfl⟩ F.entry_list_pop (F.args_list_pop_2 _ _)
  (MeetsSeq.list_pop_at l its.toArray n i t k w (fitsIndex_both h1 h2) (by rw[List.size_toArray,<-hl];exact hk) (by rw[<-Array.getElem?_toList];exact hw) (by rw[List.size_toArray];lia)) ⟨e, ?_⟩
 refine⟨y,_,I.lset (its':=its.eraseIdx k) hH e ?_ (r.eraseIdx k) ?_,rw',q⟩
 ·show its.toArray.eraseIdxIfInBounds k=(its.eraseIdx k).toArray
  rw[List.eraseIdxIfInBounds_toArray]
 ·have:=z5s xs k
  lia
noncomputable def z6n:V->List V->Hp->VK->Prop:=fun x vs H Q=> ∃l xs,x= .ref l/\vs=[]/\H l=some (.lst xs)/\Q .non (upd H l (.lst xs.reverse))
theorem z7b:MtM X "list.reverse" z6n:=by
 intro pins s σ H x vs v us Q I rx rv h
 obtain⟨l,xs,rfl,rfl,hH,q⟩:=h
 cases rx
 have hus:=rv.zero
 subst hus
 obtain⟨z,its,n,r,hl,e⟩:=I.lstM hH
 refine call_meets F.slot_list_reverse ⟨_,e,rfl⟩ F.entry_list_reverse (F.args_list_reverse_1 _) (AutoSeq1.list_reverse_list_0 l its.toArray n (by rw[List.size_toArray];lia)) ⟨e, ?_⟩
 refine⟨.non,_,I.lset (its':=its.reverse) hH e (by simp) r.reverse ?_,rfl,q⟩
 rw[List.length_reverse]
 lia
noncomputable def rCat:R2:=fun x y H Q=> ∃l b xs zs,x= .ref l/\y= .ref b/\H l=some (.lst xs)/\H b=some (.lst zs)/\xs.length+zs.length<=sizeLine/\∀p,H p=none->Q (.ref p) (upd H p (.lst (xs++zs)))
theorem zcK:OpR X (binaryOp .Add) rCat:=by
 intro pins s σ H x y v u Q I rx ry h
 obtain⟨l,b,xs,zs,rfl,rfl,hH,hB,hz,q⟩:=h
 cases rx
 cases ry
 obtain⟨z,its,n,r,hl,e⟩:=I.lstM hH
 obtain⟨z2,its2,n2,r2,hl2,e2⟩:=I.lstM hB
 refine PySem.P.add_list e e2 ?_ (by rw[List.size_toArray,List.size_toArray];lia)
 have ea:its.toArray++its2.toArray=(its++its2).toArray:=by simp
 rw[ea]
 exact⟨.ref _,_,I.lnew (t':=s.toks) (r.append r2) (by rw[List.length_append];lia),rfl,q _ I.fresh⟩
noncomputable def rRep:R2:=fun x y H Q=> ∃l k xs,x= .ref l/\y= .int k/\H l=some (.lst xs)/\-(2^63)<=k/\k<2^63/\xs.length*k.toNat<=sizeLine/\
 ∀p,H p=none->Q (.ref p) (upd H p (.lst (List.replicate k.toNat xs).flatten))
theorem z5T{α:Type}(xs:List α)(k:Nat):(List.replicate k xs).flatten.length=k*xs.length:=by
 induction k with
 |zero=>simp
 |succ k ih=>rw[List.replicate_succ,List.flatten_cons,List.length_append,ih,Nat.succ_mul,Nat.add_comm]
theorem zcL:OpR X (binaryOp .Mult) rRep:=by
 intro pins s σ H x y v u Q I rx ry h
 obtain⟨l,k,xs,rfl,rfl,hH,h1,h2,hz,q⟩:=h
 cases rx
 obtain⟨t,rfl⟩:=ry
 obtain⟨z,its,n,r,hl,e⟩:=I.lstM hH
 have hlen:its.toArray.size*k.toNat<=sizeLine:=by rw[List.size_toArray,<-hl];exact hz
 have hcap: ¬its.toArray.size*k.toNat>(2^63 - 1)/8:=by
  have:(sizeLine:Nat)<=(2^63 - 1)/8:=by decide
  lia
 have hfit: ¬(!Builtin.List.listFitsIndex k)=true:=by
  rw[fitsIndex_both h1 h2]
  exact Bool.false_ne_true
 have hlong: ¬Builtin.List.listTooLong (its.toArray.size*k.toNat)=true:=by
  rw[z6m hlen]
  exact Bool.false_ne_true
 have hnew:List.foldl (fun x1 x2=>x1++x2) #[] (List.replicate (if its.toArray.isEmpty=true then 0 else k.toNat) its.toArray)=(List.replicate k.toNat its).flatten.toArray:=by
  have f0: ∀m:Nat,List.foldl (fun x1 x2=>x1++x2) #[] (List.replicate m its.toArray)=(List.replicate m its).flatten.toArray:=fun m=>by
   have:=z3y its m []
   rw[List.nil_append] at this
   exact this
  rw[f0]
  cases its with
  |nil=>simp
  |cons a r'=>rw[if_neg (by simp)]
 refine wpAny_binaryOp_repeat_ref (T:= "list") (U:= "int") (by decide) ⟨_,e,rfl⟩ (fun s'=>typeIs_int s' k t) noFill_list_mul F.fills_int_mul F.slot_int_rmul repeat_list F.slot_int_index.lookup
  (call_meets F.slot_int_rmul (typeIs_int s k t) F.entry_int_rmul (F.args_int_rmul_2 _ _) (int___rmul___int_list k t l its.toArray n)
   ⟨e,rfl,⟨_,e,rfl⟩,call_meets F.slot_list_mul ⟨_,e,rfl⟩ F.entry_list_mul (F.args_list_mul_2 _ _) (AutoListH.list___mul___list_int_3 l its.toArray n k t hfit hcap hlong) ⟨e, ?_⟩⟩)
 rw[hnew]
 exact⟨.ref _,_,I.lnew (t':=s.toks) (r.rep k.toNat) (by rw[z5T,Nat.mul_comm];exact hz),rfl,q _ I.fresh⟩
end
section
variable{prog:Program}{w:World}{A:Around}{E:Value->Shared->Prop}{s:Shared}
set_option maxRecDepth 100000 in
end
structure M1(X:Cx)(o:Expr)(m:Str)(apos:Pos)(e:Expr)(cpos:Pos):Prop where
 base:attributeBase o m X.env (eval o X.env)=eval o X.env
 few:((backTo cpos (starEach [e] X.env)).all (fun x=> !x.1)&&(backToKw cpos (keywordEach [] X.env)).all (fun x=>x.1.isSome)
  &&decide (([e]:List Expr).length+([]:List Keyword).length+(if([]:List Keyword).isEmpty then 0 else 1)<30))=true
 line:(apos.endLine==cpos.line)=true
 trees:backTo cpos (starEach [e] X.env)=[(false,eval e X.env)]
structure M2(X:Cx)(o:Expr)(m:Str)(apos:Pos)(e f:Expr)(cpos:Pos):Prop where
 base:attributeBase o m X.env (eval o X.env)=eval o X.env
 few:((backTo cpos (starEach [e,f] X.env)).all (fun x=> !x.1)&&(backToKw cpos (keywordEach [] X.env)).all (fun x=>x.1.isSome)
  &&decide (([e,f]:List Expr).length+([]:List Keyword).length+(if([]:List Keyword).isEmpty then 0 else 1)<30))=true
 line:(apos.endLine==cpos.line)=true
 trees:backTo cpos (starEach [e,f] X.env)=[(false,eval e X.env),(false,eval f X.env)]
end L2
namespace Att
open PySem PySem.W PySem.Calls PyProof.Rows
theorem z3z{P:Params}{h:Heap}: ∀(ns:List Int) (vs:List Value),WellAll P h vs (ns.map WData.int)->IntsAre vs ns:=by
 intro ns
 induction ns with
 |nil=>
  intro vs w
  rw[List.map_nil] at w
  cases w
  exact .nil
 |cons n ns ih=>
  intro vs w
  rw[List.map_cons] at w
  cases w with
  |cons a b=>
   cases a
   exact .cons _ _ (ih _ b)
theorem z7V{l:OpenLaw}{n:Nat}(hn:l.most=some n){P:Params}{h:Heap}{args:List WData}{vals:List Value}
 (hpre:l.row.toRowW.claim.pre args=true) (hwl:WellAll P h vals args):
 ∃a vs ns,vals=[Value.ref a]/\args=[WData.list (ns.map WData.int)]/\h.get? a=some {cls:= .type "list",data:= .seq vs.toArray}/\IntsAre vs ns/\ns.length<=n:=by
 have hsh:WShape.hasAll [] args [.list .int]=true:=(pre_splitW hpre).1
 have hc:l.pre.holds [] {args:=args}=true:=(pre_splitW hpre).2
 obtain⟨d,r,rfl,h1,h2⟩:=hasAllW_cons hsh
 obtain rfl:=hasAllW_nil h2
 obtain⟨xs,rfl,h3⟩:=hasW_list h1
 obtain⟨ns,rfl⟩:=items_int h3
 have hlen:ns.length<=n:=by
  unfold OpenLaw.pre at hc
  have h4:(WTm.not (.lt (.lit (.int (n:Int))) (.len (.arg 0)))).holds [] {args:=[.list (ns.map .int)]}=true:=by
   have h4:=(holds_andW hc).1
   rw[hn] at h4
   exact h4
  have h5:=condW_of h4 (w_not (w_lt w_lit (w_len_list (w_arg rfl))))
  rw[List.length_map] at h5
  refine Nat.le_of_not_lt fun q=> ?_
  have q':(n:Int)<((ns.length:Nat):Int):=by lia
  first
   |(rw[decide_eq_true q'] at h5;exact absurd h5 (by decide))
   |(simp at h5;lia)
 cases hwl with
 |cons w1 w2=>
  cases w2
  cases w1 with
  |list ho hall=>exact⟨_,_,ns,rfl,rfl,ho,z3z ns _ hall,hlen⟩
theorem z7W(l:OpenLaw)(args:List WData):l.row.toRowW.claim.post args (.bool true) args=true:=
 postW_of (r:=l.row.toRowW) (X:=(true==true))
  (show WShape.has [] (.bool true) .bool=true by first|rfl|decide|simp[WShape.has,WShape.arms,WShape.armsAll])
  (show(WTm.eq .res (.lit (.bool true))).value [] {args:=args,res:=some (.bool true),after:=args}=some (.bool (true==true)) from w_eq_bool (w_res rfl) w_lit) rfl
theorem attach_call{l:OpenLaw}{n:Nat}{q:Program}{loose:List Str}{XP:(Str->Option Value)->Heap->Prop}{YP:World->Heap->Prop}{d:DefRec}
 (hn:l.most=some n) (hdf:d.params.defaults=[])
 (call: ∀(w:World) (s₀ s₁:Shared) (mg mb:Str->Option Value) (fa:Addr) (o:Obj) (pm cd doc:Value) (a:Addr) (vs:List Value) (ns:List Int),
  Ground q loose [] XP w s₀ mg mb s₁.heap->YP w s₁.heap->
  s₁.heap.get? fa=some o->o.data= .func (docDef d.name d.params d.body d.scope pm cd doc)->s₁.heap.CodeRec cd d.name->mg d.name=some (.ref fa)->
  s₁.heap.get? a=some {cls:= .type "list",data:= .seq vs.toArray}->IntsAre vs ns->ns.length<=n->s₁.gens= #[]->
  codeAny (model l.prog w) callerA (.call (.ref fa) ⟨[.ref a],[]⟩) (fun r s'=>r= .ok (.ret (.bool true))/\OldK s₁.heap s'.heap/\s'.os=s₁.os/\AllBare s'.gens) s₁):
 WalkO q loose XP YP l.row.toRowW d [] (fun f vs=>PySem.call f vs):=by
 intro w s₀ s₁ mg mb G Y fa o pm cd doc dV kV ho hd hcd hD hmg hg args vals as hpre hlay hrd hwl hlo
 obtain rfl:dV= .none:=Dflts.none hD hdf
 obtain rfl:kV= .none:=Dflts.noKw hD
 obtain⟨a,vs,ns,rfl,rfl,hobj,hints,hlen⟩:=z7V hn hpre hwl
 refine enter_call (codeAny_mono (call w s₀ s₁ mg mb fa o pm cd doc a vs ns G Y ho (fd_plain hd) hcd hmg hobj hints hlen hg) fun r s' hq=> ?_)
 obtain⟨rfl,h2,h3,h4⟩:=hq
 exact⟨.inl ⟨.bool true, .bool true,[],rfl,fun _=>rfl, .bool true,z7W l _,fun _=>⟨List.Pairwise.nil,fun _ hm=>(nomatch hm)⟩⟩,h2,h3,h4⟩
end Att
namespace L2
open PySem PySem.Spec PyProof.Rows
theorem z5u: ∀{vs:List Value} {ns:List Int},IntsAre vs ns->Vals (ns.map V.int) vs
 |_,_, .nil=> .nil
 |_,_, .cons n t h=> .cons ⟨t,rfl⟩ (z5u h)
noncomputable def Only(H:Hp):Prop:= ∀b,H b=none\/∃o xs,H b=some (.frz o (.lst xs))
theorem z9i{P:Program}{w:World}{K:W.Frag}{mg mb:Str->Option Value}{CX:CXT}{k:Nat}{fa a:Addr}{fd:FuncData}{x:Str}{sp:Sp}{s₁:Shared}{vs:List Value}{ns:List Int}
 (KX:K.In s₁.heap) (hns:s₁.heap.Ns mainGlobals mg) (hb:s₁.heap.Ns builtinsNs mb) (hbb: ∀x:Str,x≠ "__name__" ->mb x=bootBuiltins x) (hlim:s₁.heap.NoLimit) (hg:s₁.gens= #[])
 (ha:s₁.heap.get? a=some {cls:= .type "list",data:= .seq vs.toArray}) (hi:IntsAre vs ns) (hl:ns.length<=sizeLine) (hr:Room k callerA)
 (F: ∀base:Heap,K.In base->base.Ns mainGlobals mg->FnOk P w K mg base CX k fa fd [x] sp) (hbind: ∀(s:Shared) (u:Value),BindsTo s fd ⟨[u],[]⟩ [(x,u)])
 (hsp: ∀H:Hp,Only H->SqL K H a (ns.map V.int)->sp [.ref a] H (fun v _=>v= .bl true) fun _ _ _=>False)
 (hCX: ∀H e s',CX [] H s₁ (fun _ _ _=>False) e s'->False):
 codeAny (model P w) callerA (.call (.ref fa) ⟨[.ref a],[]⟩) (fun r s'=>r= .ok (.ret (.bool true))/\OldK s₁.heap s'.heap/\s'.os=s₁.os/\AllBare s'.gens) s₁:=by
 have rv:=z5u hi
 have lenV:=hi.length
 have core: ∀H:Hp,Only H->SqL K H a (ns.map V.int)->HOk P w H s₁.heap->(∀b,H b≠none->b=a)->(H a≠none->K.lookup a=none)->
  codeAny (model P w) callerA (.call (.ref fa) ⟨[.ref a],[]⟩) (fun r s'=>r= .ok (.ret (.bool true))/\OldK s₁.heap s'.heap/\s'.os=s₁.os/\AllBare s'.gens) s₁:=by
  intro H hO hS hok hA hK
  have base_of: ∀{b:Addr} {o:Obj},s₁.heap.get? b=some o->H b=none->(hidT s₁.heap H).get? b=some o:=fun e n=>z91 e n
  have noA: ∀{b:Addr} {o:Obj} {es:Array DictEntry} {ep:Nat},s₁.heap.get? b=some o->o.data= .dict es ep->H b=none:=fun{b o es ep} e d=>by
   cases q:H b with
   |none=>rfl
   |some u=>
    have e':b=a:=hA b (by rw[q];simp)
    subst e'
    rw[ha] at e;cases e
    have d':Data.seq vs.toArray _=Data.dict es ep:=d
    cases d'
  have nsK: ∀{b:Addr} {m:Str->Option Value},s₁.heap.Ns b m->(hidT s₁.heap H).Ns b m:=fun{b m} ⟨o,es,ep,e,d,r⟩=>⟨o,es,ep,base_of e (noA e d),d,r⟩
  have hKb:K.In (hidT s₁.heap H):=fun b o e=>base_of (KX b o e) (by
   cases q:H b with
   |none=>rfl
   |some u=>
    have e':b=a:=hA b (by rw[q];simp)
    subst e'
    rw[hK (by rw[q];simp)] at e;cases e)
  have hM:Mod K mg (hidT s₁.heap H):=⟨hKb,nsK hns,⟨mb,nsK hb,hbb⟩,let⟨mc,h1,h2⟩:=hlim;⟨mc,nsK h1,h2⟩⟩
  have e0:Env0 P w K mg (hidT s₁.heap H) callerA [] s₁ H:=⟨rfl,hM,fun b o e=>zav e,Nat.le_of_eq (z7C _ _),trivial,fun b hb=>absurd (show b∈([]:List Addr) from hb) (by simp),hok, .of_eq hg⟩
  refine codeAny_mono ((F _ hKb (nsK hns)).run callerA [] s₁ H ⟨[.ref a],[]⟩ [.ref a] [.ref a] _ _ hr e0 (hbind s₁ (.ref a)) (.cons rfl .nil) (hsp H hO hS)) fun r s' h=> ?_
  cases r with
  |error e=>exact(hCX H e s' h).elim
  |ok fl=>
   cases fl with
   |next=>exact False.elim h
   |brk=>exact False.elim h
   |cont=>exact False.elim h
   |ret u=>
    obtain⟨v,H',os,bare,un,hok',r',q⟩:=h
    have q':v= .bl true:=q
    subst q'
    obtain rfl:u=Value.bool true:=r'
    refine⟨rfl,OldK.of_keep fun b o e=> ?_,os,bare⟩
    cases q:H b with
    |none=>exact un.keep b o e q (by intro z;exact absurd (show b∈([]:List Addr) from z) (by simp)) (by simp)
    |some u=>
     rcases hO b with z|⟨ob,xs,z⟩
     ·rw[q] at z;cases z
     ·have z2:=un.frzs b ob _ z
      obtain⟨e1,_⟩:=hok b _ z
      obtain⟨e2,_⟩:=hok' b _ z2
      rw[e] at e1;cases e1
      exact e2
 cases hk:K.lookup a with
 |some o=>
  have e:=KX a o hk
  rw[ha] at e
  cases e
  refine core (fun _=>none) (fun _=> .inl rfl) (.inr ⟨_,vs.toArray,_,hk,rfl,rfl,rfl,by rw[List.size_toArray,lenV];exact hl,by simpa using rv⟩) (fun b u z=>by have z':(none:Option HO)=some u:=z;cases z') (fun b z=>absurd rfl z) fun z=>absurd rfl z
 |none=>
  refine core (fun b=>if b=a then some (.frz {cls:= .type "list",data:= .seq vs.toArray} (.lst (ns.map V.int))) else none) (fun b=> ?_) (.inl (.inr ⟨{cls:= .type "list",data:= .seq vs.toArray},if_pos rfl⟩)) (fun b u z=> ?_) (fun b z=> ?_) fun _=>hk
  ·by_cases hb:b=a
   ·exact .inr ⟨_,_,if_pos hb⟩
   ·exact .inl (if_neg hb)
  ·by_cases hb:b=a
   ·have z':=(if_pos hb).symm.trans z
    cases z'
    subst hb
    exact⟨ha,by rw[List.length_map];exact hl,vs,_,rv,ha⟩
   ·have z':=(if_neg hb).symm.trans z
    cases z'
  ·by_cases hb:b=a
   ·exact hb
   ·exact absurd (if_neg hb) z
theorem zaV{l:W.OpenLaw}{n k:Nat}{q:Program}{loose:List Str}{XP:(Str->Option Value)->Heap->Prop}{YP:World->Heap->Prop}{d:DefRec}{K:Params->W.Frag}{CX:World->CXT}{sp:World->Sp}{x:Str}
 (hn:l.most=some n) (hn2:n<=sizeLine) (hdf:d.params.defaults=[]) (hr:Room k callerA)
 (hY: ∀(w:World) (h:Heap),YP w h->(K w.params).In h)
 (F: ∀(w:World) (mg:Str->Option Value) (fa:Addr) (h:Heap),(K w.params).In h->h.Ns mainGlobals mg->mg d.name=some (.ref fa)->
  ∃fd:FuncData,(∀(s:Shared) (u:Value),BindsTo s fd ⟨[u],[]⟩ [(x,u)])/\
   ∀base:Heap,(K w.params).In base->base.Ns mainGlobals mg->FnOk l.prog w (K w.params) mg base (CX w) k fa fd [x] (sp w))
 (hsp: ∀(w:World) (H:Hp) (a:Addr) (ns:List Int),ns.length<=n->Only H->SqL (K w.params) H a (ns.map V.int)->sp w [.ref a] H (fun v _=>v= .bl true) fun _ _ _=>False)
 (hCX: ∀(w:World) (H:Hp) (s:Shared) (e:Value) (s':Shared),CX w [] H s (fun _ _ _=>False) e s'->False):
 W.WalkO q loose XP YP l.row.toRowW d [] (fun f vs=>PySem.call f vs):=by
 refine Att.attach_call hn hdf fun w s₀ s₁ mg mb fa o pm cd doc a vs ns G Y ho hd hcd hmg hobj hints hlen hg=> ?_
 have KX:=hY w _ Y
 obtain⟨fd,hb,hF⟩:=F w mg fa _ KX G.T.g hmg
 exact z9i KX G.T.g G.T.b G.T.builtins G.T.nolimit hg hobj hints (Nat.le_trans hlen hn2) hr hF hb (fun H hO hS=>hsp w H a ns hlen hO hS) fun H e s'=>hCX w H s₁ e s'
noncomputable def z1y(s:Stmt):Arguments:=match s with
 | .FunctionDef _ a _ _ _ _ _ _ _ _=>a
 |_=>{posonlyargs:=[],args:=[],vararg:=none,kwonlyargs:=[],kw_defaults:=[],kwarg:=none,defaults:=[]}
noncomputable def z0p(s:Stmt):List Stmt:=match s with
 | .FunctionDef _ _ b _ _ _ _ _ _ _=>b
 |_=>[]
noncomputable def z00(s:Stmt):Scope:=match s with
 | .FunctionDef _ _ _ _ _ _ sc _ _ _=>sc
 |_=>{kind:= .function,names:=[],isGenerator:=false,isCoroutine:=false}
noncomputable abbrev CX0:CXT:=fun _ _ _ _ _ _=>False
noncomputable abbrev E0:XK:=fun _ _ _=>False
theorem z1b{X:Cx}:z0G CX0 X E0:=fun _ _ _ _ _ _ _ h=>h.elim
structure Fun(K:W.Frag)(x qual:Str)(st:Stmt)(f:Addr)(fd:FuncData):Prop where
 ex: ∃(oc:Value) (od:Option Addr) (kV doc pm:Value) (an:Option Addr) (cdv ct:Value) (osl:Array (Option Value)),
  fd=W.fnOf x qual (z1y st) (z0p st) (z00 st) .none kV doc pm an cdv ct/\K.lookup f=some ⟨oc,od, .func fd,osl⟩/\W.codeIn K cdv qual=true
 kp:W.keepIn K (.ref f)=true
section
variable{P:Program}{w:World}{K:W.Frag}{mg:Str->Option Value}{base:Heap}
theorem Fun.ok{x qual:Str}{st:Stmt}{f:Addr}{fd:FuncData}{N ps:List Str}{k:Nat}{sp:Sp}(F:Fun K x qual st f fd)(S:z05 N ps (z00 st))(len: ∀vs H Q E,sp vs H Q E->vs.length=ps.length)
 (hbody: ∀(cdv:Value) (A:Around) (outer:List Env) (s:Shared) (H:Hp) (vs:List V) (Q:VK) (E:XK),Room k (A.deeper (envOfC qual (z00 st) s.heap.objs.size f cdv))->sp vs H Q E->
  ∃t,PSs (cxOf CX0 P w K mg base N qual (z00 st) f cdv A outer s H E).nox (z0p st) t/\t {nx:=fun _ H'=>Q .non H',rt:=Q} (z33 N vs) H):FnOk P w K mg base CX0 (k+1) f fd ps sp:=by
 obtain⟨oc,od,kV,doc,pm,an,cdv,ct,osl,rfl,lk,hcd⟩:=F.ex
 refine zcF lk hcd S len fun A outer s H vs Q E hr hsp=> ?_
 obtain⟨t,h,q⟩:=hbody cdv A outer s H vs Q E hr hsp
 exact⟨t,h.nox,q⟩
theorem Fun.binds{x qual:Str}{st:Stmt}{f:Addr}{fd:FuncData}{ps:List Str}(F:Fun K x qual st f fd)
 (h: ∀(kV doc pm:Value) (an:Option Addr) (cdv ct:Value) (us:List Value),us.length=ps.length->bindArgs (W.fnOf x qual (z1y st) (z0p st) (z00 st) .none kV doc pm an cdv ct) ⟨us,[]⟩=pure (ps.zip us)):z0U K fd ps []:=by
 obtain⟨oc,od,kV,doc,pm,an,cdv,ct,osl,rfl,lk,hcd⟩:=F.ex
 exact .all (h kV doc pm an cdv ct)
theorem za8{x qual:Str}{st:Stmt}{f:Addr}{oc:Value}{od an:Option Addr}{osl:Array (Option Value)}{kV doc pm cdv ct:Value}(l:K.lookup f=some ⟨oc,od, .func (W.fnOf x qual (z1y st) (z0p st) (z00 st) .none kV doc pm an cdv ct),osl⟩)
 (c:W.codeIn K cdv qual=true) (k:W.keepIn K (.ref f)=true):Fun K x qual st f (W.fnOf x qual (z1y st) (z0p st) (z00 st) .none kV doc pm an cdv ct):=⟨⟨oc,od,kV,doc,pm,an,cdv,ct,osl,rfl,l,c⟩,k⟩
end
section
variable{X:Cx}
theorem pv(i:Nat){x:Str}{pos:Pos}(hN:X.N[i]? =some x:=by rfl)(hv:Vis X.env.scope x:=by first|exact Or.inl rfl|exact Or.inr (Or.inl rfl)|exact Or.inr (Or.inr rfl))(hd:(x==("__debug__" :Str))=false:=by decide)
 (hcd:(x==("__classdict__" :Str))=false:=by decide):PE X (.Name x pos) (tVar i):=zce hN hv hd hcd
end
noncomputable def Same(H H':Hp):Prop:= ∀b o,H b=some o->H' b=some o
theorem Same.refl(H:Hp):Same H H:=fun _ _ h=>h
theorem Same.seq{K:W.Frag}{H H':Hp}{a:Addr}{xs:List V}(e:Same H H')(h:SqL K H a xs):SqL K H' a xs:=by
 rcases h with(h|⟨o,h⟩)|h
 ·exact .inl (.inl (e _ _ h))
 ·exact .inl (.inr ⟨o,e _ _ h⟩)
 ·exact .inr h
end L2
set_option maxHeartbeats 4000000
namespace L2
open PySem PySem.Spec PyProof.Rows
mutual
noncomputable def Dp(K:W.Frag)(H:Hp):PyData->V->Prop
 | .none,v=>v= .non
 | .bool b,v=>v= .bl b
 | .int i,v=>v= .int i
 | .str x,v=>v= .str x
 | .list ds,v=> ∃a xs,v= .ref a/\SqL K H a xs/\DpAll K H ds xs
 | .tuple ds,v=> ∃a xs,v= .ref a/\SqT K H a xs/\DpAll K H ds xs
 | .dict _,_=>False
noncomputable def DpAll(K:W.Frag)(H:Hp):List PyData->List V->Prop
 |[],xs=>xs=[]
 |d::ds,xs=> ∃x r,xs=x::r/\Dp K H d x/\DpAll K H ds r
end
section
variable{X:Cx}{pins:List (Addr×Obj)}{σ:St}{H:Hp}{s:Shared}
mutual
theorem Dp.reads(I:Inv X pins σ H s): ∀(d:PyData) (v:V) (u:Value),Dp X.K H d v->RelV v u->∃as,Reads s.heap u d as
 | .none,v,u,h,r=>by
  simp only[Dp] at h;subst h;cases r;exact⟨_, .none⟩
 | .bool b,v,u,h,r=>by
  simp only[Dp] at h;subst h;cases r;exact⟨_, .bool b⟩
 | .int i,v,u,h,r=>by
  simp only[Dp] at h;subst h;obtain⟨t,rfl⟩:=r;exact⟨_, .int i t⟩
 | .str x,v,u,h,r=>by
  simp only[Dp] at h;subst h;obtain⟨t,rfl⟩:=r;exact⟨_, .str x t⟩
 | .list ds,v,u,h,r=>by
  simp only[Dp] at h
  obtain⟨a,xs,rfl,hs,hd⟩:=h
  cases r
  obtain⟨its,rv,⟨o,n,e,c,_,dd⟩,_⟩:=I.list hs
  obtain⟨as,ra⟩:=DpAll.reads I ds xs its hd rv
  exact⟨_, .list e c dd (by simpa using ra)⟩
 | .tuple ds,v,u,h,r=>by
  simp only[Dp] at h
  obtain⟨a,xs,rfl,hs,hd⟩:=h
  cases r
  obtain⟨its,rv,⟨o,e,c,n,dd⟩,_⟩:=I.tuple hs
  obtain⟨as,ra⟩:=DpAll.reads I ds xs its hd rv
  exact⟨_, .tuple e c dd (by simpa using ra)⟩
 | .dict _,v,u,h,r=>by
  simp only[Dp] at h
theorem DpAll.reads(I:Inv X pins σ H s): ∀(ds:List PyData) (vs:List V) (us:List Value),DpAll X.K H ds vs->Vals vs us->∃as,ReadsAll s.heap us ds as
 |[],vs,us,h,r=>by
  simp only[DpAll] at h;subst h
  cases r
  exact⟨_, .nil⟩
 |d::ds,vs,us,h,r=>by
  simp only[DpAll] at h
  obtain⟨x,q,rfl,h1,h2⟩:=h
  cases r with
  |cons r1 r2=>
   obtain⟨as,ra⟩:=Dp.reads I d _ _ h1 r1
   obtain⟨bs,rb⟩:=DpAll.reads I ds _ _ h2 r2
   exact⟨_, .cons ra rb⟩
end
noncomputable def rEqD(K:W.Frag)(neg:Bool):R2:=fun x y H Q=> ∃d e,Dp K H d x/\Dp K H e y/\d.canLay0=true/\e.canLay0=true/\min d.depth e.depth<=60/\
 Q (.bl (if neg then !PyData.eqv d e else PyData.eqv d e)) H
theorem zcM(hu:X.A.units+64<cLine):OpR X (compareOp .Eq) (rEqD X.K false):=by
 intro pins s σ H x y v u Q I rx ry h
 obtain⟨d,e,hx,hy,c1,c2,hd,q⟩:=h
 obtain⟨as,ra⟩:=hx.reads I _ _ _ rx
 obtain⟨bs,rb⟩:=hy.reads I _ _ _ ry
 exact SeqAt.compareEq_reads ra rb c1 c2 (by lia) ⟨.bl _,H,I,rfl,q⟩
theorem zcN(hu:X.A.units+64<cLine):OpR X (compareOp .NotEq) (rEqD X.K true):=by
 intro pins s σ H x y v u Q I rx ry h
 obtain⟨d,e,hx,hy,c1,c2,hd,q⟩:=h
 obtain⟨as,ra⟩:=hx.reads I _ _ _ rx
 obtain⟨bs,rb⟩:=hy.reads I _ _ _ ry
 exact SeqAt.compareNe_reads ra rb c1 c2 (by lia) ⟨.bl _,H,I,rfl,q⟩
noncomputable def isiV(K:W.Frag)(H:Hp)(T:String)(r:Bool):V->Prop
 | .non=>r=false
 | .bl _=>r=(T== "int" ||T== "bool")
 | .int _=>r=(T== "int")
 | .str _=>r=(T== "str")
 | .ref a=>(∃xs,SqT K H a xs/\r=(T== "tuple"))\/(∃xs,SqL K H a xs/\r=(T== "list"))
 |_=>False
noncomputable def rIsi(K:W.Frag):List V->Hp->VK->Prop:=fun xs H Q=> ∃x T r,xs=[x, .ty T]/\(T= "int" \/T= "bool" \/T= "tuple" \/T= "list" \/T= "str")/\isiV K H T r x/\Q (.bl r) H
theorem z9j:CallR X (.builtin "isinstance") (rIsi X.K):=by
 intro pins s σ H xs us Q I r h
 obtain⟨x,T,b,rfl,hT,hx,q⟩:=h
 obtain⟨u,u',rfl,ru,ru'⟩:=z97 r
 cases ru'
 have fin: ∀t,EP X pins σ Q (.bool b) {s with toks:=t}:=fun t=>⟨.bl b,H,I.tok t,rfl,q⟩
 have fin0:EP X pins σ Q (.bool b) s:=⟨.bl b,H,I,rfl,q⟩
 cases x with
 |non=>
  cases ru
  have hx:b=false:=hx
  subst hx
  rcases hT with rfl|rfl|rfl|rfl|rfl
  ·exact IsiPair.NoneType_int (fin _)
  ·exact IsiPair.NoneType_bool (fin _)
  ·exact IsiPair.NoneType_tuple (fin _)
  ·exact IsiPair.NoneType_list (fin _)
  ·exact IsiPair.NoneType_str (fin _)
 |bl k=>
  cases ru
  rcases hT with rfl|rfl|rfl|rfl|rfl
  ·have hx:b=true:=hx
   subst hx;exact IsiPair.bool_int fin0
  ·have hx:b=true:=hx
   subst hx;exact IsiPair.bool_bool fin0
  ·have hx:b=false:=hx
   subst hx;exact IsiPair.bool_tuple (fin _)
  ·have hx:b=false:=hx
   subst hx;exact IsiPair.bool_list (fin _)
  ·have hx:b=false:=hx
   subst hx;exact IsiPair.bool_str (fin _)
 |int k=>
  obtain⟨t,rfl⟩:=ru
  rcases hT with rfl|rfl|rfl|rfl|rfl
  ·have hx:b=true:=hx
   subst hx;exact IsiPair.int_int fin0
  ·have hx:b=false:=hx
   subst hx;exact IsiPair.int_bool (fin _)
  ·have hx:b=false:=hx
   subst hx;exact IsiPair.int_tuple (fin _)
  ·have hx:b=false:=hx
   subst hx;exact IsiPair.int_list (fin _)
  ·have hx:b=false:=hx
   subst hx;exact IsiPair.int_str (fin _)
 |str k=>
  obtain⟨t,rfl⟩:=ru
  rcases hT with rfl|rfl|rfl|rfl|rfl
  ·have hx:b=false:=hx
   subst hx;exact IsiPair.str_int (fin _)
  ·have hx:b=false:=hx
   subst hx;exact IsiPair.str_bool (fin _)
  ·have hx:b=false:=hx
   subst hx;exact IsiPair.str_tuple (fin _)
  ·have hx:b=false:=hx
   subst hx;exact IsiPair.str_list (fin _)
  ·have hx:b=true:=hx
   subst hx;exact IsiPair.str_str fin0
 |ref a=>
  cases ru
  rcases hx with⟨ys,hs,hb⟩|⟨ys,hs,hb⟩
  ·obtain⟨its,rv,⟨o,e,c,n,dd⟩,_⟩:=I.tuple hs
   rcases hT with rfl|rfl|rfl|rfl|rfl
   ·have hx:b=false:=hb
    subst hx;exact IsiPair.tuple_int e c (fin _)
   ·have hx:b=false:=hb
    subst hx;exact IsiPair.tuple_bool e c (fin _)
   ·have hx:b=true:=hb
    subst hx;exact IsiPair.tuple_tuple e c fin0
   ·have hx:b=false:=hb
    subst hx;exact IsiPair.tuple_list e c (fin _)
   ·have hx:b=false:=hb
    subst hx;exact IsiPair.tuple_str e c (fin _)
  ·obtain⟨its,rv,⟨o,n,e,c,_,dd⟩,_⟩:=I.list hs
   rcases hT with rfl|rfl|rfl|rfl|rfl
   ·have hx:b=false:=hb
    subst hx;exact IsiPair.list_int e c (fin _)
   ·have hx:b=false:=hb
    subst hx;exact IsiPair.list_bool e c (fin _)
   ·have hx:b=false:=hb
    subst hx;exact IsiPair.list_tuple e c (fin _)
   ·have hx:b=true:=hb
    subst hx;exact IsiPair.list_list e c fin0
   ·have hx:b=false:=hb
    subst hx;exact IsiPair.list_str e c (fin _)
 |byt _=>exact hx.elim
 |flt _=>exact hx.elim
 |ty _=>exact hx.elim
theorem z3A: ∀{bs:List Bool} {us:List Value},Vals (bs.map V.bl) us->LSm.BoolsAre us bs
 |[],_, .nil=> .nil
 |b::bs,_, .cons r t=>by
  cases r
  exact .cons b (z3A t)
theorem z7X(hc:X.A.handled=none):CallR X (.builtin "all") (fun xs H Q=> ∃(p:Addr) (bs:List Bool),xs=[.ref p]/\SqL X.K H p (bs.map V.bl)/\Q (.bl (bs.all id)) H):=by
 intro pins s σ H xs us Q I r h
 obtain⟨p,bs,rfl,hs,q⟩:=h
 obtain⟨u,rfl,ru⟩:=z73 r
 cases ru
 obtain⟨its,rv,pl,_⟩:=I.list hs
 have hb:=z3A rv
 have hl:=pl.isList
 have hlt:p<s.heap.objs.size:=by obtain⟨_,e,_⟩:=hl;exact Heap.lt_size e
 refine call_all_walk (wpAny_pyIter_list hl ?_)
 refine⟨s.heap.objs.size,[s.heap.objs.size,p],[s.heap.objs.size],its.toArray.size,_,_,fun i=>(bs[i]?).getD true,rfl,Walks.list (A:=X.A.in1) hc _ p (Nat.ne_of_lt hlt) its.toArray,
  ⟨⟨_,Heap.get?_push_size _ rfl,rfl,rfl⟩,hl.push _⟩,fun i v s' Q' E' hP hQ=> ?_,fun h' tk hk=> ?_⟩
 ·obtain⟨b,e,rfl⟩:=hb.get i v (by simpa using hP)
  simp only[e,Option.getD_some] at hQ
  exact wpAny_truthy_bool hQ
 ·have e:((List.range its.toArray.size).all fun i=>(bs[i]?).getD true)=bs.all id:=by
   rw[List.size_toArray,hb.length];exact LSm.range_all bs
  rw[e]
  exact⟨.bl _,H,I.kept (LSm.kept_iter hk),rfl,q⟩
end
end L2
namespace HT
open PySem PyProof.Rows
section
variable{prog:Program}{w:World}{A:Around}{E:Value->Shared->Prop}{s:Shared}
theorem getItem_tuple_whole{t sl:Addr}{items:Array Value}{vl vu:Value}{lo hi:Option Int}{Q:Value->Shared->Prop}(ht:IsTup s.heap t items)(hs:s.heap.IsSliceOf sl vl vu .none)(pl:IsPart vl lo)(pu:IsPart vu hi)
 (hw:sIx items.size 0 lo=0/\sIx items.size items.size hi=items.size) (h:Q (.ref t) s):wpAny (model prog w) A (getItem (.ref t) (.ref sl)) Q E s:=by
 obtain⟨os,hos,hcs,hds⟩:=id hs
 have hTs:s.TypeIs (.ref sl) "slice" :=⟨os,hos,hcs⟩
 unfold getItem
 try with_reducible refine wpAny_holding ?_
 first|refine wpAny_bind (wpAny_pure ?_)|skip
 refine wpAny_bind (wpAny_sequenceKey ht.typeIs (by decide) ?_)
 refine wpAny_bind (wpAny_callSpecial?_slot (name:=Str.ofString "__getitem__") ht.typeIs PyProof.Rows.slot_tuple_getitem
  (wpAny_call_entry PyProof.Rows.slot_tuple_getitem ht.typeIs entry_tuple_getitem ?_ (args_tuple_getitem _ _)))
 show wpAny _ _ (Builtin.Tuple.tupleItemsOf (.ref t)>>=_) _ _ s
 refine wpAny_bind (tupleItemsOf_ ht ?_)
 refine wpAny_bind (wpAny_typeOf hTs ?_)
 rw[if_pos (by decide)]
 refine wpAny_bind (z23 hs pl pu ?_)
 have hyes:((((sIx items.size 0 lo:Nat):Int)==0&&(1:Int)==1&&(sIx items.size items.size hi -sIx items.size 0 lo)==items.size)=true):=by
  rw[hw.1,hw.2]
  simp
 show wpAny _ _ (if(((sIx items.size 0 lo:Nat):Int)==0&&(1:Int)==1&&(sIx items.size items.size hi -sIx items.size 0 lo)==items.size)=true then _ else _) _ _ s
 rw[if_pos hyes]
 obtain⟨o,ho,hc,n,hd⟩:=id ht
 have ex:Builtin.Tuple.tupleIsExact (.ref t)=(typeOf (.ref t)>>=fun T=>pure (T== .type "tuple")):=rfl
 refine wpAny_bind (m:=Builtin.Tuple.tupleIsExact (.ref t)) ?_
 rw[ex]
 refine wpAny_bind (wpAny_typeOf ht.typeIs (wpAny_pure ?_))
 rw[if_pos (by decide)]
 exact wpAny_bind (wpAny_rule (wpAny_pure ⟨_,rfl,wpAny_pure h⟩))
end
end HT
namespace L2
open PySem PySem.Spec PyProof.Rows
section
variable{X:Cx}
theorem z7c{xs:List V}{lo hi:Option Int}(h:HT.sIx xs.length 0 lo=0/\HT.sIx xs.length xs.length hi=xs.length):cutV xs lo hi=xs:=by
 unfold cutV
 rw[h.1,h.2]
 simp
noncomputable def zcO(K:W.Frag):V->List V->Hp->VK->Prop:=fun x vs H Q=> ∃l b xs zs,x= .ref l/\vs=[.ref b]/\H l=some (.lst xs)/\(SqT K H b zs\/SqL K H b zs)/\xs.length+zs.length<=sizeLine/\Q .non (upd H l (.lst (xs++zs)))
theorem z7Y(l:Addr)(items:Array Value)(n:Nat)(b:Addr)(items2:Array Value)(n2:Nat)(dd2:Option Addr)(sl2:Array (Option Value))(hs0: ¬(!items.isEmpty&&Builtin.List.listTooLong (items.size+items2.size))=true)(hs1:items.size<=sizeLine)(hs2:items.size+items2.size<=sizeLine+1):
 Meets (Builtin.«list.extend» ⟨[.ref l, .ref b],[]⟩) (fun _ R s=>s.heap.get? l=some {cls:= .type "list",dict:=none,data:= .seq items n,slots:= #[]}/\s.heap.get? b=some {cls:= .type "tuple",dict:=dd2,data:= .seq items2 n2,slots:=sl2}/\R (.ok (.ret Value.none)) {s with heap:=s.heap.update l (Obj.mapSeq fun x=>x++items2),toks:=s.toks}):=
 .of_wp fun prog w A R s h=>by
  obtain⟨hp,g,d,tk,os⟩:=s;obtain⟨hl,hb,h⟩:=h;have f1:=AutoSeq1.idx_int;have f2:=AutoSeq1.sub_tuple_tuple;have f3:=AutoSeq1.sub_list_list;have f4:=AutoSeq1.sub_tuple_list;have f5:=AutoSeq1.sub_list_tuple
  have hz':(items++items2).size<=sizeLine+1:=by rw[Array.size_append];exact hs2
  wp_walk using(wpAny_updateSeq hl rfl (hz:=hs1) (_hz':=hz')),AutoSeq1.wpAny_loadPart' hl,AutoSeq1.wpAny_loadPart' hb;exact⟨_,rfl,h⟩
theorem z7Z(l:Addr)(items:Array Value)(n:Nat)(b:Addr)(items2:Array Value)(n2:Nat)(dd2:Option Addr)(sl2:Array (Option Value))(hs0: ¬(!items.isEmpty&&Builtin.List.listTooLong (items.size+items2.size))=true)(hs1:items.size<=sizeLine)(hs2:items.size+items2.size<=sizeLine+1):
 Meets (Builtin.«list.extend» ⟨[.ref l, .ref b],[]⟩) (fun _ R s=>s.heap.get? l=some {cls:= .type "list",dict:=none,data:= .seq items n,slots:= #[]}/\s.heap.get? b=some {cls:= .type "list",dict:=dd2,data:= .seq items2 n2,slots:=sl2}/\R (.ok (.ret Value.none)) {s with heap:=s.heap.update l (Obj.mapSeq fun x=>x++items2),toks:=s.toks}):=
 .of_wp fun prog w A R s h=>by
  obtain⟨hp,g,d,tk,os⟩:=s;obtain⟨hl,hb,h⟩:=h;have f1:=AutoSeq1.idx_int;have f2:=AutoSeq1.sub_tuple_tuple;have f3:=AutoSeq1.sub_list_list;have f4:=AutoSeq1.sub_tuple_list;have f5:=AutoSeq1.sub_list_tuple
  have hz':(items++items2).size<=sizeLine+1:=by rw[Array.size_append];exact hs2
  wp_walk using(wpAny_updateSeq hl rfl (hz:=hs1) (_hz':=hz')),AutoSeq1.wpAny_loadPart' hl,AutoSeq1.wpAny_loadPart' hb;exact⟨_,rfl,h⟩
theorem zaW:MtM X "list.extend" (zcO X.K):=by
 intro pins s σ H x vs v us Q I rx rv h
 obtain⟨l,b,xs,zs,rfl,rfl,hH,hB,hz,q⟩:=h
 cases rx
 obtain⟨u,rfl,ru⟩:=rv.one
 cases ru
 obtain⟨z,its,n,r,hl,e⟩:=I.lstM hH
 have key: ∃its2:List Value,Vals zs its2/\((∃dd2 n2 sl2,s.heap.get? b=some {cls:= .type "tuple",dict:=dd2,data:= .seq its2.toArray n2,slots:=sl2})\/(∃dd2 n2 sl2,s.heap.get? b=some {cls:= .type "list",dict:=dd2,data:= .seq its2.toArray n2,slots:=sl2})):=by
  rcases hB with hB|hB
  ·obtain⟨its2,r2,⟨⟨cls,dd,data,sl⟩,e2,c,n2,d2⟩,_⟩:=I.tuple hB
   simp only at c d2
   subst c d2
   exact⟨its2,r2, .inl ⟨_,_,_,e2⟩⟩
  ·obtain⟨its2,r2,⟨⟨cls,dd,data,sl⟩,n2,e2,c,_,d2⟩,_⟩:=I.list hB
   simp only at c d2
   subst c d2
   exact⟨its2,r2, .inr ⟨_,_,_,e2⟩⟩
 obtain⟨its2,r2,k⟩:=key
 have hl2:=r2.length
 have hsz:its.toArray.size+its2.toArray.size<=sizeLine:=by rw[List.size_toArray,List.size_toArray];lia
 have hlong: ¬(!its.toArray.isEmpty&&Builtin.List.listTooLong (its.toArray.size+its2.toArray.size))=true:=by
  rw[z6m hsz,Bool.and_false]
  exact Bool.false_ne_true
 have fin:EP X pins σ Q .none {s with heap:=s.heap.update l (Obj.mapSeq fun x=>x++its2.toArray),toks:=s.toks}:=by
  refine⟨.non,_,I.lset (its':=its++its2) hH e (by simp) (r.append r2) ?_,rfl,q⟩
  rw[List.length_append]
  lia
 rcases k with⟨dd2,n2,sl2,e2⟩|⟨dd2,n2,sl2,e2⟩
 ·exact call_meets F.slot_list_extend ⟨_,e,rfl⟩ F.entry_list_extend (F.args_list_extend_2 _ _) (z7Y l its.toArray n b its2.toArray n2 dd2 sl2 hlong (by rw[List.size_toArray];lia) (by lia)) ⟨e,e2,fin⟩
 ·exact call_meets F.slot_list_extend ⟨_,e,rfl⟩ F.entry_list_extend (F.args_list_extend_2 _ _) (z7Z l its.toArray n b its2.toArray n2 dd2 sl2 hlong (by rw[List.size_toArray];lia) (by lia)) ⟨e,e2,fin⟩
end
noncomputable def z2H(env:Env):List (Str×NameKind)->List (Str×Addr)->List (Str×Addr)
 |[],cs=>cs
 |(n,k)::r,cs=>z2H env r (if k== .free then(match env.cells.lookup n with|some a=>(n,a)::cs|none=>cs) else cs)
theorem z6o{env:Env}: ∀(names:List (Str×NameKind)) (cs:List (Str×Addr)),(∀y∈names,y.2= .free->∃a,env.cells.lookup y.1=some a)->
 (forIn names cs fun(x:Str×NameKind) (r:List (Str×Addr))=>if(x.2==NameKind.free)=true then cellOf env x.1>>=fun a=>pure (ForInStep.yield ((x.1,a)::r)) else pure (ForInStep.yield r))=(pure (z2H env names cs):Sem _)
 |[],cs,_=>rfl
 |(n,k)::r,cs,h=>by
  have ih:=fun cs=>z6o (env:=env) r cs fun y hy=>h y (List.mem_cons_of_mem _ hy)
  rw[List.forIn_cons]
  show((if(k==NameKind.free)=true then cellOf env n>>=fun a=>pure (ForInStep.yield ((n,a)::cs)) else pure (ForInStep.yield cs))>>=_)=pure (z2H env r (if k== .free then(match env.cells.lookup n with|some a=>(n,a)::cs|none=>cs) else cs))
  by_cases hk:(k==NameKind.free)=true
  ·obtain⟨a,e⟩:=h (n,k) List.mem_cons_self (by simpa using hk)
   have e:env.cells.lookup n=some a:=e
   rw[if_pos hk,if_pos hk,e]
   have e2:cellOf env n=pure a:=by unfold cellOf;rw[e]
   rw[e2]
   exact ih _
  ·rw[if_neg hk,if_neg hk]
   exact ih _
theorem z4N{env:Env}{scope:Scope}(h: ∀y∈scope.names,y.2= .free->∃a,env.cells.lookup y.1=some a):closureFor scope env=pure (z2H env scope.names []):=by
 have e:=z6o (env:=env) scope.names [] h
 exact congrArg (fun(m:Sem (List (Str×Addr)))=>m>>=fun cs=>pure cs) e
theorem z4O{env:Env}{x:Str}{c:Addr}: ∀(names:List (Str×NameKind)) (cs:List (Str×Addr)),(z2H env names cs).lookup x=some c->
 cs.lookup x=some c\/(env.cells.lookup x=some c/\(x,NameKind.free)∈names)
 |[],cs,h=> .inl h
 |(n,k)::r,cs,h=>by
  rcases z4O r _ h with q|⟨q,m⟩
  ·by_cases hk:(k==NameKind.free)=true
   ·rw[if_pos hk] at q
    cases e:env.cells.lookup n with
    |none=>rw[e] at q;exact .inl q
    |some a=>
     rw[e] at q
     have q:((n,a)::cs).lookup x=some c:=q
     rw[List.lookup_cons] at q
     by_cases hx:(x==n)=true
     ·rw[hx] at q
      have q:some a=some c:=q
      cases q
      have hx:x=n:=eq_of_beq hx
      subst hx
      have hk:k= .free:=eq_of_beq hk
      subst hk
      exact .inr ⟨e,List.mem_cons_self⟩
     ·have hx:(x==n)=false:=by simpa using hx
      rw[hx] at q
      exact .inl q
   ·rw[if_neg hk] at q
    exact .inl q
  ·exact .inr ⟨q,List.mem_cons_of_mem _ m⟩
theorem z3B{env:Env}{x:Str}: ∀(names:List (Str×NameKind)) (cs:List (Str×Addr)),(((∃c,cs.lookup x=some c))\/((x,NameKind.free)∈names/\∃c,env.cells.lookup x=some c))->
 ∃c,(z2H env names cs).lookup x=some c
 |[],cs,h=>by
  rcases h with h|⟨m,_⟩
  ·exact h
  ·cases m
 |(n,k)::r,cs,h=>by
  refine z3B r _ ?_
  rcases h with⟨c,hc⟩|⟨m,c,hc⟩
  ·left
   by_cases hk:(k==NameKind.free)=true
   ·rw[if_pos hk]
    cases e:env.cells.lookup n with
    |none=>exact⟨c,hc⟩
    |some a=>
     by_cases hx:(x==n)=true
     ·exact⟨a,by show((n,a)::cs).lookup x=some a;rw[List.lookup_cons,hx]⟩
     ·have hx:(x==n)=false:=by simpa using hx
      exact⟨c,by show((n,a)::cs).lookup x=some c;rw[List.lookup_cons,hx];exact hc⟩
   ·rw[if_neg hk]
    exact⟨c,hc⟩
  ·rcases List.mem_cons.mp m with e|m
   ·left
    cases e
    rw[if_pos (by decide),hc]
    exact⟨c,by show((x,c)::cs).lookup x=some c;rw[List.lookup_cons,beq_self_eq_true]⟩
   ·exact .inr ⟨m,c,hc⟩
theorem z1q{env:Env}: ∀{names:List (Str×NameKind)} {x:Str},names.lookup x=some .free->
 (names.map fun(n,k)=>if(k==NameKind.free&&env.scope.kind== .function&&env.kindOf n==some .cell) then(n,NameKind.cell) else(n,k)).lookup x=some .cell\/
 (names.map fun(n,k)=>if(k==NameKind.free&&env.scope.kind== .function&&env.kindOf n==some .cell) then(n,NameKind.cell) else(n,k)).lookup x=some .free
 |[],_,h=>by simp at h
 |(n,k)::r,x,h=>by
  have ih:= @z1q env r x
  rw[List.map_cons]
  show List.lookup x ((if(k==NameKind.free&&env.scope.kind== .function&&env.kindOf n==some .cell)=true then(n,NameKind.cell) else(n,k))::_)=_\/List.lookup x ((if(k==NameKind.free&&env.scope.kind== .function&&env.kindOf n==some .cell)=true then(n,NameKind.cell) else(n,k))::_)=_
  cases hx:x==n with
  |true=>
   simp only[List.lookup_cons,hx] at h
   cases h
   by_cases hc:(NameKind.free==NameKind.free&&env.scope.kind== .function&&env.kindOf n==some .cell)=true
   ·rw[if_pos hc];left;simp only[List.lookup_cons,hx]
   ·rw[if_neg hc];right;simp only[List.lookup_cons,hx]
  |false=>
   simp only[List.lookup_cons,hx] at h
   by_cases hc:(k==NameKind.free&&env.scope.kind== .function&&env.kindOf n==some .cell)=true
   ·rw[if_pos hc];simp only[List.lookup_cons,hx];exact ih h
   ·rw[if_neg hc];simp only[List.lookup_cons,hx];exact ih h
theorem z1D{env:Env}: ∀{names:List (Str×NameKind)} {x:Str},((names.map fun(n,k)=>if(k==NameKind.free&&env.scope.kind== .function&&env.kindOf n==some .cell) then(n,NameKind.cell) else(n,k)).lookup x=some .cell\/
 (names.map fun(n,k)=>if(k==NameKind.free&&env.scope.kind== .function&&env.kindOf n==some .cell) then(n,NameKind.cell) else(n,k)).lookup x=some .free)->names.lookup x=some .free\/names.lookup x=some .cell
 |[],_,h=>by simp at h
 |(n,k)::r,x,h=>by
  have ih:= @z1D env r x
  rw[List.map_cons] at h
  have h:List.lookup x ((if(k==NameKind.free&&env.scope.kind== .function&&env.kindOf n==some .cell)=true then(n,NameKind.cell) else(n,k))::_)=_\/List.lookup x ((if(k==NameKind.free&&env.scope.kind== .function&&env.kindOf n==some .cell)=true then(n,NameKind.cell) else(n,k))::_)=_:=h
  cases hx:x==n with
  |true=>
   simp only[List.lookup_cons,hx]
   by_cases hc:(k==NameKind.free&&env.scope.kind== .function&&env.kindOf n==some .cell)=true
   ·have:k= .free:=by
     simp only[Bool.and_eq_true,beq_iff_eq] at hc
     exact hc.1.1
    subst this
    exact .inl rfl
   ·rw[if_neg hc] at h
    simp only[List.lookup_cons,hx] at h
    exact h.symm
  |false=>
   simp only[List.lookup_cons,hx]
   refine ih ?_
   by_cases hc:(k==NameKind.free&&env.scope.kind== .function&&env.kindOf n==some .cell)=true
   ·rw[if_pos hc] at h;simp only[List.lookup_cons,hx] at h;exact h
   ·rw[if_neg hc] at h;simp only[List.lookup_cons,hx] at h;exact h
structure z28(osc sc:Scope)(own frees N:List Str)(ix:List Nat):Prop where
 kind:sc.kind= .function
 nocell: ∀y∈sc.names,y.2≠ .cell
 names: ∀y∈sc.names,y.2= .local->sc.names.lookup y.1=some .local
 fr: ∀y∈sc.names,y.2= .free->osc.names.lookup y.1=some .cell\/osc.names.lookup y.1=some .free
 nd:(own++frees).Nodup
 frl: ∀x∈frees,sc.names.lookup x=some .free
 ixs:ix.map (fun i=>N[i]?)=frees.map some
noncomputable def z1E(X:Cx)(scope:Scope)(own frees:List Str)(cl:List (Str×Addr))(C:Addr)(s₀:Shared)(H₀:Hp)(fp:List Addr)(pn:List (Addr×Obj)):Cx:=
 {X with N:=own++frees,s₀:=s₀,H₀:=H₀,env:=compEnvC scope cl C X.env,outer:=X.stack,stack:=X.stack,ex:=fp,fn:=fun _=>false,pn:=pn,xe:=fun _ _=>False}
noncomputable def z2I(k:Nat)(ix:List Nat)(σ:St):St:=List.replicate k none++ix.map fun i=>(σ[i]?).getD none
section
variable{X:Cx}{tg iter elt:Expr}{pos:Pos}{scope:Scope}{own frees:List Str}{ix:List Nat}{wi:TI}{g:TG}{te:TE}
theorem z7d(k:Nat)(ix:List Nat)(σ:St):(z2I k ix σ).length=k+ix.length:=by
 unfold z2I
 simp
theorem z7e{pins:List (Addr×Obj)}{σ:St}{H:Hp}{s s1:Shared}{fp:List Addr}(S:z28 X.env.scope scope own frees X.N ix)(I:Inv X pins σ H s)(hf: ∀b∈fp,FpOk X pins H b)(hb: ∀b∈fp,b<s.heap.objs.size)
 (ho:s1.os=s.os) (hg:s1.gens=s.gens) (hk: ∀b o,s.heap.get? b=some o->s1.heap.get? b=some o) (hn:s1.heap.Ns s.heap.objs.size (fun _=>none)):
 Inv (z1E X scope own frees (z2H X.env scope.names []) s.heap.objs.size s H fp (X.pn++pins)) [] (z2I own.length ix σ) H s1:=by
 have clos: ∀x c,(z2H X.env scope.names []).lookup x=some c->X.env.cells.lookup x=some c/\(x,NameKind.free)∈scope.names:=fun x c h=>by
  rcases z4O _ _ h with q|q
  ·exact nomatch q
  ·exact q
 have hlen:ix.length=frees.length:=by
  have:=congrArg List.length S.ixs
  simpa using this
 have cne: ∀x c,X.env.cells.lookup x=some c->c<s.heap.objs.size:=fun x c e=>by
  obtain⟨v,o,q,_⟩:=I.cell x c e
  exact Heap.lt_size q
 refine⟨⟨I.ok.mod,S.kind,I.ok.glob,I.ok.blt,Nat.le_refl _,fun x y c h1 h2=>I.ok.inj x y c (clos x c h1).1 (clos y c h2).1,fun x hx=> ?_,fun x c z=>Bool.noConfusion z,I.ok.hd,I.ok.frames, .inl rfl,fun b z=>⟨Nat.ne_of_lt (hb b z),fun x c e=>(hf b z).2.2.2.2.1 x c (clos x c e).1⟩,I.bs,
  Nat.le_trans I.ok.bsz I.sz,fun b o e z=> ?_,fun b z=> ?_,I.stack,I.stkFree⟩,ho, ?_,Un.kept hk,⟨_,hn,fun i x v h1 h2 h3=> ?_⟩,fun x c e=> ?_,I.fresh,fun x c e=>I.freeC x c (clos x c e).1,fun p hp=> ?_,I.hok.kept hk, ?_⟩
 ·have hx:(relabel scope X.env).names.lookup x=some .cell\/(relabel scope X.env).names.lookup x=some .free:=hx
  rcases z1D hx with q|q
  ·have m:(x,NameKind.free)∈scope.names:=PySem.mem_of_lookup q
   obtain⟨c,hc⟩:=I.ok.has x (S.fr _ m rfl)
   exact z3B _ _ (.inr ⟨m,c,hc⟩)
  ·exact absurd rfl (S.nocell _ (PySem.mem_of_lookup q))
 ·rcases(hf b z).2.2.2.1 with q|q
  ·exact I.ok.noex b o e q
  ·exact absurd (Heap.lt_size (I.ok.bs b o e).1) (Nat.not_lt.mpr q)
 ·intro q
  rcases List.mem_cons.mp (I.stkSub b q) with r|r
  ·exact(hf b z).2.1 r
  ·exact(hf b z).2.2.1 r
 ·rw[hg];exact I.bare
 ·have h2:(z2I own.length ix σ)[i]? =some (some v):=h2
  have h1:(own++frees)[i]? =some x:=h1
  unfold z2I at h2
  by_cases hi:i<own.length
  ·rw[List.getElem?_append_left (by simpa using hi),List.getElem?_replicate] at h2
   rw[if_pos hi] at h2
   cases h2
  ·have hi:own.length<=i:=Nat.not_lt.mp hi
   rw[List.getElem?_append_right (by simpa using hi),List.length_replicate,List.getElem?_map] at h2
   rw[List.getElem?_append_right hi] at h1
   cases e:ix[i -own.length]? with
   |none=>rw[e] at h2;cases h2
   |some j=>
    rw[e] at h2
    have h2:some ((σ[j]?).getD none)=some (some v):=h2
    have hσ:σ[j]? =some (some v):=by
     cases q:σ[j]? with
     |none=>rw[q] at h2;cases h2
     |some z=>rw[q] at h2;exact h2
    have hN:X.N[j]? =some x:=by
     have:=congrArg (fun l:List (Option Str)=>l[i -own.length]?) S.ixs
     simp only[List.getElem?_map,e,h1,Option.map_some] at this
     exact Option.some.inj this
    have mf:x∈frees:=List.mem_of_getElem? h1
    have lf:=S.frl x mf
    have m:(x,NameKind.free)∈scope.names:=PySem.mem_of_lookup lf
    have hos:=S.fr _ m rfl
    obtain⟨mm,hns,hl⟩:=I.loc
    obtain⟨u,ru,look⟩:=hl j x v hN hσ (hos.elim (fun q=> .inr (.inl q)) fun q=> .inr (.inr q))
    refine⟨u,ru, ?_⟩
    rcases look with⟨kk,_⟩|⟨kk,c,hc,ic⟩
    ·have kk:X.env.scope.names.lookup x=some .local:=kk
     have hos:X.env.scope.names.lookup x=some .cell\/X.env.scope.names.lookup x=some .free:=hos
     rw[kk] at hos
     rcases hos with q|q<;>cases q
    ·obtain⟨c',hc'⟩:=z3B (env:=X.env) scope.names [] (.inr ⟨m,c,hc⟩)
     have e2:=(clos x c' hc').1
     rw[hc] at e2
     cases e2
     refine .inr ⟨z1q lf,c,hc', ?_⟩
     obtain⟨o,q1,q2⟩:=ic
     exact⟨o,hk _ _ q1,q2⟩
 ·obtain⟨v,o,q1,q2⟩:=I.cell x c (clos x c e).1
  exact⟨v,o,hk _ _ q1,q2⟩
 ·have hp:p∈(X.pn++pins)++[]:=hp
  rw[List.append_nil] at hp
  obtain⟨e,n,ne,nf,d⟩:=I.pin p hp
  refine⟨hk _ _ e,n,Nat.ne_of_lt (Heap.lt_size e),fun q=> ?_,d⟩
  rcases List.mem_cons.mp (I.stkSub p.1 q) with r|r
  ·exact ne r
  ·exact nf r
 ·show(z2I own.length ix σ).length=(own++frees).length
  rw[z7d,hlen,List.length_append]
theorem z9k{pins pins':List (Addr×Obj)}{σ σ':St}{H H':Hp}{s s':Shared}{h':Heap}{fp:List Addr}{cl:List (Str×Addr)}{C:Addr}(I:Inv X pins σ H s)(hf: ∀b∈fp,FpOk X pins H b)(hC:s.heap.objs.size<=C)
 (J:Inv (z1E X scope own frees cl C s H fp (X.pn++pins)) pins' σ' H' s') (hs:Heap.SameBut C s'.heap h'):Inv X pins σ H' {s' with heap:=h'}:=by
 have nC: ∀b,b<s.heap.objs.size->b≠C:=fun b q e=>by subst e;exact absurd q (Nat.not_lt.mpr hC)
 refine I.call' (ch:=fp) J.os ⟨fun b o e n hb hx=> ?_,fun b o e n hb hx=> ?_,J.base.free,fun b o e hx=> ?_,J.base.tups,J.base.frzs,J.base.tbls⟩ ?_ J.bare fun b z=>⟨(hf b z).2.2.2.1,(hf b z).2.1,(hf b z).2.2.2.2.1,(hf b z).2.2.2.2.2⟩
 ·exact(hs.2 b (nC b (Heap.lt_size e))).trans (J.base.keep b o e n hb hx)
 ·obtain⟨sl,q⟩:=J.base.slot b o e n hb hx
  exact⟨sl,(hs.2 b (nC b (Heap.lt_size e))).trans q⟩
 ·obtain⟨o',q⟩:=J.base.there b o e hx
  exact⟨o',(hs.2 b (nC b (Heap.lt_size e))).trans q⟩
 ·intro a o e
  refine(J.hok a o e).stay (fun b u hbu q=> ?_) (fun _ q=>q) fun _ _ q=>q
  refine(hs.2 b ?_).trans q
  intro eb
  subst eb
  have hfree:H' b=none:=J.free
  rcases hbu with rfl|z
  ·rw[e] at hfree;cases hfree
  ·rw[z] at hfree;cases hfree
end
end L2
namespace PySem
end PySem
namespace L2
open PySem PySem.Spec PyProof.Rows
noncomputable def z2p(osc sc:Scope)(own frees N:List Str)(ix:List Nat):Bool:=
 decide (sc.kind= .function)&&sc.names.all (fun y=>decide (y.2≠ .cell))&&sc.names.all (fun y=>decide (y.2= .local->sc.names.lookup y.1=some .local))&&
  sc.names.all (fun y=>decide (y.2= .free->osc.names.lookup y.1=some .cell\/osc.names.lookup y.1=some .free))&&decide (own++frees).Nodup&&frees.all (fun x=>decide (sc.names.lookup x=some .free))&&
  decide (ix.map (fun i=>N[i]?)=frees.map some)
theorem z2p.sc{osc sc:Scope}{own frees N:List Str}{ix:List Nat}(h:z2p osc sc own frees N ix=true):z28 osc sc own frees N ix:=by
 unfold z2p at h
 simp only[Bool.and_eq_true,List.all_eq_true,decide_eq_true_eq] at h
 obtain⟨⟨⟨⟨⟨⟨h1,h2⟩,h3⟩,h4⟩,h5⟩,h6⟩,h7⟩:=h
 exact⟨h1,h2,h3,h4,h5,h6,h7⟩
theorem Same.new{H:Hp}{p:Addr}(o:HO)(h:H p=none):Same H (upd H p o):=fun x u e=>by rw[z04 (z0D e h)];exact e
noncomputable def zaX(H H':Hp):Prop:=(∀b xs,H b=some (.tup xs)->H' b=some (.tup xs))/\∀b o xs,H b=some (.frz o (.tup xs))->H' b=some (.frz o (.tup xs))
theorem Same.ts{H H':Hp}(h:Same H H'):zaX H H':=⟨fun b _ e=>h b _ e,fun b _ _ e=>h b _ e⟩
theorem zaX.tup{K:W.Frag}{H H':Hp}(t:zaX H H'){a:Addr}{xs:List V}(h:SqT K H a xs):SqT K H' a xs:=by
 rcases h with(h|⟨o,h⟩)|h
 ·exact .inl (.inl (t.1 _ _ h))
 ·exact .inl (.inr ⟨o,t.2 _ _ _ h⟩)
 ·exact .inr h
theorem Same.lst{K:W.Frag}{H H':Hp}(h:Same H H'){a:Addr}{xs:List V}(s:SqL K H a xs):SqL K H' a xs:=Same.seq h s
noncomputable def dT(ns:List Int):PyData:= .tuple (ns.map PyData.int)
theorem cut_drop(xs:List V)(k:Nat):cutV xs (some (k:Int)) none=xs.drop k:=by
 unfold cutV
 rw[HT.sIx_none,HT.sIx_nat]
 by_cases h:k<=xs.length
 ·rw[Nat.min_eq_left h,List.take_of_length_le (by rw[List.length_drop];lia)]
 ·have h:xs.length<=k:=by lia
  rw[Nat.min_eq_right h,Nat.sub_self,List.take_zero,List.drop_eq_nil_of_le h]
noncomputable def NewX(K:W.Frag)(H:Hp)(xs:List V)(Q:VK):Prop:= ∀p H',(H'=H/\H p=some (.tup xs))\/(H p=none/\H'=upd H p (.tup xs))->Q (.ref p) H'
theorem NewX.intro{K:W.Frag}{H:Hp}{xs:List V}{Q:VK}(h: ∀p H',H' p=some (.tup xs)->Same H H'->Q (.ref p) H'):NewX K H xs Q:=by
 intro p H' e
 rcases e with⟨rfl,s⟩|⟨n,rfl⟩
 ·exact h p H' s (Same.refl _)
 ·exact h p _ z09 (Same.new _ n)
section
variable{X:Cx}
noncomputable def rSlX(K:W.Frag):V->Option Int->Option Int->Hp->VK->Prop:=fun x lo hi H Q=> ∃a xs,x= .ref a/\H a=some (.tup xs)/\NewX K H (cutV xs lo hi) Q
theorem zaY:SlR X (rSlX X.K):=by
 intro pins s σ H x v vl vu lo hi sl Q I rx hs pl pu h
 obtain⟨a,xs,rfl,hx0,q⟩:=h
 have hx:SqT X.K H a xs:=SqT.of hx0
 by_cases hw:HT.sIx xs.length 0 lo=0/\HT.sIx xs.length xs.length hi=xs.length
 ·cases rx
  obtain⟨its,r,ht,hz⟩:=I.tuple hx
  have hlen:its.toArray.size=xs.length:=by rw[List.size_toArray];exact r.length.symm
  refine⟨"tuple",_,PyProof.Rows.slot_tuple_getitem.lookup,ht.typeIs, ?_⟩
  refine HT.getItem_tuple_whole ht hs pl pu (by rw[hlen];exact hw) ⟨.ref a,H,I,rfl,q a H (.inl ⟨rfl, ?_⟩)⟩
  rw[z7c hw]
  exact hx0
 ·exact zcH pins s σ H _ v vl vu lo hi sl Q I rx hs pl pu ⟨a,xs,rfl,hx,hw,fun p hp=>q p _ (.inr ⟨hp,rfl⟩)⟩
noncomputable def zaZ(K:W.Frag):R2:=fun x y H Q=> ∃a b xs ys,x= .ref a/\y= .ref b/\H a=some (.tup xs)/\H b=some (.tup ys)/\xs.length+ys.length<=sizeLine/\NewX K H (xs++ys) Q
theorem zb0:OpR X (binaryOp .Add) (zaZ X.K):=by
 intro pins s σ H x y v u Q I rx ry h
 obtain⟨a,b,xs,ys,rfl,rfl,ha0,hb0,hz,q⟩:=h
 have ha:SqT X.K H a xs:=SqT.of ha0
 have hb:SqT X.K H b ys:=SqT.of hb0
 by_cases hx:xs=[]
 ·subst hx
  cases rx
  cases ry
  obtain⟨its,r1,p1,_⟩:=I.tuple ha
  obtain⟨its2,r2,p2,_⟩:=I.tuple hb
  have e0:its=[]:=(Vals.nil_iff r1).mpr rfl
  subst e0
  obtain⟨⟨cls,dd,data,sl⟩,ho,hc,n,hd⟩:=id p1
  obtain⟨⟨cls2,dd2,data2,sl2⟩,ho2,hc2,n2,hd2⟩:=id p2
  simp only at hc hd hc2 hd2
  subst hc hd hc2 hd2
  exact concat_meets ⟨_,ho,rfl⟩ ⟨_,ho2,rfl⟩ noFill_tuple_add seq_tuple_add PySem.F.slot_tuple_add PySem.F.entry_tuple_add (PySem.F.args_tuple_add_2 _ _)
   (tuple_addW0 a b _ _ n n2 dd dd2 sl sl2 (by simp)) ⟨ho,ho2, .ref b,H,I,rfl,q b H (.inl ⟨rfl,hb0⟩)⟩
 ·refine zaR pins s σ H _ _ v u Q I rx ry ⟨a,b,xs,ys,rfl,rfl,ha,hb,hx,hz,fun e=> ?_,fun _ p hp=>q p _ (.inr ⟨hp,rfl⟩)⟩
  refine q a H (.inl ⟨rfl, ?_⟩)
  rw[e,List.append_nil]
  exact ha0
theorem z80:CallR X (.type "tuple") (fun xs H Q=> ∃(p:Addr) (ys:List V),xs=[.ref p]/\(SqL X.K H p ys\/H p=some (.tup ys))/\NewX X.K H ys Q):=by
 intro pins s σ H xs us Q I r h
 obtain⟨p,ys,rfl,hs,q⟩:=h
 refine z4M pins s σ H _ us Q I r ⟨p,ys,rfl, ?_⟩
 rcases hs with hs|hs
 ·exact .inl ⟨hs,fun l hl=>q l _ (.inr ⟨hl,rfl⟩)⟩
 ·exact .inr ⟨SqT.of hs,q p H (.inl ⟨rfl,hs⟩)⟩
end
end L2
namespace PyProof.Rows
open PySem
section
variable{prog:Program}{w:World}{A:Around}{E:Value->Shared->Prop}{s:Shared}
theorem z3C{h h':Heap}{t:Addr}{items:Array Value}(hl:h.IsList t items)(k: ∀o,h.get? t=some o->h'.get? t=some o):h'.IsList t items:=by
 obtain⟨o,ho,hc,n,hd⟩:=hl
 exact⟨o,k o ho,hc,n,hd⟩
theorem z5v{it t:Addr}{items:Array Value}(hne:t≠it): ∀(n i:Nat) (s:Shared) (Q:List Value->Shared->Prop),s.heap.IsListIter it t i->s.heap.IsList t items->i+n<=items.size->
 (∀h',h'.IsListIter it t (i+n)->Heap.SameBut it s.heap h'->Q ((items.toList.drop i).take n) {s with heap:=h'})->wpAny (model prog w) A (draw (.ref it) n) Q E s
 |0,i,s,Q,hit,_,_,hQ=>by
  show wpAny _ _ (pure []) Q E s
  exact wpAny_pure (by simpa using hQ s.heap hit (Heap.SameBut.refl ..))
 |n+1,i,s,Q,hit,ht,hle,hQ=>by
  have hlt:i<items.size:=by lia
  show wpAny _ _ (pyNext (.ref it)>>=_) Q E s
  refine wpAny_bind (wpAny_pyNext_list_item hit ht (x:=items[i]) (by simp[hlt]) fun h₁ hit₁ hs₁=> ?_)
  refine wpAny_bind (wpAny_holding (z5v hne n (i+1) _ _ hit₁ (z3C ht fun o e=>(hs₁.2 t hne).trans e) (by lia) fun h₂ hit₂ hs₂=>wpAny_pure ?_))
  have hd:items.toList.drop i=items[i]::items.toList.drop (i+1):=by simp[List.drop_eq_getElem_cons,hlt]
  have:=hQ h₂ (by rw[show i+(n+1)=i+1+n by lia];exact hit₂) (hs₁.trans hs₂)
  rw[hd,List.take_succ_cons] at this
  exact this
theorem z3o{t:Addr}{items:Array Value}{Q:List Value->Shared->Prop}(hh:A.handled=none)(ht:s.heap.IsList t items)
 (hQ: ∀h',Heap.ExtBut s.heap.objs.size s.heap h'->Q items.toList {s with heap:=h'}):wpAny (model prog w) A (unpackItems (.ref t) items.size none) Q E s:=by
 have hlt:t≠s.heap.objs.size:=by obtain⟨o,ho,_⟩:=ht;exact Nat.ne_of_lt (Heap.lt_size ho)
 have hT:s.TypeIs (.ref t) "list" :=by obtain⟨o,ho,hc,_⟩:=ht;exact⟨o,ho,hc⟩
 unfold unpackItems
 refine wpAny_bind ?_
 ·unfold notIterableAtAll
  refine wpAny_bind (wpAny_specialOf hT PySem.F.slot_list_iter.lookup ?_)
  refine wpAny_pure ?_
  simp only[Bool.false_eq_true,if_false]
  refine wpAny_bind (wpAny_holding (wpAny_pyIter_list ht ?_))
  refine wpAny_bind (wpAny_holding (z5v hlt items.size 0 _ _ ⟨_,Heap.get?_push_size _ rfl,rfl,rfl⟩ (z3C ht fun o e=>Heap.get?_push_of_some _ e) (by lia) fun h₁ hit₁ hs₁=> ?_))
  have hall:List.take items.size (List.drop 0 items.toList)=items.toList:=by
   rw[List.drop_zero];exact List.take_of_length_le (by simp)
  rw[hall]
  rw[if_neg (by simp)]
  have ht₁:h₁.IsList t items:=z3C ht fun o e=>(hs₁.2 t hlt).trans (Heap.get?_push_of_some _ e)
  refine wpAny_bind (wpAny_holding (wpAny_pyNext_list_end hh hit₁ ht₁ (by simp) fun h₂ he₂=> ?_))
  simp only[Option.isSome_none,Bool.false_eq_true,if_false]
  refine wpAny_pure (hQ h₂ fun b o hb e=>he₂ b o hb (hs₁.extBut b o hb (Heap.get?_push_of_some _ e)))
theorem z35{env:Env}{elts:List Expr}{x1}{pos:Pos}{t:Addr}{items:Array Value}{Q:Unit->Shared->Prop}(hh:A.handled=none)(ht:s.heap.IsList t items)
 (hn:(assignEach elts env).length=items.size) (hstar:(assignEach elts env).findIdx? (·.1)=none)
 (h: ∀h',Heap.ExtBut s.heap.objs.size s.heap h'->wpAny (model prog w) A (assignInOrder ((assignEach elts env).map (·.2)) items.toList) Q E {s with heap:=h'}):
 wpAny (model prog w) A (assign (.Tuple elts x1 pos) env (.ref t)) Q E s:=by
 rw[assign_Tuple]
 refine wpAny_bind (wpAny_standAt ?_)
 unfold unpack
 rw[hn,hstar]
 exact wpAny_bind (wpAny_holding (z3o hh ht h))
end
end PyProof.Rows
namespace L2
open PySem PySem.Spec PyProof.Rows
section
variable{X:Cx}{pos:Pos}
noncomputable def gSeq(K:W.Frag)(n:Nat)(t:TGs):TG:=fun v σ H Q=> ∃a xs,v= .ref a/\(SqT K H a xs\/SqL K H a xs)/\xs.length=n/\t xs σ H Q
theorem zcP{es:List Expr}{k:Nat}{t:TGs}{n:Nat}(hc:X.calm=true)(h:PGs X es t)
 (hn:(assignEach es X.env).length=n:=by rfl) (hst:(assignEach es X.env).findIdx? (·.1)=none:=by rfl):PG X (.Tuple es k pos) (gSeq X.K n t):=by
 intro pins s σ H v u Q I r hw
 obtain⟨a,xs,e1,hq|hq,hl,hw⟩:=hw
 ·exact zcm hc h hn hst pins s σ H v u Q I r ⟨a,xs,e1,hq,hl,hw⟩
 ·subst e1
  cases r
  obtain⟨its,rv,ht,hz⟩:=I.list hq
  refine z35 (I.ok.hd hc) ht.isList (by simp[hn,<-hl,rv.length]) hst fun h' hx=> ?_
  have I1:Inv X pins σ H {s with heap:=h'}:=I.kept (t':=s.toks) fun b o e=>hx b o (Nat.ne_of_lt (Heap.lt_size e)) e
  exact h pins _ σ H xs _ Q I1 (by simpa using rv) hw
end
theorem z3p:fillsNumberSlot (.type "tuple") "mul" =pure false:=
 PySem.fillsNumberSlot_seq (id:= "tuple.__mul__") (r:=some (.builtin "tuple.__rmul__")) F.slot_tuple_mul.lookup (by decide+kernel) F.slot_tuple_rmul.lookup (by decide+kernel)
theorem z5w:seqRepeat? (.type "tuple")=pure (some (.builtin "tuple.__mul__")):=by
 unfold seqRepeat?
 rw[PySem.seqSlot_of (T:= "tuple") (name:= "__mul__") (id:= "tuple.__mul__") F.slot_tuple_mul.lookup (by decide+kernel),PySem.seqSlot_of (T:= "tuple") (name:= "__rmul__") (id:= "tuple.__rmul__") F.slot_tuple_rmul.lookup (by decide+kernel)]
 rfl
theorem z4h(a:Int)(t:Tok)(l:Addr)(items:Array Value)(n:Nat)(dd:Option Addr)(sl:Array (Option Value)):
 Meets (Builtin.«int.__rmul__» ⟨[.int a t, .ref l],[]⟩) (fun _ R s=>s.heap.get? l=some {cls:= .type "tuple",dict:=dd,data:= .seq items n,slots:=sl}/\R (.ok (.ret Value.notImplemented)) s):=
 .of_wp fun prog w A R s h=>by obtain⟨hp,g,d,tk,os⟩:=s;obtain⟨hl,h⟩:=h;wp_walk;exact⟨_,rfl,h⟩
theorem z7f(l:Addr)(items:Array Value)(n:Nat)(dd:Option Addr)(sl:Array (Option Value))(x:Int)(u:Tok)(hc0: ¬(decide (x< -(2^63))||decide (x≥2^63))=true)(hc1: ¬(items.isEmpty||x==1)=true)(hc2: ¬(decide (x<=0)||items.isEmpty)=true)(hc3: ¬((items.size:Int)*x>(2^63 - 1)/8))(hc4: ¬Builtin.Tuple.tupleTooMany ((items.size:Int)*x)=true)(hsz:(List.foldl (fun x1 x2=>x1++x2) #[] (List.replicate x.toNat items)).size<=sizeLine):
 Meets (Builtin.«tuple.__mul__» ⟨[.ref l, .int x u],[]⟩) (fun _ R s=>s.heap.get? l=some {cls:= .type "tuple",dict:=dd,data:= .seq items n,slots:=sl}/\R (.ok (.ret (Value.ref s.heap.objs.size))) {s with heap:=s.heap.push {cls:=Value.type "tuple",data:=Data.seq (List.foldl (fun x1 x2=>x1++x2) #[] (List.replicate x.toNat items))},toks:=s.toks}):=
 .of_wp fun prog w A R s h=>by
  obtain⟨hp,g,d,tk,os⟩:=s;obtain⟨hl,h⟩:=h
  have f1:=AutoSeq1.idx_int;have f2:=AutoSeq1.sub_tuple_tuple
  wp_walk using AutoSeq1.wpAny_loadPart' hl
  rw[if_neg hc0]
  wp_walk using AutoSeq1.wpAny_loadPart' hl
  rw[if_neg hc3]
  wp_walk using AutoSeq1.wpAny_loadPart' hl
  exact⟨_,rfl,h⟩
section
variable{X:Cx}
noncomputable def zb1(K:W.Frag):R2:=fun x y H Q=> ∃a k xs,x= .ref a/\y= .int k/\SqT K H a xs/\0<xs.length/\2<=k/\k<2^63/\xs.length*k.toNat<=sizeLine/\
 ∀p,H p=none->Q (.ref p) (upd H p (.tup (List.replicate k.toNat xs).flatten))
theorem zb2:OpR X (binaryOp .Mult) (zb1 X.K):=by
 intro pins s σ H x y v u Q I rx ry h
 obtain⟨a,k,xs,rfl,rfl,ha,h0,h1,h2,hz,q⟩:=h
 cases rx
 obtain⟨t,rfl⟩:=ry
 obtain⟨its,r,p1,_⟩:=I.tuple ha
 obtain⟨⟨cls,dd,data,sl⟩,e,hc,n,hd⟩:=id p1
 simp only at hc hd
 subst hc hd
 have hlen:its.length=xs.length:=r.length.symm
 have hne:its.toArray.isEmpty=false:=by
  cases its with
  |nil=>simp at hlen;lia
  |cons a r=>simp
 have hnew:List.foldl (fun x1 x2=>x1++x2) #[] (List.replicate k.toNat its.toArray)=(List.replicate k.toNat its).flatten.toArray:=by
  have:=z3y its k.toNat []
  rw[List.nil_append] at this
  exact this
 have hl2:((its.toArray.size:Nat):Int)*k=((xs.length*k.toNat:Nat):Int):=by
  rw[List.size_toArray,hlen,Int.natCast_mul,Int.toNat_of_nonneg (by lia)]
 have hs:(sizeLine:Nat)=16777216:=rfl
 refine wpAny_binaryOp_repeat_ref (T:= "tuple") (U:= "int") (by decide) ⟨_,e,rfl⟩ (fun s'=>typeIs_int s' k t) z3p F.fills_int_mul F.slot_int_rmul z5w F.slot_int_index.lookup
  (call_meets F.slot_int_rmul (typeIs_int s k t) F.entry_int_rmul (F.args_int_rmul_2 _ _) (z4h k t a its.toArray n dd sl)
   ⟨e,rfl,⟨_,e,rfl⟩,call_meets F.slot_tuple_mul ⟨_,e,rfl⟩ F.entry_tuple_mul (F.args_tuple_mul_2 _ _) (z7f a its.toArray n dd sl k t (by simp;lia) (by rw[hne];simp;lia) (by rw[hne];simp;lia) (by rw[hl2];clear hl2;generalize xs.length*k.toNat=m at hz⊢;lia) (by rw[hl2];clear hl2;generalize xs.length*k.toNat=m at hz⊢;unfold Builtin.Tuple.tupleTooMany;rw[decide_eq_true_eq];lia) (by rw[hnew,List.size_toArray,z5T,hlen,Nat.mul_comm];exact hz)) ⟨e, ?_⟩⟩)
 rw[hnew]
 refine⟨.ref s.heap.objs.size,_,I.laid (t':=s.toks) (o:= .tup (List.replicate k.toNat xs).flatten) (fun b ob q=>Heap.get?_push_of_some _ q) (Nat.le_refl _) ?_,rfl,q _ (I.hok.fresh (Nat.le_refl _))⟩
 exact⟨by rw[z5T,Nat.mul_comm];exact hz,_,r.rep k.toNat,IsTup.new _ _⟩
end
end L2
namespace Mi
open PySem L2
inductive D where
 |non|bool (b:Bool)|int (i:Int)|str (x:Str)
 |tup (ds:List D)|ro (ds:List D)|lst (l:Nat) (ds:List D)
 |dct (l:Nat) (ks vs:List D)|obj (l:Nat) (c:Str) (ns:List Str) (vs:List D)
 |exc (c:Str)|fn (c:Str)|fdc (ks vs:List D)
deriving Inhabited
mutual
noncomputable def labs:D->List Nat
 | .tup ds=>labsL ds
 | .ro ds=>labsL ds
 | .fdc _ vs=>labsL vs
 | .lst l ds=>l::labsL ds
 | .dct l ks vs=>l::(labsL ks++labsL vs)
 | .obj l _ _ vs=>l::labsL vs
 | .non=>[]| .bool _=>[]| .int _=>[]| .str _=>[]| .exc _=>[]| .fn _=>[]
noncomputable def labsL:List D->List Nat
 |[]=>[]
 |d::ds=>labs d++labsL ds
end
noncomputable def z06:List (Option D)->List Nat
 |[]=>[]
 |none::r=>z06 r
 |some d::r=>labs d++z06 r
structure Gx where
 K:W.Frag
 cl:Str->Option Addr
 ci: ∀c c' a,cl c=some a->cl c'=some a->c=c'
 ck: ∀c a,cl c=some a->∃o,K.lookup a=some o/\∀its n,o.data≠ .seq its n
noncomputable def keyD:Key->D
 | .inl i=> .int i
 | .inr x=> .str x
noncomputable def dkD(ks:List Key):D:= .tup (ks.map keyD)
noncomputable def RoL(K:W.Frag)(H:Hp)(a:Addr)(xs:List V):Prop:=
 (∃o,H a=some (.frz o (.lst xs)))\/∃(o:Obj) (its:Array Value) (n:Nat),K.lookup a=some o/\o.cls= .type "list" /\o.dict=none/\o.data= .seq its n/\its.size<=sizeLine/\Vals xs its.toList
theorem RoL.sq{K:W.Frag}{H:Hp}{a:Addr}{xs:List V}(h:RoL K H a xs):SqL K H a xs:=by
 rcases h with⟨o,h⟩|h
 ·exact .inl (.inr ⟨o,h⟩)
 ·exact .inr h
mutual
noncomputable def RD(G:Gx)(ρ:Nat->Addr)(H:Hp):D->V->Prop
 | .non,v=>v= .non
 | .bool b,v=>v= .bl b
 | .int i,v=>v= .int i
 | .str x,v=>v= .str x
 | .exc c,v=> ∃a o C,v= .ref a/\G.cl c=some C/\o.cls= .ref C/\(∃vs,o.data= .fields vs)/\H a=some (.frz o (.ext fun _=>True))
 | .fn c,v=> ∃a,v= .ref a/\G.cl c=some a
 | .tup ds,v=> ∃a xs,v= .ref a/\H a=some (.tup xs)/\RDs G ρ H ds xs
 | .ro ds,v=> ∃a xs,v= .ref a/\RoL G.K H a xs/\RDs G ρ H ds xs
 | .fdc ks vs,v=> ∃(a:Addr) (o:Obj) (kvs:List (List Key×V)),v= .ref a/\H a=some (.frz o (.dT kvs))/\ks=kvs.map (fun p=>dkD p.1)/\RDs G ρ H vs (kvs.map (·.2))
 | .lst l ds,v=>v= .ref (ρ l)/\∃xs,H (ρ l)=some (.lst xs)/\RDs G ρ H ds xs
 | .dct l ks vs,v=>v= .ref (ρ l)/\((∃kvs:List (Key×V),H (ρ l)=some (.dK kvs)/\ks=D.non::kvs.map (fun p=>keyD p.1)/\RDs G ρ H vs (kvs.map (·.2)))\/
  (∃kvs:List (List Key×V),H (ρ l)=some (.dT kvs)/\ks=kvs.map (fun p=>dkD p.1)/\RDs G ρ H vs (kvs.map (·.2))))
 | .obj l c ns vs,v=>v= .ref (ρ l)/\∃C dx fs,G.cl c=some C/\H (ρ l)=some (.ins C dx fs)/\ns=fs.map (·.1)/\RDs G ρ H vs (fs.map (·.2))
noncomputable def RDs(G:Gx)(ρ:Nat->Addr)(H:Hp):List D->List V->Prop
 |[],xs=>xs=[]
 |d::ds,xs=> ∃x r,xs=x::r/\RD G ρ H d x/\RDs G ρ H ds r
end
structure z1c(H H':Hp):Prop where
 t: ∀b xs,H b=some (.tup xs)->H' b=some (.tup xs)
 f: ∀b o u,H b=some (.frz o u)->H' b=some (.frz o u)
theorem z1c.refl(H:Hp):z1c H H:=⟨fun _ _ h=>h,fun _ _ _ h=>h⟩
theorem z1c.of{H H':Hp}(h:Same H H'):z1c H H':=⟨fun _ _ e=>h _ _ e,fun _ _ _ e=>h _ _ e⟩
theorem z1c.ro{K:W.Frag}{H H':Hp}(t:z1c H H'){a:Addr}{xs:List V}(h:RoL K H a xs):RoL K H' a xs:=by
 rcases h with⟨o,h⟩|h
 ·exact .inl ⟨o,t.f _ _ _ h⟩
 ·exact .inr h
section
variable{G:Gx}{ρ ρ':Nat->Addr}{H H':Hp}
mutual
theorem RD.stay(ts:z1c H H'): ∀(t:D) (v:V),RD G ρ H t v->(∀l∈labs t,ρ' l=ρ l/\∀o,H (ρ l)=some o->H' (ρ l)=some o)->RD G ρ' H' t v
 | .non,v,h,_=>by simp only[RD] at h⊢;exact h
 | .bool b,v,h,_=>by simp only[RD] at h⊢;exact h
 | .int b,v,h,_=>by simp only[RD] at h⊢;exact h
 | .str b,v,h,_=>by simp only[RD] at h⊢;exact h
 | .exc b,v,h,_=>by
  simp only[RD] at h⊢
  obtain⟨a,o,C,e,h1,h2,h3,h5⟩:=h
  exact⟨a,o,C,e,h1,h2,h3,ts.f _ _ _ h5⟩
 | .fn b,v,h,_=>by simp only[RD] at h⊢;exact h
 | .tup ds,v,h,hl=>by
  simp only[RD,labs] at h hl⊢
  obtain⟨a,xs,e,s,r⟩:=h
  exact⟨a,xs,e,ts.t _ _ s,RDs.stay ts ds xs r hl⟩
 | .ro ds,v,h,hl=>by
  simp only[RD,labs] at h hl⊢
  obtain⟨a,xs,e,s,r⟩:=h
  exact⟨a,xs,e,ts.ro s,RDs.stay ts ds xs r hl⟩
 | .fdc ks vs,v,h,hl=>by
  simp only[RD,labs] at h hl⊢
  obtain⟨a,o,kvs,e,s,s2,r⟩:=h
  exact⟨a,o,kvs,e,ts.f _ _ _ s,s2,RDs.stay ts vs _ r hl⟩
 | .lst l ds,v,h,hl=>by
  simp only[RD,labs] at h hl⊢
  obtain⟨e,xs,s,r⟩:=h
  obtain⟨e1,e2⟩:=hl l (List.mem_cons_self ..)
  rw[e1]
  exact⟨e,xs,e2 _ s,RDs.stay ts ds xs r fun k hk=>hl k (List.mem_cons_of_mem _ hk)⟩
 | .dct l ks vs,v,h,hl=>by
  simp only[RD,labs] at h hl⊢
  obtain⟨e,s⟩:=h
  obtain⟨e1,e2⟩:=hl l (List.mem_cons_self ..)
  rw[e1]
  refine⟨e, ?_⟩
  rcases s with⟨kvs,s,s2,r⟩|⟨kvs,s,s2,r⟩
  ·exact .inl ⟨kvs,e2 _ s,s2,RDs.stay ts vs _ r fun k hk=>hl k (List.mem_cons_of_mem _ (List.mem_append_right _ hk))⟩
  ·exact .inr ⟨kvs,e2 _ s,s2,RDs.stay ts vs _ r fun k hk=>hl k (List.mem_cons_of_mem _ (List.mem_append_right _ hk))⟩
 | .obj l c ns vs,v,h,hl=>by
  simp only[RD,labs] at h hl⊢
  obtain⟨e,C,dx,fs,hC,s,s2,r⟩:=h
  obtain⟨e1,e2⟩:=hl l (List.mem_cons_self ..)
  rw[e1]
  exact⟨e,C,dx,fs,hC,e2 _ s,s2,RDs.stay ts vs _ r fun k hk=>hl k (List.mem_cons_of_mem _ hk)⟩
theorem RDs.stay(ts:z1c H H'): ∀(t:List D) (v:List V),RDs G ρ H t v->(∀l∈labsL t,ρ' l=ρ l/\∀o,H (ρ l)=some o->H' (ρ l)=some o)->RDs G ρ' H' t v
 |[],v,h,_=>by simp only[RDs] at h⊢;exact h
 |d::ds,v,h,hl=>by
  simp only[RDs,labsL] at h hl⊢
  obtain⟨x,r,e,h1,h2⟩:=h
  exact⟨x,r,e,RD.stay ts d x h1 fun l hk=>hl l (List.mem_append_left _ hk),RDs.stay ts ds r h2 fun l hk=>hl l (List.mem_append_right _ hk)⟩
end
end
mutual
noncomputable def rp(f:Nat->Option D):D->D
 | .tup ds=> .tup (rpL f ds)
 | .ro ds=> .ro (rpL f ds)
 | .fdc ks vs=> .fdc ks (rpL f vs)
 | .lst l ds=>match f l with|some d=>d|none=> .lst l (rpL f ds)
 | .dct l ks vs=>match f l with|some d=>d|none=> .dct l ks (rpL f vs)
 | .obj l c ns vs=>match f l with|some d=>d|none=> .obj l c ns (rpL f vs)
 | .non=> .non| .bool b=> .bool b| .int i=> .int i| .str x=> .str x| .exc x=> .exc x| .fn x=> .fn x
noncomputable def rpL(f:Nat->Option D):List D->List D
 |[]=>[]
 |d::ds=>rp f d::rpL f ds
end
noncomputable def rpO(f:Nat->Option D):List (Option D)->List (Option D)
 |[]=>[]
 |none::r=>none::rpO f r
 |some d::r=>some (rp f d)::rpO f r
section
variable{f:Nat->Option D}
mutual
theorem z1h: ∀t:D,(∀l∈labs t,f l=none)->rp f t=t
 | .non,_=>rfl
 | .bool b,_=>rfl
 | .int b,_=>rfl
 | .str b,_=>rfl
 | .exc b,_=>rfl
 | .fn b,_=>rfl
 | .tup ds,h=>by simp only[rp,labs] at h⊢;rw[rpL_id ds h]
 | .ro ds,h=>by simp only[rp,labs] at h⊢;rw[rpL_id ds h]
 | .fdc ks vs,h=>by simp only[rp,labs] at h⊢;rw[rpL_id vs h]
 | .lst l ds,h=>by
  simp only[rp,labs] at h⊢
  rw[h l (List.mem_cons_self ..),rpL_id ds fun k hk=>h k (List.mem_cons_of_mem _ hk)]
 | .dct l ks vs,h=>by
  simp only[rp,labs] at h⊢
  rw[h l (List.mem_cons_self ..),rpL_id vs fun k hk=>h k (List.mem_cons_of_mem _ (List.mem_append_right _ hk))]
 | .obj l c ns vs,h=>by
  simp only[rp,labs] at h⊢
  rw[h l (List.mem_cons_self ..),rpL_id vs fun k hk=>h k (List.mem_cons_of_mem _ hk)]
theorem rpL_id: ∀t:List D,(∀l∈labsL t,f l=none)->rpL f t=t
 |[],_=>rfl
 |d::ds,h=>by
  simp only[rpL,labsL] at h⊢
  rw[z1h d fun l hk=>h l (List.mem_append_left _ hk),rpL_id ds fun l hk=>h l (List.mem_append_right _ hk)]
end
end
section
variable{G:Gx}{ρ ρ':Nat->Addr}{H H':Hp}{f:Nat->Option D}
mutual
theorem RD.rp(ts:z1c H H'): ∀(t:D) (v:V),RD G ρ H t v->(∀l∈labs t,ρ' l=ρ l/\(match f l with|some d=>RD G ρ' H' d (.ref (ρ l))|none=> ∀o,H (ρ l)=some o->H' (ρ l)=some o))->RD G ρ' H' (rp f t) v
 | .non,v,h,_=>by simp only[Mi.rp,RD] at h⊢;exact h
 | .bool b,v,h,_=>by simp only[Mi.rp,RD] at h⊢;exact h
 | .int b,v,h,_=>by simp only[Mi.rp,RD] at h⊢;exact h
 | .str b,v,h,_=>by simp only[Mi.rp,RD] at h⊢;exact h
 | .exc b,v,h,_=>by
  simp only[Mi.rp,RD] at h⊢
  obtain⟨a,o,C,e,h1,h2,h3,h5⟩:=h
  exact⟨a,o,C,e,h1,h2,h3,ts.f _ _ _ h5⟩
 | .fn b,v,h,_=>by simp only[Mi.rp,RD] at h⊢;exact h
 | .tup ds,v,h,hl=>by
  simp only[Mi.rp,RD,labs] at h hl⊢
  obtain⟨a,xs,e,s,r⟩:=h
  exact⟨a,xs,e,ts.t _ _ s,RDs.rp ts ds xs r hl⟩
 | .ro ds,v,h,hl=>by
  simp only[Mi.rp,RD,labs] at h hl⊢
  obtain⟨a,xs,e,s,r⟩:=h
  exact⟨a,xs,e,ts.ro s,RDs.rp ts ds xs r hl⟩
 | .fdc ks vs,v,h,hl=>by
  simp only[Mi.rp,RD,labs] at h hl⊢
  obtain⟨a,o,kvs,e,s,s2,r⟩:=h
  exact⟨a,o,kvs,e,ts.f _ _ _ s,s2,RDs.rp ts vs _ r hl⟩
 | .lst l ds,v,h,hl=>by
  simp only[Mi.rp,RD,labs] at h hl⊢
  obtain⟨e,xs,s,r⟩:=h
  obtain⟨e1,e2⟩:=hl l (List.mem_cons_self ..)
  cases ef:f l with
  |some d=>rw[ef] at e2;subst e;exact e2
  |none=>
   rw[ef] at e2
   simp only[RD]
   rw[e1]
   exact⟨e,xs,e2 _ s,RDs.rp ts ds xs r fun k hk=>hl k (List.mem_cons_of_mem _ hk)⟩
 | .dct l ks vs,v,h,hl=>by
  simp only[Mi.rp,RD,labs] at h hl⊢
  obtain⟨e,s⟩:=h
  obtain⟨e1,e2⟩:=hl l (List.mem_cons_self ..)
  cases ef:f l with
  |some d=>rw[ef] at e2;subst e;exact e2
  |none=>
   rw[ef] at e2
   simp only[RD]
   rw[e1]
   refine⟨e, ?_⟩
   rcases s with⟨kvs,s,s2,r⟩|⟨kvs,s,s2,r⟩
   ·exact .inl ⟨kvs,e2 _ s,s2,RDs.rp ts vs _ r fun k hk=>hl k (List.mem_cons_of_mem _ (List.mem_append_right _ hk))⟩
   ·exact .inr ⟨kvs,e2 _ s,s2,RDs.rp ts vs _ r fun k hk=>hl k (List.mem_cons_of_mem _ (List.mem_append_right _ hk))⟩
 | .obj l c ns vs,v,h,hl=>by
  simp only[Mi.rp,RD,labs] at h hl⊢
  obtain⟨e,C,dx,fs,hC,s,s2,r⟩:=h
  obtain⟨e1,e2⟩:=hl l (List.mem_cons_self ..)
  cases ef:f l with
  |some d=>rw[ef] at e2;subst e;exact e2
  |none=>
   rw[ef] at e2
   simp only[RD]
   rw[e1]
   exact⟨e,C,dx,fs,hC,e2 _ s,s2,RDs.rp ts vs _ r fun k hk=>hl k (List.mem_cons_of_mem _ hk)⟩
theorem RDs.rp(ts:z1c H H'): ∀(t:List D) (v:List V),RDs G ρ H t v->(∀l∈labsL t,ρ' l=ρ l/\(match f l with|some d=>RD G ρ' H' d (.ref (ρ l))|none=> ∀o,H (ρ l)=some o->H' (ρ l)=some o))->RDs G ρ' H' (rpL f t) v
 |[],v,h,_=>by simp only[rpL,RDs] at h⊢;exact h
 |d::ds,v,h,hl=>by
  simp only[rpL,RDs,labsL] at h hl⊢
  obtain⟨x,r,e,h1,h2⟩:=h
  exact⟨x,r,e,RD.rp ts d x h1 fun l hk=>hl l (List.mem_append_left _ hk),RDs.rp ts ds r h2 fun l hk=>hl l (List.mem_append_right _ hk)⟩
end
end
section
variable{f:Nat->Option D}
mutual
theorem z81(l:Nat): ∀t:D,l∈labs (rp f t)->l∈labs t\/∃k d,k∈labs t/\f k=some d/\l∈labs d
 | .non,h=>by simp only[rp,labs] at h;cases h
 | .bool b,h=>by simp only[rp,labs] at h;cases h
 | .int b,h=>by simp only[rp,labs] at h;cases h
 | .str b,h=>by simp only[rp,labs] at h;cases h
 | .exc b,h=>by simp only[rp,labs] at h;cases h
 | .fn b,h=>by simp only[rp,labs] at h;cases h
 | .tup ds,h=>by
  simp only[rp,labs] at h⊢
  exact labsL_rp l ds h
 | .ro ds,h=>by
  simp only[rp,labs] at h⊢
  exact labsL_rp l ds h
 | .fdc ks vs,h=>by
  simp only[rp,labs] at h⊢
  exact labsL_rp l vs h
 | .lst k ds,h=>by
  simp only[rp] at h
  cases e:f k with
  |some d=>rw[e] at h;exact .inr ⟨k,d,by simp only[labs];exact List.mem_cons_self ..,e,h⟩
  |none=>
   rw[e] at h
   simp only[labs] at h⊢
   rcases List.mem_cons.mp h with h|h
   ·exact .inl (List.mem_cons.mpr (.inl h))
   ·rcases labsL_rp l ds h with q|⟨k',d,q1,q2,q3⟩
    ·exact .inl (List.mem_cons_of_mem _ q)
    ·exact .inr ⟨k',d,List.mem_cons_of_mem _ q1,q2,q3⟩
 | .dct k ks vs,h=>by
  simp only[rp] at h
  cases e:f k with
  |some d=>rw[e] at h;exact .inr ⟨k,d,by simp only[labs];exact List.mem_cons_self ..,e,h⟩
  |none=>
   rw[e] at h
   simp only[labs] at h⊢
   rcases List.mem_cons.mp h with h|h
   ·exact .inl (List.mem_cons.mpr (.inl h))
   ·rcases List.mem_append.mp h with h|h
    ·exact .inl (List.mem_cons_of_mem _ (List.mem_append_left _ h))
    ·rcases labsL_rp l vs h with q|⟨k',d,q1,q2,q3⟩
     ·exact .inl (List.mem_cons_of_mem _ (List.mem_append_right _ q))
     ·exact .inr ⟨k',d,List.mem_cons_of_mem _ (List.mem_append_right _ q1),q2,q3⟩
 | .obj k c ns vs,h=>by
  simp only[rp] at h
  cases e:f k with
  |some d=>rw[e] at h;exact .inr ⟨k,d,by simp only[labs];exact List.mem_cons_self ..,e,h⟩
  |none=>
   rw[e] at h
   simp only[labs] at h⊢
   rcases List.mem_cons.mp h with h|h
   ·exact .inl (List.mem_cons.mpr (.inl h))
   ·rcases labsL_rp l vs h with q|⟨k',d,q1,q2,q3⟩
    ·exact .inl (List.mem_cons_of_mem _ q)
    ·exact .inr ⟨k',d,List.mem_cons_of_mem _ q1,q2,q3⟩
theorem labsL_rp(l:Nat): ∀t:List D,l∈labsL (rpL f t)->l∈labsL t\/∃k d,k∈labsL t/\f k=some d/\l∈labs d
 |[],h=>by simp only[rpL,labsL] at h;cases h
 |d::ds,h=>by
  simp only[rpL,labsL] at h⊢
  rcases List.mem_append.mp h with h|h
  ·rcases z81 l d h with q|⟨k',d,q1,q2,q3⟩
   ·exact .inl (List.mem_append_left _ q)
   ·exact .inr ⟨k',d,List.mem_append_left _ q1,q2,q3⟩
  ·rcases labsL_rp l ds h with q|⟨k',d,q1,q2,q3⟩
   ·exact .inl (List.mem_append_right _ q)
   ·exact .inr ⟨k',d,List.mem_append_right _ q1,q2,q3⟩
end
theorem z3r(l:Nat): ∀t:List (Option D),l∈z06 (rpO f t)->l∈z06 t\/∃k d,k∈z06 t/\f k=some d/\l∈labs d
 |[],h=>by simp only[rpO,z06] at h;cases h
 |none::r,h=>by simp only[rpO,z06] at h⊢;exact z3r l r h
 |some d::ds,h=>by
  simp only[rpO,z06] at h⊢
  rcases List.mem_append.mp h with h|h
  ·rcases z81 l d h with q|⟨k',d,q1,q2,q3⟩
   ·exact .inl (List.mem_append_left _ q)
   ·exact .inr ⟨k',d,List.mem_append_left _ q1,q2,q3⟩
  ·rcases z3r l ds h with q|⟨k',d,q1,q2,q3⟩
   ·exact .inl (List.mem_append_right _ q)
   ·exact .inr ⟨k',d,List.mem_append_right _ q1,q2,q3⟩
end
structure Stt where
 σ:List (Option D)
 tm:List (Option D)
 n:Nat
structure Fx where
 A0:Addr->Prop
 H0:Hp
 Z:Addr->Prop
 zA: ∀a,Z a->(∃o,H0 a=some o)/\¬A0 a
 aH: ∀a,A0 a->∃o,H0 a=some o
 n0:Nat
 ρ0:Nat->Addr
noncomputable def KD(K:W.Frag)(H:Hp):Prop:= ∀a o,K.lookup a=some o->H a=none
section
variable(G:Gx)(ρ:Nat->Addr)(H:Hp)
noncomputable def Sl:List (Option D)->List (Option V)->Prop
 |[],vs=>vs=[]
 |none::r,vs=> ∃o q,vs=o::q/\Sl r q
 |some d::r,vs=> ∃v q,vs=some v::q/\RD G ρ H d v/\Sl r q
end
noncomputable def z0H(s:Stt):List Nat:=z06 s.σ++z06 s.tm
structure MR(G:Gx)(F:Fx)(ρ:Nat->Addr)(H:Hp)(σv tv:List (Option V))(s:Stt):Prop where
 sl:Sl G ρ H s.σ σv
 tm:Sl G ρ H s.tm tv
 inj: ∀i j,i<s.n->j<s.n->ρ i=ρ j->i=j
 dom: ∀l,l<s.n->∃o,H (ρ l)=some o
 lab: ∀l∈z0H s,l<s.n
 own: ∀l∈z0H s,F.A0 (ρ l)\/F.H0 (ρ l)=none
 frm: ∀a o,F.H0 a=some o->(∃o',H a=some o')/\(¬F.A0 a->H a=some o)
 kd:KD G.K H
 frb: ∀l,l<s.n->¬F.Z (ρ l)
 bas:F.n0<=s.n/\∀l,l<F.n0->ρ l=F.ρ0 l
noncomputable def Stt.psh(s:Stt)(t:D):Stt:={s with tm:=some t::s.tm}
noncomputable def Stt.nxt(s:Stt):Stt:={s with n:=s.n+1}
section
variable{G:Gx}{F:Fx}{ρ ρ':Nat->Addr}{H H':Hp}{σv tv:List (Option V)}{s:Stt}{t:D}{v:V}
theorem Sl.stay(ts:z1c H H'): ∀{σ:List (Option D)} {σv:List (Option V)},Sl G ρ H σ σv->(∀l∈z06 σ,ρ' l=ρ l/\∀o,H (ρ l)=some o->H' (ρ l)=some o)->Sl G ρ' H' σ σv
 |[],_,h,_=>h
 |none::r,_,h,hl=>by
  simp only[Sl,z06] at h hl⊢
  obtain⟨o,q,e,h⟩:=h
  exact⟨o,q,e,Sl.stay ts h hl⟩
 |some d::r,_,h,hl=>by
  simp only[Sl,z06] at h hl⊢
  obtain⟨o,q,e,h1,h⟩:=h
  exact⟨o,q,e,RD.stay ts d o h1 fun l hk=>hl l (List.mem_append_left _ hk),Sl.stay ts h fun l hk=>hl l (List.mem_append_right _ hk)⟩
theorem Sl.rp{f:Nat->Option D}(ts:z1c H H'): ∀{σ:List (Option D)} {σv:List (Option V)},Sl G ρ H σ σv->
 (∀l∈z06 σ,ρ' l=ρ l/\(match f l with|some d=>RD G ρ' H' d (.ref (ρ l))|none=> ∀o,H (ρ l)=some o->H' (ρ l)=some o))->Sl G ρ' H' (rpO f σ) σv
 |[],_,h,_=>h
 |none::r,_,h,hl=>by
  simp only[Sl,z06,rpO] at h hl⊢
  obtain⟨o,q,e,h⟩:=h
  exact⟨o,q,e,Sl.rp ts h hl⟩
 |some d::r,_,h,hl=>by
  simp only[Sl,z06,rpO] at h hl⊢
  obtain⟨o,q,e,h1,h⟩:=h
  exact⟨o,q,e,RD.rp ts d o h1 fun l hk=>hl l (List.mem_append_left _ hk),Sl.rp ts h fun l hk=>hl l (List.mem_append_right _ hk)⟩
theorem Sl.get: ∀{σ:List (Option D)} {σv:List (Option V)},Sl G ρ H σ σv->∀(i:Nat) (d:D),σ[i]? =some (some d)->∃v,σv[i]? =some (some v)/\RD G ρ H d v
 |[],_,_,i,d,e=>by simp at e
 |none::r,_,h,i,d,e=>by
  simp only[Sl] at h
  obtain⟨o,q,rfl,h⟩:=h
  cases i with
  |zero=>simp at e
  |succ i=>simpa using Sl.get h i d (by simpa using e)
 |some d'::r,_,h,i,d,e=>by
  simp only[Sl] at h
  obtain⟨v,q,rfl,h1,h⟩:=h
  cases i with
  |zero=>simp at e;subst e;exact⟨v,rfl,h1⟩
  |succ i=>simpa using Sl.get h i d (by simpa using e)
theorem Sl.length: ∀{σ:List (Option D)} {σv:List (Option V)},Sl G ρ H σ σv->σ.length=σv.length
 |[],_,h=>by simp only[Sl] at h;subst h;rfl
 |none::r,_,h=>by
  simp only[Sl] at h
  obtain⟨o,q,rfl,h⟩:=h
  simp[Sl.length h]
 |some d'::r,_,h=>by
  simp only[Sl] at h
  obtain⟨v,q,rfl,h1,h⟩:=h
  simp[Sl.length h]
theorem Sl.set: ∀{σ:List (Option D)} {σv:List (Option V)} (i:Nat),Sl G ρ H σ σv->RD G ρ H t v->Sl G ρ H (σ.set i (some t)) (σv.set i (some v))
 |[],_,i,h,_=>by simp only[Sl] at h;subst h;simp[Sl]
 |none::r,_,i,h,ht=>by
  simp only[Sl] at h
  obtain⟨o,q,rfl,h⟩:=h
  cases i with
  |zero=>simp only[List.set_cons_zero,Sl];exact⟨_,_,rfl,ht,h⟩
  |succ i=>simp only[List.set_cons_succ,Sl];exact⟨_,_,rfl,Sl.set i h ht⟩
 |some d'::r,_,i,h,ht=>by
  simp only[Sl] at h
  obtain⟨v',q,rfl,h1,h⟩:=h
  cases i with
  |zero=>simp only[List.set_cons_zero,Sl];exact⟨_,_,rfl,ht,h⟩
  |succ i=>simp only[List.set_cons_succ,Sl];exact⟨_,_,rfl,h1,Sl.set i h ht⟩
theorem Sl.append: ∀{σ σ':List (Option D)} {σv σv':List (Option V)},Sl G ρ H σ σv->Sl G ρ H σ' σv'->Sl G ρ H (σ++σ') (σv++σv')
 |[],_,_,_,h,h'=>by simp only[Sl] at h;subst h;exact h'
 |none::r,_,_,_,h,h'=>by
  simp only[Sl] at h
  obtain⟨o,q,rfl,h⟩:=h
  simp only[List.cons_append,Sl];exact⟨_,_,rfl,Sl.append h h'⟩
 |some d'::r,_,_,_,h,h'=>by
  simp only[Sl] at h
  obtain⟨v,q,rfl,h1,h⟩:=h
  simp only[List.cons_append,Sl];exact⟨_,_,rfl,h1,Sl.append h h'⟩
theorem Sl.split: ∀(σv:List (Option V)) {σ:List (Option D)} {tv:List (Option V)},Sl G ρ H σ (σv++tv)->Sl G ρ H (σ.take σv.length) σv/\Sl G ρ H (σ.drop σv.length) tv
 |[],σ,tv,h=>⟨by simp[Sl],by simpa using h⟩
 |o::σv,[],tv,h=>by simp[Sl] at h
 |o::σv,none::r,tv,h=>by
  simp only[List.cons_append,Sl] at h
  obtain⟨o',q,e,h⟩:=h
  cases e
  obtain⟨h1,h2⟩:=Sl.split σv h
  simp only[List.length_cons,List.take_succ_cons,List.drop_succ_cons,Sl]
  exact⟨⟨_,_,rfl,h1⟩,h2⟩
 |o::σv,some d::r,tv,h=>by
  simp only[List.cons_append,Sl] at h
  obtain⟨o',q,e,h0,h⟩:=h
  cases e
  obtain⟨h1,h2⟩:=Sl.split σv h
  simp only[List.length_cons,List.take_succ_cons,List.drop_succ_cons,Sl]
  exact⟨⟨_,_,rfl,h0,h1⟩,h2⟩
theorem z2J: ∀{σ:List (Option D)} {i:Nat} {d:D},σ[i]? =some (some d)->∀l∈labs d,l∈z06 σ
 |[],i,d,e,l,h=>by simp at e
 |none::r,i,d,e,l,h=>by
  simp only[z06]
  cases i with
  |zero=>simp at e
  |succ i=>exact z2J (i:=i) (by simpa using e) l h
 |some d'::r,i,d,e,l,h=>by
  simp only[z06]
  cases i with
  |zero=>simp at e;subst e;exact List.mem_append_left _ h
  |succ i=>exact List.mem_append_right _ (z2J (i:=i) (by simpa using e) l h)
theorem z3D: ∀{σ:List (Option D)} {i:Nat} {d:D} (l:Nat),l∈z06 (σ.set i (some d))->l∈z06 σ\/l∈labs d
 |[],i,d,l,h=>by simp[z06] at h
 |none::r,i,d,l,h=>by
  cases i with
  |zero=>
   simp only[List.set_cons_zero,z06] at h⊢
   rcases List.mem_append.mp h with h|h
   ·exact .inr h
   ·exact .inl h
  |succ i=>
   simp only[List.set_cons_succ,z06] at h⊢
   exact z3D l h
 |some d'::r,i,d,l,h=>by
  cases i with
  |zero=>
   simp only[List.set_cons_zero,z06] at h⊢
   rcases List.mem_append.mp h with h|h
   ·exact .inr h
   ·exact .inl (List.mem_append_right _ h)
  |succ i=>
   simp only[List.set_cons_succ,z06] at h⊢
   rcases List.mem_append.mp h with h|h
   ·exact .inl (List.mem_append_left _ h)
   ·rcases z3D l h with q|q
    ·exact .inl (List.mem_append_right _ q)
    ·exact .inr q
theorem z0c: ∀(σ σ':List (Option D)),z06 (σ++σ')=z06 σ++z06 σ'
 |[],_=>rfl
 |none::r,σ'=>by simp only[List.cons_append,z06,z0c r σ']
 |some d::r,σ'=>by simp only[List.cons_append,z06,z0c r σ',List.append_assoc]
theorem z0u: ∀(σ σ':List D),labsL (σ++σ')=labsL σ++labsL σ'
 |[],_=>rfl
 |d::r,σ'=>by simp only[List.cons_append,labsL,z0u r σ',List.append_assoc]
theorem labsL_mem: ∀{ds:List D} {d:D},d∈ds->∀l∈labs d,l∈labsL ds
 |_::ds,d,h,l,hl=>by
  simp only[labsL]
  rcases List.mem_cons.mp h with rfl|h
  ·exact List.mem_append_left _ hl
  ·exact List.mem_append_right _ (labsL_mem h l hl)
theorem z0O: ∀{ds:List D} {l:Nat},l∈labsL ds->∃d∈ds,l∈labs d
 |d::ds,l,h=>by
  simp only[labsL] at h
  rcases List.mem_append.mp h with h|h
  ·exact⟨d,List.mem_cons_self ..,h⟩
  ·obtain⟨x,h1,h2⟩:=z0O h
   exact⟨x,List.mem_cons_of_mem _ h1,h2⟩
theorem RDs.get: ∀{ds:List D} {xs:List V},RDs G ρ H ds xs->∀(i:Nat) (d:D),ds[i]? =some d->∃x,xs[i]? =some x/\RD G ρ H d x
 |[],_,_,i,d,e=>by simp at e
 |d'::r,_,h,i,d,e=>by
  simp only[RDs] at h
  obtain⟨x,q,rfl,h1,h2⟩:=h
  cases i with
  |zero=>simp at e;subst e;exact⟨x,rfl,h1⟩
  |succ i=>simpa using RDs.get h2 i d (by simpa using e)
theorem RDs.length: ∀{ds:List D} {xs:List V},RDs G ρ H ds xs->ds.length=xs.length
 |[],_,h=>by simp only[RDs] at h;subst h;rfl
 |d'::r,_,h=>by
  simp only[RDs] at h
  obtain⟨x,q,rfl,h1,h2⟩:=h
  simp[RDs.length h2]
theorem RDs.append: ∀{ds es:List D} {xs ys:List V},RDs G ρ H ds xs->RDs G ρ H es ys->RDs G ρ H (ds++es) (xs++ys)
 |[],_,_,_,h,h'=>by simp only[RDs] at h;subst h;exact h'
 |d'::r,_,_,_,h,h'=>by
  simp only[RDs] at h
  obtain⟨x,q,rfl,h1,h2⟩:=h
  simp only[List.cons_append,RDs]
  exact⟨_,_,rfl,h1,RDs.append h2 h'⟩
theorem RDs.one{d:D}{x:V}(h:RD G ρ H d x):RDs G ρ H [d] [x]:=by simp only[RDs];exact⟨_,_,rfl,h,rfl⟩
theorem RDs.take: ∀{ds:List D} {xs:List V} (k:Nat),RDs G ρ H ds xs->RDs G ρ H (ds.take k) (xs.take k)
 |_,_,0,_=>by simp[RDs]
 |[],_,k+1,h=>by simp only[RDs] at h;subst h;simp[RDs]
 |d'::r,_,k+1,h=>by
  simp only[RDs] at h
  obtain⟨x,q,rfl,h1,h2⟩:=h
  simp only[List.take_succ_cons,RDs]
  exact⟨_,_,rfl,h1,RDs.take k h2⟩
theorem RDs.drop: ∀{ds:List D} {xs:List V} (k:Nat),RDs G ρ H ds xs->RDs G ρ H (ds.drop k) (xs.drop k)
 |_,_,0,h=>h
 |[],_,k+1,h=>by simp only[RDs] at h;subst h;simp[RDs]
 |d'::r,_,k+1,h=>by
  simp only[RDs] at h
  obtain⟨x,q,rfl,h1,h2⟩:=h
  simp only[List.drop_succ_cons]
  exact RDs.drop k h2
theorem RDs.reverse: ∀{ds:List D} {xs:List V},RDs G ρ H ds xs->RDs G ρ H ds.reverse xs.reverse
 |[],_,h=>by simp only[RDs] at h;subst h;simp[RDs]
 |d'::r,_,h=>by
  simp only[RDs] at h
  obtain⟨x,q,rfl,h1,h2⟩:=h
  rw[List.reverse_cons,List.reverse_cons]
  exact RDs.append (RDs.reverse h2) (RDs.one h1)
theorem RDs.set: ∀{ds:List D} {xs:List V} (k:Nat),RDs G ρ H ds xs->RD G ρ H t v->RDs G ρ H (ds.set k t) (xs.set k v)
 |[],_,k,h,_=>by simp only[RDs] at h;subst h;simp[RDs]
 |d'::r,_,0,h,ht=>by
  simp only[RDs] at h
  obtain⟨x,q,rfl,h1,h2⟩:=h
  simp only[List.set_cons_zero,RDs];exact⟨_,_,rfl,ht,h2⟩
 |d'::r,_,k+1,h,ht=>by
  simp only[RDs] at h
  obtain⟨x,q,rfl,h1,h2⟩:=h
  simp only[List.set_cons_succ,RDs];exact⟨_,_,rfl,h1,RDs.set k h2 ht⟩
theorem MR.pop{o:Option V}{r:Option D}(M:MR G F ρ H σv (o::tv) {s with tm:=r::s.tm}):MR G F ρ H σv tv s where
 sl:=M.sl
 tm:=by
  have h:=M.tm
  cases r with
  |none=>simp only[Sl] at h;obtain⟨_,_,e,h⟩:=h;cases e;exact h
  |some t=>simp only[Sl] at h;obtain⟨_,_,e,_,h⟩:=h;cases e;exact h
 inj:=M.inj
 dom:=M.dom
 lab:=fun l h=>M.lab l (by
  rcases List.mem_append.mp h with h|h
  ·exact List.mem_append_left _ h
  ·refine List.mem_append_right _ ?_
   cases r with
   |none=>exact h
   |some t=>exact List.mem_append_right _ h)
 own:=fun l h=>M.own l (by
  rcases List.mem_append.mp h with h|h
  ·exact List.mem_append_left _ h
  ·refine List.mem_append_right _ ?_
   cases r with
   |none=>exact h
   |some t=>exact List.mem_append_right _ h)
 frm:=M.frm
 kd:=M.kd
 frb:=M.frb
 bas:=M.bas
theorem MR.top(M:MR G F ρ H σv (some v::tv) (s.psh t)):RD G ρ H t v:=by
 have h:=M.tm
 have h:Sl G ρ H (some t::s.tm) (some v::tv):=h
 simp only[Sl] at h
 obtain⟨_,_,e,h,_⟩:=h
 cases e
 exact h
theorem MR.topl(M:MR G F ρ H σv tv (s.psh t)): ∀l∈labs t,l<s.n/\(F.A0 (ρ l)\/F.H0 (ρ l)=none):=fun l h=>
 have m:l∈z0H (s.psh t):=List.mem_append_right _ (List.mem_append_left _ h)
 ⟨M.lab l m,M.own l m⟩
theorem MR.same(M:MR G F ρ H σv tv s)(h:Same H H')(k:KD G.K H'):MR G F ρ H' σv tv s where
 sl:=Sl.stay (z1c.of h) M.sl fun l _=>⟨rfl,fun o e=>h _ _ e⟩
 tm:=Sl.stay (z1c.of h) M.tm fun l _=>⟨rfl,fun o e=>h _ _ e⟩
 inj:=M.inj
 dom:=fun l hl=>let⟨o,e⟩:=M.dom l hl;⟨o,h _ _ e⟩
 lab:=M.lab
 own:=M.own
 frm:=fun a o e=>let⟨⟨o',e1⟩,e2⟩:=M.frm a o e;⟨⟨o',h _ _ e1⟩,fun n=>h _ _ (e2 n)⟩
 kd:=k
 frb:=M.frb
 bas:=M.bas
theorem RDs.same{ts:List D}{vs:List V}(h:Same H H')(r:RDs G ρ H ts vs):RDs G ρ H' ts vs:=RDs.stay (z1c.of h) ts vs r fun l _=>⟨rfl,fun o e=>h _ _ e⟩
noncomputable def ext(ρ:Nat->Addr)(n:Nat)(p:Addr):Nat->Addr:=fun l=>if l=n then p else ρ l
theorem z0k{n l:Nat}{p:Addr}(h:l<n):ext ρ n p l=ρ l:=by unfold ext;rw[if_neg (by lia)]
theorem z0F{n:Nat}{p:Addr}:ext ρ n p n=p:=by unfold ext;rw[if_pos rfl]
theorem MR.new{p:Addr}{o:HO}(M:MR G F ρ H σv tv s)(hp:H p=none)(k:KD G.K (upd H p o)):MR G F (ext ρ s.n p) (upd H p o) σv tv s.nxt where
 sl:=Sl.stay (z1c.of (Same.new o hp)) M.sl fun l hl=>⟨z0k (M.lab l (List.mem_append_left _ hl)),fun o e=>Same.new _ hp _ _ e⟩
 tm:=Sl.stay (z1c.of (Same.new o hp)) M.tm fun l hl=>⟨z0k (M.lab l (List.mem_append_right _ hl)),fun o e=>Same.new _ hp _ _ e⟩
 inj:=fun i j hi hj e=>by
  have hi:i<s.n+1:=hi
  have hj:j<s.n+1:=hj
  have nn: ∀i,i<s.n->ρ i≠p:=fun i h e=>by
   obtain⟨o,q⟩:=M.dom i h
   rw[e,hp] at q;cases q
  by_cases h1:i=s.n
  ·by_cases h2:j=s.n
   ·lia
   ·rw[h1,z0F,z0k (by lia)] at e
    exact absurd e.symm (nn j (by lia))
  ·by_cases h2:j=s.n
   ·rw[h2,z0F,z0k (by lia)] at e
    exact absurd e (nn i (by lia))
   ·rw[z0k (by lia),z0k (by lia)] at e
    exact M.inj i j (by lia) (by lia) e
 dom:=fun l hl=>by
  have hl:l<s.n+1:=hl
  by_cases h1:l=s.n
  ·subst h1;rw[z0F];exact⟨o,z09⟩
  ·rw[z0k (by lia)]
   obtain⟨o',e⟩:=M.dom l (by lia)
   exact⟨o',Same.new _ hp _ _ e⟩
 lab:=fun l h=>Nat.lt_succ_of_lt (M.lab l h)
 own:=fun l h=>by rw[z0k (M.lab l h)];exact M.own l h
 frm:=fun a o e=>let⟨⟨o',e1⟩,e2⟩:=M.frm a o e;⟨⟨o',Same.new _ hp _ _ e1⟩,fun n=>Same.new _ hp _ _ (e2 n)⟩
 kd:=k
 frb:=fun l hl=>by
  have hl:l<s.n+1:=hl
  by_cases h1:l=s.n
  ·subst h1;rw[z0F]
   intro z
   obtain⟨⟨o,e⟩,_⟩:=F.zA p z
   obtain⟨⟨o',e'⟩,_⟩:=M.frm p o e
   rw[hp] at e';cases e'
  ·rw[z0k (by lia)]
   exact M.frb l (by lia)
 bas:=⟨Nat.le_succ_of_le M.bas.1,fun l hl=>by rw[z0k (Nat.lt_of_lt_of_le hl M.bas.1)];exact M.bas.2 l hl⟩
theorem MR.fresh0{p:Addr}(M:MR G F ρ H σv tv s)(hp:H p=none):F.H0 p=none:=by
 cases q:F.H0 p with
 |none=>rfl
 |some o=>
  obtain⟨⟨o',e⟩,_⟩:=M.frm p o q
  rw[hp] at e;cases e
theorem MR.newPush{p:Addr}{o:HO}(M:MR G F ρ H σv tv s)(hp:H p=none)(k:KD G.K (upd H p o))(h:RD G (ext ρ s.n p) (upd H p o) t (.ref p))(hl: ∀l∈labs t,l∈z0H s\/l=s.n):
 MR G F (ext ρ s.n p) (upd H p o) σv (some (.ref p)::tv) (s.nxt.psh t):=by
 have M2:=M.new hp k
 refine⟨M2.sl, ?_,M2.inj,M2.dom,fun l h=> ?_,fun l h=> ?_,M2.frm,M2.kd,M2.frb,M2.bas⟩
 ·show Sl G _ _ (some t::s.tm) _
  simp only[Sl]
  exact⟨_,tv,rfl,h,M2.tm⟩
 ·have h:l∈z06 s.σ++(labs t++z06 s.tm):=h
  show l<s.n+1
  rcases List.mem_append.mp h with h|h
  ·exact M2.lab l (List.mem_append_left _ h)
  ·rcases List.mem_append.mp h with h|h
   ·rcases hl l h with q|q
    ·exact M2.lab l q
    ·lia
   ·exact M2.lab l (List.mem_append_right _ h)
 ·have h:l∈z06 s.σ++(labs t++z06 s.tm):=h
  rcases List.mem_append.mp h with h|h
  ·exact M2.own l (List.mem_append_left _ h)
  ·rcases List.mem_append.mp h with h|h
   ·rcases hl l h with q|q
    ·exact M2.own l q
    ·rw[q,z0F];exact .inr (M.fresh0 hp)
   ·exact M2.own l (List.mem_append_right _ h)
noncomputable def Stt.put(s:Stt)(l:Nat)(d:D):Stt:={s with σ:=rpO (fun k=>if k=l then some d else none) s.σ,tm:=rpO (fun k=>if k=l then some d else none) s.tm}
end
inductive Res(α:Type) where
 |ok (a:α) (s:Stt)|ex (d:D) (s:Stt)|no
noncomputable abbrev M(α:Type):=Stt->Res α
noncomputable def bd{α β:Type}(m:M α)(f:α->M β):M β:=fun s=>match m s with
 | .ok a s'=>f a s'
 | .ex d s'=> .ex d s'
 | .no=> .no
noncomputable def rt{α:Type}(a:α):M α:=fun s=> .ok a s
noncomputable def fl{α:Type}:M α:=fun _=> .no
noncomputable def psh(t:D):M Unit:=fun s=> .ok () (s.psh t)
noncomputable def pop:M D:=fun s=>match s.tm with
 |some t::r=> .ok t {s with tm:=r}
 |_=> .no
structure Fy extends Fx where
 tv0:List (Option V)
 xw:D->Stt->Prop
structure MRL(G:Gx)(F:Fx)(ρ:Nat->Addr)(H:Hp)(σv tv:List (Option V))(s:Stt)(ts:List D)(vs:List V):Prop where
 m:MR G F ρ H σv tv s
 rd:RDs G ρ H ts vs
 lb: ∀l∈labsL ts,l<s.n/\(F.A0 (ρ l)\/F.H0 (ρ l)=none)
section
variable{G:Gx}{F:Fy}{ρ ρ':Nat->Addr}{H H':Hp}{σv tv:List (Option V)}{s:Stt}{t t':D}{v u:V}{ts:List D}{vs:List V}{Q:VK}
theorem MRL.rd1(M:MRL G F.toFx ρ H σv tv s [t] [v]):RD G ρ H t v:=by
 have h:=M.rd
 simp only[RDs] at h
 obtain⟨_,_,e,h,_⟩:=h
 cases e;exact h
theorem MRL.rd2(M:MRL G F.toFx ρ H σv tv s [t,t'] [v,u]):RD G ρ H t v/\RD G ρ H t' u:=by
 have h:=M.rd
 simp only[RDs] at h
 obtain⟨_,_,e,h,_,_,e',h',_⟩:=h
 cases e;cases e';exact⟨h,h'⟩
theorem MRL.push(M:MRL G F.toFx ρ H σv tv s [t] [v]):MR G F.toFx ρ H σv (some v::tv) (s.psh t):=by
 have hl: ∀l∈labs t,l<s.n/\(F.A0 (ρ l)\/F.H0 (ρ l)=none):=fun l h=>M.lb l (by simp only[labsL,List.append_nil];exact h)
 refine⟨M.m.sl, ?_,M.m.inj,M.m.dom,fun l h=> ?_,fun l h=> ?_,M.m.frm,M.m.kd,M.m.frb,M.m.bas⟩
 ·show Sl G ρ H (some t::s.tm) _
  simp only[Sl]
  exact⟨v,tv,rfl,M.rd1,M.m.tm⟩
 ·have h:l∈z06 s.σ++(labs t++z06 s.tm):=h
  rcases List.mem_append.mp h with h|h
  ·exact M.m.lab l (List.mem_append_left _ h)
  ·rcases List.mem_append.mp h with h|h
   ·exact(hl l h).1
   ·exact M.m.lab l (List.mem_append_right _ h)
 ·have h:l∈z06 s.σ++(labs t++z06 s.tm):=h
  rcases List.mem_append.mp h with h|h
  ·exact M.m.own l (List.mem_append_left _ h)
  ·rcases List.mem_append.mp h with h|h
   ·exact(hl l h).2
   ·exact M.m.own l (List.mem_append_right _ h)
theorem MRL.down{s':Stt}{r:List (Option D)}(M:MRL G F.toFx ρ H σv (some v::tv) s' ts vs)(e:s'.tm=some t::r):MRL G F.toFx ρ H σv tv {s' with tm:=r} (t::ts) (v::vs):=by
 obtain⟨σ,tm,n⟩:=s'
 have e:tm=some t::r:=e
 subst e
 refine⟨MR.pop (s:=⟨σ,r,n⟩) M.m, ?_,fun l h=> ?_⟩
 ·simp only[RDs]
  exact⟨v,vs,rfl,MR.top (s:=⟨σ,r,n⟩) M.m,M.rd⟩
 ·simp only[labsL] at h
  rcases List.mem_append.mp h with h|h
  ·exact MR.topl (s:=⟨σ,r,n⟩) M.m l h
  ·exact M.lb l h
noncomputable def wM(G:Gx)(F:Fy)(σv tv:List (Option V))(r:Res D)(Q:VK):Prop:=match r with
 | .ok t s'=> ∀ρ' v H',MRL G F.toFx ρ' H' σv tv s' [t] [v]->Q v H'
 | .ex d s'=>F.xw d s'
 | .no=>False
noncomputable def wL(G:Gx)(F:Fy)(σv tv:List (Option V))(r:Res (List D))(Q:List V->Hp->Prop):Prop:=match r with
 | .ok ts s'=> ∀ρ' vs H',MRL G F.toFx ρ' H' σv tv s' ts vs->Q vs H'
 | .ex d s'=>F.xw d s'
 | .no=>False
noncomputable def wB(G:Gx)(F:Fy)(σv tv:List (Option V))(r:Res Bool)(Q:Bool->Hp->Prop):Prop:=match r with
 | .ok b s'=> ∀ρ' H',MR G F.toFx ρ' H' σv tv s'->Q b H'
 | .ex d s'=>F.xw d s'
 | .no=>False
noncomputable def tMv(G:Gx)(F:Fy)(m:M D)(σv tv:List (Option V))(H:Hp)(Q:VK):Prop:=F.tv0<:+tv/\∃ρ s,MR G F.toFx ρ H σv tv s/\wM G F σv tv (m s) Q
noncomputable def tLv(G:Gx)(F:Fy)(m:M (List D))(σv tv:List (Option V))(H:Hp)(Q:List V->Hp->Prop):Prop:=F.tv0<:+tv/\∃ρ s,MR G F.toFx ρ H σv tv s/\wL G F σv tv (m s) Q
noncomputable def tBv(G:Gx)(F:Fy)(m:M Bool)(σv tv:List (Option V))(H:Hp)(Q:Bool->Hp->Prop):Prop:=F.tv0<:+tv/\∃ρ s,MR G F.toFx ρ H σv tv s/\wB G F σv tv (m s) Q
noncomputable def tM(G:Gx)(F:Fy)(m:M D):TE:=fun σv H Q=> ∃tv,tMv G F m σv tv H Q
noncomputable def tML(G:Gx)(F:Fy)(m:M (List D)):TA:=fun σv H Q=> ∃tv,tLv G F m σv tv H Q
noncomputable def tMB(G:Gx)(F:Fy)(m:M Bool):TT:=fun σv H Q=> ∃tv,tBv G F m σv tv H Q
noncomputable def SE(X:Cx)(G:Gx)(F:Fy)(e:Expr)(m:M D):Prop:=PE X e (tM G F m)
noncomputable def SA(X:Cx)(G:Gx)(F:Fy)(es:List Expr)(m:M (List D)):Prop:=PA X es (tML G F m)
noncomputable def SB(X:Cx)(G:Gx)(F:Fy)(e:Expr)(m:M Bool):Prop:=PT X e (tMB G F m)
theorem suf1{o:Option V}(h:F.tv0<:+tv):F.tv0<:+o::tv:=h.trans (List.suffix_cons _ _)
theorem z3q{m:M D}{f:D->M D}(h:tMv G F (bd m f) σv tv H Q):tMv G F m σv tv H (fun v H1=> ∃ρ1 s1 t,MRL G F.toFx ρ1 H1 σv tv s1 [t] [v]/\wM G F σv tv (f t s1) Q):=by
 obtain⟨hs,ρ,s,M,W⟩:=h
 refine⟨hs,ρ,s,M, ?_⟩
 unfold bd at W
 cases e:m s with
 |ok t s1=>rw[e] at W;exact fun ρ1 v H1 M1=>⟨ρ1,s1,t,M1,W⟩
 |ex d s1=>rw[e] at W;exact W
 |no=>rw[e] at W;exact W
noncomputable def mBin(ma mb:M D)(g:D->D->M D):M D:=bd ma fun x=>bd (psh x) fun _=>bd mb fun y=>bd pop fun x'=>g x' y
theorem z6p{ma mb:M D}{g:D->D->M D}(h:tMv G F (mBin ma mb g) σv tv H Q):
 tMv G F ma σv tv H (fun v H1=>tMv G F mb σv (some v::tv) H1 (fun u H2=> ∃ρ2 s2 t t',MRL G F.toFx ρ2 H2 σv tv s2 [t,t'] [v,u]/\wM G F σv tv (g t t' s2) Q)):=by
 have h':=z3q h
 obtain⟨hs,ρ,s,M,W⟩:=h'
 refine⟨hs,ρ,s,M, ?_⟩
 cases e:ma s with
 |ok t s1=>
  rw[e] at W
  intro ρ1 v H1 M1
  obtain⟨ρ1,s1,t,M1,W⟩:=W ρ1 v H1 M1
  refine⟨suf1 hs,ρ1,s1.psh t,M1.push, ?_⟩
  simp only[bd,psh] at W
  cases e2:mb (s1.psh t) with
  |ok y s2=>
   rw[e2] at W
   intro ρ2 u H2 M2
   simp only[pop] at W
   cases e3:s2.tm with
   |nil=>rw[e3] at W;exact W.elim
   |cons o r=>
    cases o with
    |none=>rw[e3] at W;exact W.elim
    |some t'=>
     rw[e3] at W
     exact⟨ρ2,{s2 with tm:=r},t',y,M2.down e3,W⟩
  |ex d s2=>rw[e2] at W;exact W
  |no=>rw[e2] at W;exact W
 |ex d s1=>rw[e] at W;exact W
 |no=>rw[e] at W;exact W
noncomputable def z02:List (M D)->M (List D)
 |[]=>rt []
 |m::ms=>bd m fun x=>bd (psh x) fun _=>bd (z02 ms) fun ys=>bd pop fun x'=>rt (x'::ys)
end
section
variable{X:Cx}{G:Gx}{F:Fy}{e a b c:Expr}{pos:Pos}
theorem Inv.kd{pins:List (Addr×Obj)}{σ:St}{H:Hp}{s:Shared}(I:Inv X pins σ H s):KD X.K H:=fun a o e=>(I.bs a o (I.ok.mod.kin a o e)).2
theorem PE.imp{t t':TE}(hk:X.K=G.K)(h:PE X e t)(hi: ∀σ H Q,t' σ H Q->t σ H (fun v H'=>KD G.K H'->Q v H')):PE X e t':=fun pins s σ H Q I q=>
 thn (h pins s σ H _ I (hi σ H Q q)) fun u s' ⟨v,H',I',r,k⟩=>⟨v,H',I',r,k (hk▸Inv.kd I')⟩
theorem PT.imp{t t':TT}(hk:X.K=G.K)(h:PT X e t)(hi: ∀σ H Q,t' σ H Q->t σ H (fun v H'=>KD G.K H'->Q v H')):PT X e t':=fun pins s σ H Q I q=>
 thn (h pins s σ H _ I (hi σ H Q q)) fun u s' ⟨H',I',k⟩=>⟨H',I',k (hk▸Inv.kd I')⟩
theorem PA.imp{es:List Expr}{t t':TA}(hk:X.K=G.K)(h:PA X es t)(hi: ∀σ H Q,t' σ H Q->t σ H (fun v H'=>KD G.K H'->Q v H')):PA X es t':=fun pos pins s σ H Q I q=>
 thn (h pos pins s σ H _ I (hi σ H Q q)) fun u s' ⟨v,H',I',r,k⟩=>⟨v,H',I',r,k (hk▸Inv.kd I')⟩
noncomputable def OpOK(G:Gx)(F:Fy)(r:R2)(g:D->D->M D):Prop:= ∀ρ s t t' v u H σv tv Q,MRL G F.toFx ρ H σv tv s [t,t'] [v,u]->wM G F σv tv (g t t' s) Q->r v u H (fun w H'=>KD G.K H'->Q w H')
noncomputable def z2u(G:Gx)(F:Fy)(r:R2)(g:D->D->M D):Prop:= ∀ρ s t t' v u H σv tv Q,MRL G F.toFx ρ H σv tv s [t,t'] [v,u]->wM G F σv tv (g t t' s) Q->r v u H Q
noncomputable def UnOK(G:Gx)(F:Fy)(r:V->Hp->VK->Prop)(g:D->M D):Prop:= ∀ρ s t v H σv tv Q,MRL G F.toFx ρ H σv tv s [t] [v]->wM G F σv tv (g t s) Q->r v H (fun w H'=>KD G.K H'->Q w H')
noncomputable def z1r(G:Gx)(F:Fy)(r:List V->Hp->VK->Prop)(g:List D->M D):Prop:= ∀ρ s ts vs H σv tv Q,MRL G F.toFx ρ H σv tv s ts vs->wM G F σv tv (g ts s) Q->r vs H (fun w H'=>KD G.K H'->Q w H')
theorem z7g{op:Operator}{r:R2}{ma mb:M D}{g:D->D->M D}(hk:X.K=G.K)(ho:OpR X (binaryOp op) r)(hg:OpOK G F r g)(ha:SE X G F a ma)(hb:SE X G F b mb):SE X G F (.BinOp a op b pos) (mBin ma mb g):=by
 refine PE.imp hk (zez ho ha hb) fun σ H Q ⟨tv,h⟩=>⟨tv, ?_⟩
 obtain⟨hs,ρ,s,M,W⟩:=z6p h
 refine⟨hs,ρ,s,M, ?_⟩
 cases e:ma s with
 |ok t s1=>
  rw[e] at W
  intro ρ1 v H1 M1
  refine⟨some v::tv, ?_⟩
  obtain⟨hs2,ρ2,s2,M2,W2⟩:=W ρ1 v H1 M1
  refine⟨hs2,ρ2,s2,M2, ?_⟩
  cases e2:mb s2 with
  |ok t2 s3=>
   rw[e2] at W2
   intro ρ3 u H3 M3
   obtain⟨ρ4,s4,x,y,M4,W4⟩:=W2 ρ3 u H3 M3
   exact hg _ _ _ _ _ _ _ _ _ _ M4 W4
  |ex d s3=>rw[e2] at W2;exact W2
  |no=>rw[e2] at W2;exact W2
 |ex d s1=>rw[e] at W;exact W
 |no=>rw[e] at W;exact W
theorem wM.mono{σv tv:List (Option V)}{r:Res D}{Q Q':VK}(h:wM G F σv tv r Q)(k: ∀v H,Q v H->Q' v H):wM G F σv tv r Q':=by
 cases r with
 |ok t s=>exact fun ρ v H M=>k _ _ (h ρ v H M)
 |ex d s=>exact h
 |no=>exact h
theorem tMv.mono{m:M D}{σv tv:List (Option V)}{H:Hp}{Q Q':VK}(h:tMv G F m σv tv H Q)(k: ∀v H,Q v H->Q' v H):tMv G F m σv tv H Q':=by
 obtain⟨hs,ρ,s,M,W⟩:=h
 exact⟨hs,ρ,s,M,W.mono k⟩
theorem zb3{ma mb:M D}{g:D->D->M D}{R:V->V->Hp->VK->Prop}{σv:St}{H:Hp}{Q:VK}(hg:OpOK G F R g)(h:tM G F (mBin ma mb g) σv H Q):
 tM G F ma σv H fun x H1=>tM G F mb σv H1 fun y H2=>R x y H2 fun w H'=>KD G.K H'->Q w H':=by
 obtain⟨tv,h⟩:=h
 exact⟨tv,(z6p h).mono fun v H1 h1=>⟨_,h1.mono fun u H2 ⟨ρ,s,t,t',M,W⟩=>hg _ _ _ _ _ _ _ _ _ _ M W⟩⟩
theorem zcQ{ma:M D}{g:D->M D}{R:V->Hp->VK->Prop}{σv:St}{H:Hp}{Q:VK}(hg:UnOK G F R g)(h:tM G F (bd ma g) σv H Q):
 tM G F ma σv H fun x H1=>R x H1 fun w H'=>KD G.K H'->Q w H':=by
 obtain⟨tv,h⟩:=h
 exact⟨tv,(z3q h).mono fun v H1 ⟨ρ,s,t,M,W⟩=>hg _ _ _ _ _ _ _ _ M W⟩
theorem zeN{op:UnaryOp}{r:V->Hp->VK->Prop}{ma:M D}{g:D->M D}(hk:X.K=G.K)(ho:UnR X (unaryOp op) r)(hg:UnOK G F r g)(ha:SE X G F a ma):SE X G F (.UnaryOp op a pos) (bd ma g):=
 PE.imp hk (zeA ho ha) fun _ _ _ h=>zcQ hg h
theorem z6q{ma mb:M D}{g:D->D->M D}{R:V->V->Hp->VK->Prop}{σv:St}{H:Hp}{Q:VK}(hg:z2u G F R g)(h:tM G F (mBin ma mb g) σv H Q):
 tM G F ma σv H fun x H1=>tM G F mb σv H1 fun y H2=>R x y H2 Q:=by
 obtain⟨tv,h⟩:=h
 exact⟨tv,(z6p h).mono fun v H1 h1=>⟨_,h1.mono fun u H2 ⟨ρ,s,t,t',M,W⟩=>hg _ _ _ _ _ _ _ _ _ _ M W⟩⟩
theorem PE.imp0{t t':TE}(h:PE X e t)(hi: ∀σ H Q,t' σ H Q->t σ H Q):PE X e t':=fun pins s σ H Q I q=>h pins s σ H _ I (hi σ H Q q)
theorem PT.imp0{t t':TT}(h:PT X e t)(hi: ∀σ H Q,t' σ H Q->t σ H Q):PT X e t':=fun pins s σ H Q I q=>h pins s σ H _ I (hi σ H Q q)
theorem zb4{op:CmpOp}{r:R2}{ma mb:M D}{g:D->D->M D}(ho:OpR X (compareOp op) r)(hg:z2u G F r g)(ha:SE X G F a ma)(hb:SE X G F b mb)(hm:behindInMarks op b=false):SE X G F (.Compare a [op] [b] pos) (mBin ma mb g):=
 PE.imp0 (zaG ho ha hb hm) fun _ _ _ h=>z6q hg h
theorem zeO{r:R2}{ma mb:M D}{g:D->D->M D}(hk:X.K=G.K)(ho:IxR X r)(hg:OpOK G F r g)(ha:SE X G F a ma)(hb:SE X G F b mb)(hs:z34 b):SE X G F (.Subscript a b pos) (mBin ma mb g):=
 PE.imp hk (zeL ho ha hb hs) fun _ _ _ h=>zb3 hg h
theorem zcR(hk:X.K=G.K):SA X G F [] (z02 []):=by
 refine PA.imp hk z27 fun σ H Q ⟨tv,hs,ρ,s,M,W⟩ _=>W ρ [] H ⟨M,rfl,fun l h=>by simp[labsL] at h⟩
noncomputable def nst:Expr->Bool
 | .Starred _ _=>false
 |_=>true
theorem z82{es:List Expr}{env:Env}(h:nst e=true):starEach (e::es) env=(false,eval e env)::starEach es env:=by
 cases e<;>first|rfl|exact Bool.noConfusion h
theorem zb5{es:List Expr}{m:M D}{ms:List (M D)}(hk:X.K=G.K)(ha:SE X G F e m)(hr:SA X G F es (z02 ms))(hs:nst e=true:=by rfl):SA X G F (e::es) (z02 (m::ms)):=by
 refine PA.imp hk (z08 ha hr (z82 hs)) fun σ H Q ⟨tv,hs,ρ,s,M,W⟩=>⟨tv,hs,ρ,s,M, ?_⟩
 unfold z02 at W
 simp only[bd,psh] at W
 cases e:m s with
 |ok t s1=>
  rw[e] at W
  intro ρ1 v H1 M1
  refine⟨some v::tv,suf1 hs,ρ1,s1.psh t,M1.push, ?_⟩
  dsimp only at W
  cases e2:z02 ms (s1.psh t) with
  |ok ys s2=>
   rw[e2] at W
   intro ρ2 us H2 M2 _
   simp only[pop,rt] at W
   cases e3:s2.tm with
   |nil=>rw[e3] at W;exact W.elim
   |cons o r=>
    cases o with
    |none=>rw[e3] at W;exact W.elim
    |some t'=>
     rw[e3] at W
     exact W ρ2 (v::us) H2 (M2.down e3)
  |ex d s2=>rw[e2] at W;exact W
  |no=>rw[e2] at W;exact W
 |ex d s1=>rw[e] at W;exact W
 |no=>rw[e] at W;exact W
noncomputable def mCB(ms:List (M D))(g:List D->M D):M D:=bd (z02 ms) g
theorem z3s{ma:M (List D)}{g:List D->M D}{R:List V->Hp->VK->Prop}{σv:St}{H:Hp}{Q:VK}(hg:z1r G F R g)(h:tM G F (bd ma g) σv H Q):
 tML G F ma σv H fun xs H1=>R xs H1 fun w H'=>KD G.K H'->Q w H':=by
 obtain⟨tv,hs,ρ,s,M,W⟩:=h
 refine⟨tv,hs,ρ,s,M, ?_⟩
 unfold bd at W
 cases e:ma s with
 |ok ts s1=>rw[e] at W;exact fun ρ1 vs H1 M1=>hg _ _ _ _ _ _ _ _ M1 W
 |ex d s1=>rw[e] at W;exact W
 |no=>rw[e] at W;exact W
theorem z9l{x:Str}{p:Pos}{es:List Expr}{ms:List (M D)}{g:List D->M D}{id:String}{r:List V->Hp->VK->Prop}(hk:X.K=G.K)(hc:CallR X (.builtin id) r)(hg:z1r G F r g)(hgl:Gl X x)(hm:X.mg x=none)(hv:bootBuiltins x=some (.builtin id))(ha:SA X G F (e::es) (z02 ms))(hn:x≠ "__name__" :=by decide)(hdb:(x==("__debug__" :Str))=false:=by decide)
 (he:starEach (e::es) X.env=(false,eval e X.env)::starEach es X.env:=by rfl) (hpl:(backTo pos (starEach es X.env)).any (·.1)=false:=by rfl):SE X G F (.Call (.Name x p) (e::es) [] pos) (mCB ms g):=
 PE.imp hk (z2G hc hgl hm hv ha hn hdb he hpl) fun _ _ _ h=>z3s hg h
theorem z83{x:Str}{p:Pos}{es:List Expr}{ms:List (M D)}{g:List D->M D}{T:String}{r:List V->Hp->VK->Prop}(hk:X.K=G.K)(hc:CallR X (.type T) r)(hg:z1r G F r g)(hgl:Gl X x)(hm:X.mg x=none)(hv:bootBuiltins x=some (.type T))(ha:SA X G F (e::es) (z02 ms))(hn:x≠ "__name__" :=by decide)(hdb:(x==("__debug__" :Str))=false:=by decide)
 (he:starEach (e::es) X.env=(false,eval e X.env)::starEach es X.env:=by rfl) (hpl:(backTo pos (starEach es X.env)).any (·.1)=false:=by rfl):SE X G F (.Call (.Name x p) (e::es) [] pos) (mCB ms g):=
 PE.imp hk (z7Q hc hgl hm hv ha hn hdb he hpl) fun _ _ _ h=>z3s hg h
noncomputable def mVar(i:Nat):M D:=fun s=>match s.σ[i]? with
 |some (some t)=> .ok t s
 |_=> .no
theorem se_var(i:Nat){x:Str}(hk:X.K=G.K)(h:PE X (.Name x pos) (tVar i)):SE X G F (.Name x pos) (mVar i):=by
 refine PE.imp hk h fun σ H Q ⟨tv,hs,ρ,s,M,W⟩=> ?_
 unfold mVar at W
 cases e:s.σ[i]? with
 |none=>rw[e] at W;exact W.elim
 |some o=>
  cases o with
  |none=>rw[e] at W;exact W.elim
  |some t=>
   rw[e] at W
   obtain⟨v,h1,h2⟩:=M.sl.get i t e
   refine⟨v,h1,fun _=>W ρ v H ⟨M,RDs.one h2,fun l hl=> ?_⟩⟩
   simp only[labsL,List.append_nil] at hl
   have:=z2J e l hl
   exact⟨M.lab l (List.mem_append_left _ this),M.own l (List.mem_append_left _ this)⟩
noncomputable def cV:D->Option V
 | .non=>some .non| .bool b=>some (.bl b)| .int i=>some (.int i)| .str x=>some (.str x)|_=>none
theorem z7h{d:D}{v:V}{ρ:Nat->Addr}{H:Hp}(h:cV d=some v):RD G ρ H d v/\labs d=[]:=by
 cases d<;>simp only[cV,Option.some.injEq] at h<;>first|(subst h;exact⟨by simp only[RD],by simp only[labs]⟩)|cases h
noncomputable def mC(d:D):M D:=rt d
theorem se_c{d:D}{v:V}(hk:X.K=G.K)(h:PE X e (tC v))(hd:cV d=some v:=by rfl):SE X G F e (mC d):=by
 refine PE.imp hk h fun σ H Q ⟨tv,hs,ρ,s,M,W⟩ _=>W ρ v H ⟨M,RDs.one (z7h hd).1,fun l hl=> ?_⟩
 simp only[labsL,(z7h (G:=G) (ρ:=ρ) (H:=H) hd).2] at hl
 cases hl
theorem wM.out{σv tv:List (Option V)}{s:Stt}{t:D}{v:V}{ρ:Nat->Addr}{H:Hp}{Q:VK}(W:wM G F σv tv (.ok t s) Q)(M:MR G F.toFx ρ H σv tv s)(h:RD G ρ H t v)(hl: ∀l∈labs t,l<s.n/\(F.A0 (ρ l)\/F.H0 (ρ l)=none)):Q v H:=
 W ρ v H ⟨M,RDs.one h,fun l q=>hl l (by simpa only[labsL,List.append_nil] using q)⟩
theorem wM.flat{σv tv:List (Option V)}{s:Stt}{t:D}{v:V}{ρ:Nat->Addr}{H:Hp}{Q:VK}(W:wM G F σv tv (.ok t s) Q)(M:MR G F.toFx ρ H σv tv s)(h:cV t=some v):Q v H:=
 W.out M (z7h h).1 fun l q=>by rw[(z7h (G:=G) (ρ:=ρ) (H:=H) h).2] at q;cases q
end
mutual
noncomputable def er:D->PyData
 | .non=> .none| .bool b=> .bool b| .int i=> .int i| .str x=> .str x
 | .tup ds=> .tuple (erL ds)
 | .ro ds=> .list (erL ds)
 | .lst _ ds=> .list (erL ds)
 | .dct _ _ _=> .none
 | .obj _ _ _ _=> .none
 | .exc _=> .none| .fn _=> .none| .fdc _ _=> .none
noncomputable def erL:List D->List PyData
 |[]=>[]
 |d::ds=>er d::erL ds
end
mutual
noncomputable def plain:D->Bool
 | .non=>true| .bool _=>true| .int _=>true| .str _=>true
 | .tup ds=>plainL ds
 | .ro ds=>plainL ds
 | .lst _ ds=>plainL ds
 | .dct _ _ _=>false
 | .obj _ _ _ _=>false
 | .exc _=>false| .fn _=>false| .fdc _ _=>false
noncomputable def plainL:List D->Bool
 |[]=>true
 |d::ds=>plain d&&plainL ds
end
noncomputable def seqD:D->Option (List D)
 | .tup ds=>some ds| .ro ds=>some ds| .lst _ ds=>some ds|_=>none
noncomputable def lstD:D->Option (List D)
 | .ro ds=>some ds| .lst _ ds=>some ds|_=>none
section
variable{G:Gx}{F:Fy}{ρ:Nat->Addr}{H H':Hp}{σv tv:List (Option V)}{s:Stt}{t t':D}{v u:V}{ts ds:List D}{vs xs:List V}{Q:VK}
mutual
theorem RD.dp: ∀(t:D) (v:V),RD G ρ H t v->plain t=true->Dp G.K H (er t) v
 | .non,v,h,_=>by simp only[RD,er,Dp] at h⊢;exact h
 | .bool b,v,h,_=>by simp only[RD,er,Dp] at h⊢;exact h
 | .int b,v,h,_=>by simp only[RD,er,Dp] at h⊢;exact h
 | .str b,v,h,_=>by simp only[RD,er,Dp] at h⊢;exact h
 | .tup ds,v,h,p=>by
  simp only[RD,er,Dp,plain] at h p⊢
  obtain⟨a,xs,e,s,r⟩:=h
  exact⟨a,xs,e,SqT.of s,RDs.dp ds xs r p⟩
 | .ro ds,v,h,p=>by
  simp only[RD,er,Dp,plain] at h p⊢
  obtain⟨a,xs,e,s,r⟩:=h
  exact⟨a,xs,e,s.sq,RDs.dp ds xs r p⟩
 | .lst l ds,v,h,p=>by
  simp only[RD,er,Dp,plain] at h p⊢
  obtain⟨e,xs,s,r⟩:=h
  exact⟨_,xs,e,SqL.of s,RDs.dp ds xs r p⟩
 | .dct l ks vs,v,h,p=>by simp only[plain] at p;cases p
 | .fdc ks vs,v,h,p=>by simp only[plain] at p;cases p
 | .obj l c ns vs,v,h,p=>by simp only[plain] at p;cases p
 | .exc c,v,h,p=>by simp only[plain] at p;cases p
 | .fn c,v,h,p=>by simp only[plain] at p;cases p
theorem RDs.dp: ∀(t:List D) (v:List V),RDs G ρ H t v->plainL t=true->DpAll G.K H (erL t) v
 |[],v,h,_=>by simp only[RDs,erL,DpAll] at h⊢;exact h
 |d::ds,v,h,p=>by
  simp only[RDs,erL,DpAll,plainL,Bool.and_eq_true] at h p⊢
  obtain⟨x,r,e,h1,h2⟩:=h
  exact⟨x,r,e,RD.dp d x h1 p.1,RDs.dp ds r h2 p.2⟩
end
theorem RD.seq(h:RD G ρ H t v)(e:seqD t=some ds): ∃a xs,v= .ref a/\(SqL G.K H a xs\/SqT G.K H a xs)/\RDs G ρ H ds xs/\∀l∈labsL ds,l∈labs t:=by
 cases t<;>simp only[seqD,Option.some.injEq] at e<;>try cases e
 ·simp only[RD] at h
  obtain⟨a,xs,e,s,r⟩:=h
  exact⟨a,xs,e, .inr (SqT.of s),r,fun l hl=>by simp only[labs];exact hl⟩
 ·simp only[RD] at h
  obtain⟨a,xs,e,s,r⟩:=h
  exact⟨a,xs,e, .inl s.sq,r,fun l hl=>by simp only[labs];exact hl⟩
 ·simp only[RD] at h
  obtain⟨e,xs,s,r⟩:=h
  exact⟨_,xs,e, .inl (SqL.of s),r,fun l hl=>by simp only[labs];exact List.mem_cons_of_mem _ hl⟩
theorem RD.lstq(h:RD G ρ H t v)(e:lstD t=some ds): ∃a xs,v= .ref a/\SqL G.K H a xs/\RDs G ρ H ds xs/\∀l∈labsL ds,l∈labs t:=by
 cases t<;>simp only[lstD,Option.some.injEq] at e<;>try cases e
 ·simp only[RD] at h
  obtain⟨a,xs,e,s,r⟩:=h
  exact⟨a,xs,e,s.sq,r,fun l hl=>by simp only[labs];exact hl⟩
 ·simp only[RD] at h
  obtain⟨e,xs,s,r⟩:=h
  exact⟨_,xs,e,SqL.of s,r,fun l hl=>by simp only[labs];exact List.mem_cons_of_mem _ hl⟩
theorem RD.tupx(h:RD G ρ H (.tup ds) v): ∃a xs,v= .ref a/\H a=some (.tup xs)/\RDs G ρ H ds xs:=by
 simp only[RD] at h;exact h
theorem RD.tupq(h:RD G ρ H (.tup ds) v): ∃a xs,v= .ref a/\SqT G.K H a xs/\RDs G ρ H ds xs:=by
 obtain⟨a,xs,e,s,r⟩:=h.tupx
 exact⟨a,xs,e,SqT.of s,r⟩
theorem RD.seqx(h:RD G ρ H t v)(e:seqD t=some ds): ∃a xs,v= .ref a/\(SqL G.K H a xs\/H a=some (.tup xs))/\RDs G ρ H ds xs/\∀l∈labsL ds,l∈labs t:=by
 cases t<;>simp only[seqD,Option.some.injEq] at e<;>try cases e
 ·simp only[RD] at h
  obtain⟨a,xs,e,s,r⟩:=h
  exact⟨a,xs,e, .inr s,r,fun l hl=>by simp only[labs];exact hl⟩
 ·simp only[RD] at h
  obtain⟨a,xs,e,s,r⟩:=h
  exact⟨a,xs,e, .inl s.sq,r,fun l hl=>by simp only[labs];exact hl⟩
 ·simp only[RD] at h
  obtain⟨e,xs,s,r⟩:=h
  exact⟨_,xs,e, .inl (SqL.of s),r,fun l hl=>by simp only[labs];exact List.mem_cons_of_mem _ hl⟩
theorem MRL.lb1(M:MRL G F.toFx ρ H σv tv s [t] [v]): ∀l∈labs t,l<s.n/\(F.A0 (ρ l)\/F.H0 (ρ l)=none):=fun l h=>M.lb l (by simp only[labsL,List.append_nil];exact h)
theorem MRL.lb2(M:MRL G F.toFx ρ H σv tv s [t,t'] [v,u]):(∀l∈labs t,l<s.n/\(F.A0 (ρ l)\/F.H0 (ρ l)=none))/\(∀l∈labs t',l<s.n/\(F.A0 (ρ l)\/F.H0 (ρ l)=none)):=
 ⟨fun l h=>M.lb l (by simp only[labsL,List.append_nil];exact List.mem_append_left _ h),fun l h=>M.lb l (by simp only[labsL,List.append_nil];exact List.mem_append_right _ h)⟩
noncomputable abbrev LB(F:Fx)(ρ:Nat->Addr)(n:Nat)(ls:List Nat):Prop:= ∀l∈ls,l<n/\(F.A0 (ρ l)\/F.H0 (ρ l)=none)
theorem z4P(W:wM G F σv tv (.ok (.tup ds) s) Q)(M:MR G F.toFx ρ H σv tv s)(r:RDs G ρ H ds xs)(lb:LB F.toFx ρ s.n (labsL ds)):NewX G.K H xs (fun w H'=>KD G.K H'->Q w H'):=by
 refine NewX.intro fun p H' sq sm k=> ?_
 exact W.out (M.same sm k) (by simp only[RD];exact⟨p,xs,rfl,sq,r.same sm⟩) (by simp only[labs];exact lb)
theorem z84{p:Addr}(W:wM G F σv tv (.ok (.tup ds) s) Q)(M:MR G F.toFx ρ H σv tv s)(r:RDs G ρ H ds xs)(lb:LB F.toFx ρ s.n (labsL ds))(hp:H p=none)(k:KD G.K (upd H p (.tup xs))):Q (.ref p) (upd H p (.tup xs)):=by
 have sm:=Same.new (.tup xs) hp
 exact W.out (M.same sm k) (by simp only[RD];exact⟨p,xs,rfl,z09,r.same sm⟩) (by simp only[labs];exact lb)
theorem RDs.ext{p:Addr}{o:HO}(M:MR G F.toFx ρ H σv tv s)(r:RDs G ρ H ds xs)(lb:LB F.toFx ρ s.n (labsL ds))(hp:H p=none):RDs G (ext ρ s.n p) (upd H p o) ds xs:=
 RDs.stay (z1c.of (Same.new o hp)) ds xs r fun l hl=>⟨z0k (lb l hl).1,fun o e=>Same.new _ hp _ _ e⟩
theorem z2v{p:Addr}(W:wM G F σv tv (.ok (.lst s.n ds) s.nxt) Q)(M:MR G F.toFx ρ H σv tv s)(r:RDs G ρ H ds xs)(lb:LB F.toFx ρ s.n (labsL ds))(hp:H p=none)(k:KD G.K (upd H p (.lst xs))):Q (.ref p) (upd H p (.lst xs)):=by
 refine W.out (M.new hp k) ?_ fun l hl=> ?_
 ·simp only[RD]
  rw[z0F]
  exact⟨rfl,xs,z09,RDs.ext M r lb hp⟩
 ·simp only[labs] at hl
  rcases List.mem_cons.mp hl with q|q
  ·rw[q]
   exact⟨Nat.lt_succ_self _,by rw[z0F];exact .inr (M.fresh0 hp)⟩
  ·obtain⟨h1,h2⟩:=lb l q
   exact⟨Nat.lt_succ_of_lt h1,by rw[z0k h1];exact h2⟩
end
noncomputable def newL(ds:List D):M D:=fun s=> .ok (.lst s.n ds) s.nxt
noncomputable def addD:D->D->M D
 | .int i, .int j=>rt (.int (i+j))
 | .tup a, .tup b=>if a.length+b.length<=sizeLine then rt (.tup (a++b)) else fl
 | .lst _ a, .lst _ b=>if a.length+b.length<=sizeLine then newL (a++b) else fl
 | .str a, .str b=>if a.length+b.length<=sizeLine then rt (.str (a++b)) else fl
 |_,_=>fl
noncomputable def subD:D->D->M D
 | .int i, .int j=>rt (.int (i -j))
 |_,_=>fl
instance(i j:Int):Decidable (CMul i j):=by unfold CMul;infer_instance
instance(i j:Int):Decidable (CDiv i j):=by unfold CDiv;infer_instance
instance(i j:Int):Decidable (CPow i j):=by unfold CPow;infer_instance
noncomputable def mulD:D->D->M D
 | .int i, .int j=>if CMul i j then rt (.int (i*j)) else fl
 | .lst _ a, .int k=>if -(2^63)<=k/\k<2^63/\a.length*k.toNat<=sizeLine then newL (List.flatten (List.replicate k.toNat a)) else fl
 | .tup a, .int k=>if 0<a.length/\2<=k/\k<2^63/\a.length*k.toNat<=sizeLine then rt (.tup (List.flatten (List.replicate k.toNat a))) else fl
 |_,_=>fl
noncomputable def z5x:D->D->M D
 | .int i, .int j=>if CDiv i j then rt (.int (i/j)) else fl
 |_,_=>fl
noncomputable def modD:D->D->M D
 | .int i, .int j=>if 0<j then rt (.int (i %j)) else fl
 |_,_=>fl
noncomputable def powD:D->D->M D
 | .int i, .int j=>if CPow i j then rt (.int (i^j.toNat)) else fl
 |_,_=>fl
noncomputable def ltD:D->D->M D
 | .int i, .int j=>rt (.bool (decide (i<j)))
 |_,_=>fl
noncomputable def leD:D->D->M D
 | .int i, .int j=>rt (.bool (decide (i<=j)))
 |_,_=>fl
noncomputable def gtD:D->D->M D
 | .int i, .int j=>rt (.bool (decide (j<i)))
 |_,_=>fl
noncomputable def geD:D->D->M D
 | .int i, .int j=>rt (.bool (decide (j<=i)))
 |_,_=>fl
noncomputable def eqC(t t':D):Bool:=plain t&&plain t'&&(er t).canLay0&&(er t').canLay0&&decide (min (er t).depth (er t').depth<=60)
noncomputable def eqD(t t':D):M D:=if eqC t t'=true then rt (.bool (PyData.eqv (er t) (er t'))) else fl
noncomputable def neD(t t':D):M D:=if eqC t t'=true then rt (.bool (!PyData.eqv (er t) (er t'))) else fl
noncomputable def inC(t:D)(ds:List D):Bool:=plain t&&plainL ds&&(er t).canLay0&&PyData.canLayAll0 (erL ds)&&decide (min (PyData.depthAll (erL ds)) (er t).depth<=60)
noncomputable def inD(t t':D):M D:=match seqD t' with
 |some ds=>if inC t ds=true then rt (.bool ((erL ds).any fun y=>PyData.eqv y (er t))) else fl
 |none=>fl
noncomputable def optM:Option D->M D
 |some d=>rt d
 |none=>fl
noncomputable def ixG:Option (List D)->D->M D
 |some ds, .int i=>optM (atI ds i)
 |_,_=>fl
noncomputable def ixD(t t':D):M D:=ixG (seqD t) t'
noncomputable def negD:D->M D
 | .int i=>rt (.int (-i))
 |_=>fl
section
variable{G:Gx}{F:Fy}
theorem wfl{σv tv:List (Option V)}{s:Stt}{Q:VK}{A:Prop}(h:wM G F σv tv ((fl:M D) s) Q):A:=False.elim h
theorem z4i{ρ:Nat->Addr}{H:Hp}{σv tv:List (Option V)}{s:Stt}{i j:Int}{v u:V}(M:MRL G F.toFx ρ H σv tv s [.int i, .int j] [v,u]):v= .int i/\u= .int j:=by
 obtain⟨h1,h2⟩:=M.rd2
 simp only[RD] at h1 h2
 exact⟨h1,h2⟩
theorem zcS:OpOK G F (fun x y H Q=>rI0 (fun i j=> .int (i+j)) x y H Q\/zaZ G.K x y H Q\/rCat x y H Q\/∃i j,x= .str i/\y= .str j/\i.length+j.length<=sizeLine/\Q (.str (i++j)) H) addD:=by
 intro ρ s t t' v u H σv tv Q M W
 unfold addD at W
 split at W
 ·obtain⟨rfl,rfl⟩:=z4i M
  exact .inl ⟨_,_,rfl,rfl,fun _=>W.flat M.m rfl⟩
 ·split at W
  ·rename_i a b hz
   obtain⟨h1,h2⟩:=M.rd2
   obtain⟨l1,l2⟩:=M.lb2
   obtain⟨p,xs,rfl,s1,r1⟩:=h1.tupx
   obtain⟨q,ys,rfl,s2,r2⟩:=h2.tupx
   refine .inr (.inl ⟨p,q,xs,ys,rfl,rfl,s1,s2,by rw[<-r1.length,<-r2.length];exact hz,z4P W M.m (r1.append r2) ?_⟩)
   rw[z0u]
   intro l hl
   rcases List.mem_append.mp hl with q|q
   ·exact l1 l (by simpa only[labs] using q)
   ·exact l2 l (by simpa only[labs] using q)
  ·exact wfl W
 ·split at W
  ·rename_i la a lb b hz
   obtain⟨h1,h2⟩:=M.rd2
   obtain⟨l1,l2⟩:=M.lb2
   simp only[RD] at h1 h2
   obtain⟨rfl,xs,s1,r1⟩:=h1
   obtain⟨rfl,ys,s2,r2⟩:=h2
   refine .inr (.inr (.inl ⟨_,_,xs,ys,rfl,rfl,s1,s2,by rw[<-r1.length,<-r2.length];exact hz,fun p hp k=>z2v W M.m (r1.append r2) ?_ hp k⟩))
   rw[z0u]
   intro l hl
   rcases List.mem_append.mp hl with q|q
   ·exact l1 l (by simp only[labs];exact List.mem_cons_of_mem _ q)
   ·exact l2 l (by simp only[labs];exact List.mem_cons_of_mem _ q)
  ·exact wfl W
 ·split at W
  ·rename_i a b hz
   obtain⟨h1,h2⟩:=M.rd2
   simp only[RD] at h1 h2
   subst h1 h2
   exact .inr (.inr (.inr ⟨_,_,rfl,rfl,hz,fun _=>W.flat M.m rfl⟩))
  ·exact wfl W
 ·exact wfl W
theorem zcT:OpOK G F (rI0 fun i j=> .int (i -j)) subD:=by
 intro ρ s t t' v u H σv tv Q M W
 unfold subD at W
 split at W
 ·obtain⟨rfl,rfl⟩:=z4i M
  exact⟨_,_,rfl,rfl,fun _=>W.flat M.m rfl⟩
 ·exact wfl W
theorem zb6:OpOK G F (rI CDiv fun i j=> .int (i/j)) z5x:=by
 intro ρ s t t' v u H σv tv Q M W
 unfold z5x at W
 split at W
 ·split at W
  ·rename_i hc
   obtain⟨rfl,rfl⟩:=z4i M
   exact⟨_,_,rfl,rfl,hc,fun _=>W.flat M.m rfl⟩
  ·exact wfl W
 ·exact wfl W
theorem zcU:OpOK G F (rI (fun _ j=>0<j) fun i j=> .int (i %j)) modD:=by
 intro ρ s t t' v u H σv tv Q M W
 unfold modD at W
 split at W
 ·split at W
  ·rename_i hc
   obtain⟨rfl,rfl⟩:=z4i M
   exact⟨_,_,rfl,rfl,hc,fun _=>W.flat M.m rfl⟩
  ·exact wfl W
 ·exact wfl W
theorem zcV:OpOK G F (rI CPow fun i j=> .int (i^j.toNat)) powD:=by
 intro ρ s t t' v u H σv tv Q M W
 unfold powD at W
 split at W
 ·split at W
  ·rename_i hc
   obtain⟨rfl,rfl⟩:=z4i M
   exact⟨_,_,rfl,rfl,hc,fun _=>W.flat M.m rfl⟩
  ·exact wfl W
 ·exact wfl W
theorem zeP:z2u G F (rI0 fun i j=> .bl (decide (i<j))) ltD:=by
 intro ρ s t t' v u H σv tv Q M W
 unfold ltD at W
 split at W
 ·obtain⟨rfl,rfl⟩:=z4i M
  exact⟨_,_,rfl,rfl,W.flat M.m rfl⟩
 ·exact wfl W
theorem zeQ:z2u G F (rI0 fun i j=> .bl (decide (i<=j))) leD:=by
 intro ρ s t t' v u H σv tv Q M W
 unfold leD at W
 split at W
 ·obtain⟨rfl,rfl⟩:=z4i M
  exact⟨_,_,rfl,rfl,W.flat M.m rfl⟩
 ·exact wfl W
theorem zeR:z2u G F (rI0 fun i j=> .bl (decide (j<i))) gtD:=by
 intro ρ s t t' v u H σv tv Q M W
 unfold gtD at W
 split at W
 ·obtain⟨rfl,rfl⟩:=z4i M
  exact⟨_,_,rfl,rfl,W.flat M.m rfl⟩
 ·exact wfl W
theorem zeS:z2u G F (rI0 fun i j=> .bl (decide (j<=i))) geD:=by
 intro ρ s t t' v u H σv tv Q M W
 unfold geD at W
 split at W
 ·obtain⟨rfl,rfl⟩:=z4i M
  exact⟨_,_,rfl,rfl,W.flat M.m rfl⟩
 ·exact wfl W
theorem zeT:z2u G F (rEqD G.K false) eqD:=by
 intro ρ s t t' v u H σv tv Q M W
 unfold eqD at W
 split at W
 ·rename_i hc
  simp only[eqC,Bool.and_eq_true,decide_eq_true_eq] at hc
  obtain⟨⟨⟨⟨c1,c2⟩,c3⟩,c4⟩,c5⟩:=hc
  obtain⟨h1,h2⟩:=M.rd2
  exact⟨er t,er t',RD.dp _ _ h1 c1,RD.dp _ _ h2 c2,c3,c4,c5,W.flat M.m rfl⟩
 ·exact wfl W
theorem zeU:z2u G F (rEqD G.K true) neD:=by
 intro ρ s t t' v u H σv tv Q M W
 unfold neD at W
 split at W
 ·rename_i hc
  simp only[eqC,Bool.and_eq_true,decide_eq_true_eq] at hc
  obtain⟨⟨⟨⟨c1,c2⟩,c3⟩,c4⟩,c5⟩:=hc
  obtain⟨h1,h2⟩:=M.rd2
  exact⟨er t,er t',RD.dp _ _ h1 c1,RD.dp _ _ h2 c2,c3,c4,c5,W.flat M.m rfl⟩
 ·exact wfl W
theorem zcW{ρ:Nat->Addr}{H:Hp}{ds:List D}{xs:List V}{i:Int}{d:D}(r:RDs G ρ H ds xs)(e:atI ds i=some d): ∃x,atI xs i=some x/\RD G ρ H d x:=by
 unfold atI at e⊢
 rw[<-r.length]
 cases e1:ixN ds.length i with
 |none=>rw[e1] at e;cases e
 |some j=>
  rw[e1] at e
  exact r.get j d e
theorem zb7{α:Type}{ds:List α}{i:Int}{d:α}(e:atI ds i=some d):d∈ds:=by
 unfold atI at e
 cases e1:ixN ds.length i with
 |none=>rw[e1] at e;cases e
 |some j=>
  rw[e1] at e
  exact List.mem_of_getElem? e
theorem zeV:OpOK G F (fun x y H Q=>rIxL G.K x y H Q\/rIxT G.K x y H Q) ixD:=by
 intro ρ s t t' v u H σv tv Q M W
 obtain⟨h1,h2⟩:=M.rd2
 unfold ixD at W
 cases e:seqD t with
 |none=>rw[e] at W;exact False.elim W
 |some ds=>
  rw[e] at W
  cases t' with
  |int i=>
   have W:wM G F σv tv (optM (atI ds i) s) Q:=W
   cases ea:atI ds i with
   |some d=>
    rw[ea] at W
    obtain⟨a,xs,rfl,sq,r,sub⟩:=h1.seq e
    obtain⟨x,ex,rx⟩:=zcW r ea
    simp only[RD] at h2
    subst h2
    have fin:KD G.K H->Q x H:=fun _=>W.out M.m rx fun l hl=>M.lb2.1 l (sub l (labsL_mem (zb7 ea) l hl))
    rcases sq with sq|sq
    ·exact .inl ⟨a,xs,i,x,rfl,rfl,sq,ex,fin⟩
    ·exact .inr ⟨a,xs,i,x,rfl,rfl,sq,ex,fin⟩
   |none=>rw[ea] at W;exact False.elim W
  |_=>exact False.elim W
theorem zcX:UnOK G F (rU fun i=> .int (-i)) negD:=by
 intro ρ s t v H σv tv Q M W
 unfold negD at W
 split at W
 ·have h:=M.rd1
  simp only[RD] at h
  exact⟨_,h,fun _=>W.flat M.m rfl⟩
 ·exact wfl W
end
section
variable{X:Cx}{G:Gx}{F:Fy}{e a b c:Expr}{pos:Pos}
theorem RDs.flat{ρ:Nat->Addr}{H:Hp}{ds:List D}{xs:List V}(r:RDs G ρ H ds xs): ∀k:Nat,RDs G ρ H (List.replicate k ds).flatten (List.replicate k xs).flatten
 |0=>by simp[RDs]
 |k+1=>by
  rw[List.replicate_succ,List.replicate_succ,List.flatten_cons,List.flatten_cons]
  exact r.append (RDs.flat r k)
theorem z36{ds:List D}{l:Nat}: ∀k:Nat,l∈labsL (List.replicate k ds).flatten->l∈labsL ds
 |0,h=>by simp[labsL] at h
 |k+1,h=>by
  rw[List.replicate_succ,List.flatten_cons,z0u] at h
  rcases List.mem_append.mp h with h|h
  ·exact h
  ·exact z36 k h
theorem zcY:OpOK G F (fun x y H Q=>rI CMul (fun i j=> .int (i*j)) x y H Q\/(rRep x y H Q\/zb1 G.K x y H Q)) mulD:=by
 intro ρ s t t' v u H σv tv Q M W
 unfold mulD at W
 split at W
 ·split at W
  ·rename_i hc
   obtain⟨rfl,rfl⟩:=z4i M
   exact .inl ⟨_,_,rfl,rfl,hc,fun _=>W.flat M.m rfl⟩
  ·exact wfl W
 ·split at W
  ·rename_i la a k hc
   obtain⟨h1,h2⟩:=M.rd2
   obtain⟨l1,l2⟩:=M.lb2
   simp only[RD] at h1 h2
   obtain⟨rfl,xs,s1,r1⟩:=h1
   subst h2
   refine .inr (.inl ⟨_,k,xs,rfl,rfl,s1,hc.1,hc.2.1,by rw[<-r1.length];exact hc.2.2,fun p hp kd=>z2v W M.m (r1.flat _) (fun l hl=> ?_) hp kd⟩)
   exact l1 l (by simp only[labs];exact List.mem_cons_of_mem _ (z36 _ hl))
  ·exact wfl W
 ·split at W
  ·rename_i a k hc
   obtain⟨h1,h2⟩:=M.rd2
   obtain⟨l1,l2⟩:=M.lb2
   simp only[RD] at h1 h2
   obtain⟨a',xs,rfl,s1,r1⟩:=h1
   subst h2
   refine .inr (.inr ⟨_,k,xs,rfl,rfl,SqT.of s1,by rw[<-r1.length];exact hc.1,hc.2.1,hc.2.2.1,by rw[<-r1.length];exact hc.2.2.2,fun p hp kd=>z84 W M.m (r1.flat _) (fun l hl=> ?_) hp kd⟩)
   exact l1 l (by simp only[labs];exact z36 _ hl)
  ·exact wfl W
 ·exact wfl W
noncomputable def cutA{α:Type}(xs:List α)(lo hi:Option Int):List α:=(xs.drop (HT.sIx xs.length 0 lo)).take (HT.sIx xs.length xs.length hi -HT.sIx xs.length 0 lo)
noncomputable def slD:D->Option Int->Option Int->M D
 | .tup ds,lo,hi=>rt (.tup (cutA ds lo hi))
 | .lst _ ds,lo,hi=>newL (cutA ds lo hi)
 | .ro ds,lo,hi=>newL (cutA ds lo hi)
 |_,_,_=>fl
theorem RDs.cut{ρ:Nat->Addr}{H:Hp}{ds:List D}{xs:List V}(r:RDs G ρ H ds xs)(lo hi:Option Int):RDs G ρ H (cutA ds lo hi) (cutV xs lo hi):=by
 unfold cutA cutV
 rw[r.length]
 exact(r.drop _).take _
theorem z3E{ds:List D}{lo hi:Option Int}{l:Nat}(h:l∈labsL (cutA ds lo hi)):l∈labsL ds:=by
 obtain⟨d,h1,h2⟩:=z0O h
 exact labsL_mem (List.mem_of_mem_drop (List.mem_of_mem_take h1)) l h2
noncomputable def mInt(d:D):Option Int:=match d with| .int i=>some i|_=>none
noncomputable def z4j:Option (M D)->M (Option Int)
 |none=>rt none
 |some m=>bd m fun d=>match mInt d with|some i=>rt (some i)|none=>fl
noncomputable def tP(G:Gx)(F:Fy)(m:M (Option Int)):TO:=fun σv H Q=> ∃tv,F.tv0<:+tv/\∃ρ s,MR G F.toFx ρ H σv tv s/\(match m s with
 | .ok o s'=> ∀ρ' H',MR G F.toFx ρ' H' σv tv s'->Q o H'
 | .ex d s'=>F.xw d s'
 | .no=>False)
noncomputable def SO(X:Cx)(G:Gx)(F:Fy)(e:Option Expr)(m:Option (M D)):Prop:=PO X e (tP G F (z4j m))
theorem so_none:SO X G F none none:=by
 intro pins s σ H Q I ⟨tv,hs,ρ,ms,M,W⟩
 exact zaP pins s σ H Q I (W ρ H M)
theorem so_some{m:M D}(h:SE X G F e m):SO X G F (some e) (some m):=by
 intro pins s σ H Q I ⟨tv,hs,ρ,ms,M,W⟩
 refine zaQ h pins s σ H Q I ⟨tv,hs,ρ,ms,M, ?_⟩
 simp only[z4j,bd] at W
 cases e1:m ms with
 |ok d s1=>
  rw[e1] at W
  intro ρ' v H' M'
  cases d with
  |int i=>
   have h:=M'.rd1
   simp only[RD] at h
   exact⟨i,h,W ρ' H' M'.m⟩
  |_=>exact False.elim W
 |ex d s1=>rw[e1] at W;exact W
 |no=>rw[e1] at W;exact W
noncomputable def mSl(m:M D)(lo hi:Option (M D)):M D:=bd m fun x=>bd (psh x) fun _=>bd (z4j lo) fun l=>bd (z4j hi) fun h=>bd pop fun x'=>slD x' l h
theorem zeW{ρ:Nat->Addr}{s:Stt}{t:D}{v:V}{H:Hp}{σv tv:List (Option V)}{lo hi:Option Int}{Q:VK}(M:MRL G F.toFx ρ H σv tv s [t] [v])(W:wM G F σv tv (slD t lo hi s) Q):
 rSlX G.K v lo hi H (fun w H'=>KD G.K H'->Q w H')\/rSlL G.K v lo hi H (fun w H'=>KD G.K H'->Q w H'):=by
 have h:=M.rd1
 cases t with
 |tup ds=>
  obtain⟨p,xs,rfl,s1,r1⟩:=h.tupx
  exact .inl ⟨p,xs,rfl,s1,z4P W M.m (r1.cut lo hi) fun l hl=>M.lb1 l (by simp only[labs];exact z3E hl)⟩
 |lst n ds=>
  obtain⟨p,xs,rfl,s1,r1,_⟩:=h.lstq (ds:=ds) rfl
  exact .inr ⟨p,xs,rfl,s1,fun q hq k=>z2v W M.m (r1.cut lo hi) (fun l hl=>M.lb1 l (by simp only[labs];exact List.mem_cons_of_mem _ (z3E hl))) hq k⟩
 |ro ds=>
  obtain⟨p,xs,rfl,s1,r1,_⟩:=h.lstq (ds:=ds) rfl
  exact .inr ⟨p,xs,rfl,s1,fun q hq k=>z2v W M.m (r1.cut lo hi) (fun l hl=>M.lb1 l (by simp only[labs];exact z3E hl)) hq k⟩
 |_=>exact False.elim W
theorem se_slice{lo hi:Option Expr}{p2:Pos}{m:M D}{ml mh:Option (M D)}(hk:X.K=G.K)(he:SE X G F e m)(hl:SO X G F lo ml)(hh:SO X G F hi mh):SE X G F (.Subscript e (.Slice lo hi none p2) pos) (mSl m ml mh):=by
 refine PE.imp hk (z9f (r:=fun x lo hi H Q=>rSlX X.K x lo hi H Q\/rSlL X.K x lo hi H Q) (SlR.or zaY zaU) he hl hh) fun σ H Q ⟨tv,h⟩=>⟨tv, ?_⟩
 obtain⟨hs,ρ,s,M,W⟩:=z3q h
 refine⟨hs,ρ,s,M,W.mono fun v H1 ⟨ρ1,s1,t,M1,W1⟩=>⟨some v::tv,suf1 hs,ρ1,s1.psh t,M1.push, ?_⟩⟩
 simp only[bd,psh] at W1
 cases e1:z4j ml (s1.psh t) with
 |ex d s2=>rw[e1] at W1;exact W1
 |no=>rw[e1] at W1;exact W1
 |ok l s2=>
  rw[e1] at W1
  intro ρ2 H2 M2
  refine⟨some v::tv,suf1 hs,ρ2,s2,M2, ?_⟩
  dsimp only at W1
  cases e2:z4j mh s2 with
  |ex d s3=>rw[e2] at W1;exact W1
  |no=>rw[e2] at W1;exact W1
  |ok h s3=>
   rw[e2] at W1
   intro ρ3 H3 M3
   simp only[pop] at W1
   cases e3:s3.tm with
   |nil=>rw[e3] at W1;exact W1.elim
   |cons o r=>
    cases o with
    |none=>rw[e3] at W1;exact W1.elim
    |some t'=>
     rw[e3] at W1
     have M4:MRL G F.toFx ρ3 H3 σ tv {s3 with tm:=r} [t'] [v]:=MRL.down (ts:=[]) (vs:=[]) ⟨M3,rfl,fun l h=>by simp[labsL] at h⟩ e3
     rw[hk]
     exact zeW M4 W1
noncomputable def tupD(ts:List D):M D:=if ts.length<=sizeLine then rt (.tup ts) else fl
noncomputable def lstM(ts:List D):M D:=if ts.length<=sizeLine then newL ts else fl
theorem zcZ:z1r G F (fun xs H1 Q=>xs.length<=sizeLine/\∀p,H1 p=none->Q (.ref p) (upd H1 p (.tup xs))) tupD:=by
 intro ρ s ts vs H σv tv Q M W
 unfold tupD at W
 split at W
 ·rename_i hz
  exact⟨by rw[<-M.rd.length];exact hz,fun p hp k=>z84 W M.m M.rd M.lb hp k⟩
 ·exact wfl W
theorem zd0:z1r G F (fun xs H1 Q=>xs.length<=sizeLine/\∀p,H1 p=none->Q (.ref p) (upd H1 p (.lst xs))) lstM:=by
 intro ρ s ts vs H σv tv Q M W
 unfold lstM at W
 split at W
 ·rename_i hz
  exact⟨by rw[<-M.rd.length];exact hz,fun p hp k=>z2v W M.m M.rd M.lb hp k⟩
 ·exact wfl W
theorem se_tup{es:List Expr}{ms:List (M D)}{x1}(hk:X.K=G.K)(h:SA X G F es (z02 ms)):SE X G F (.Tuple es x1 pos) (mCB ms tupD):=
 PE.imp hk (zcB h) fun _ _ _ h=>z3s zcZ h
theorem se_lst{es:List Expr}{ms:List (M D)}(hk:X.K=G.K)(h:SA X G F es (z02 ms)):SE X G F (.List es pos) (mCB ms lstM):=
 PE.imp hk (zcC h) fun _ _ _ h=>z3s zd0 h
noncomputable def truD:D->M Bool
 | .non=>rt false
 | .bool b=>rt b
 | .int i=>rt (i !=0)
 | .str x=>if x.length<=sizeLine then rt ((x.length:Int) !=0) else fl
 | .tup ds=>rt (!ds.isEmpty)
 | .ro ds=>rt (!ds.isEmpty)
 | .lst _ ds=>rt (!ds.isEmpty)
 |_=>fl
noncomputable def z0P(m:M D):M Bool:=bd m truD
theorem z37{ρ:Nat->Addr}{H:Hp}{ds:List D}{xs:List V}(r:RDs G ρ H ds xs):(!ds.isEmpty)= !xs.isEmpty:=by
 have:=r.length
 cases ds<;>cases xs<;>simp at this⊢
theorem zd1{ρ:Nat->Addr}{s:Stt}{t:D}{v:V}{H:Hp}{σv tv:List (Option V)}{Q:Bool->Hp->Prop}(M:MRL G F.toFx ρ H σv tv s [t] [v])(W:wB G F σv tv (truD t s) Q): ∃k,TruV G.K v H k/\Q k H:=by
 have h:=M.rd1
 cases t with
 |non=>simp only[RD] at h;subst h;exact⟨false,rfl,W ρ H M.m⟩
 |bool b=>simp only[RD] at h;subst h;exact⟨b,rfl,W ρ H M.m⟩
 |int i=>simp only[RD] at h;subst h;exact⟨_,rfl,W ρ H M.m⟩
 |str x=>
  simp only[RD] at h;subst h
  unfold truD at W
  by_cases hz:x.length<=sizeLine
  ·simp only[if_pos hz] at W;exact⟨_,⟨hz,rfl⟩,W ρ H M.m⟩
  ·simp only[if_neg hz] at W;exact False.elim W
 |tup ds=>
  obtain⟨p,xs,rfl,s1,r1⟩:=h.tupq
  exact⟨_, .inr (.inl ⟨xs,s1,z37 r1⟩),W ρ H M.m⟩
 |ro ds=>
  obtain⟨p,xs,rfl,s1,r1,_⟩:=h.lstq (ds:=ds) rfl
  exact⟨_, .inl ⟨xs,s1,z37 r1⟩,W ρ H M.m⟩
 |lst n ds=>
  obtain⟨p,xs,rfl,s1,r1,_⟩:=h.lstq (ds:=ds) rfl
  exact⟨_, .inl ⟨xs,s1,z37 r1⟩,W ρ H M.m⟩
 |dct _ _ _=>exact False.elim W
 |fdc _ _=>exact False.elim W
 |obj _ _ _ _=>exact False.elim W
 |exc _=>exact False.elim W
 |fn _=>exact False.elim W
theorem z9m{m:M D}{σ:St}{H:Hp}{Q:Bool->Hp->Prop}(h:tMB G F (z0P m) σ H Q):tM G F m σ H fun x H'=> ∃k,TruV G.K x H' k/\Q k H':=by
 obtain⟨tv,hs,ρ,s,M,W⟩:=h
 refine⟨tv,hs,ρ,s,M, ?_⟩
 unfold z0P bd at W
 cases e:m s with
 |ok t s1=>rw[e] at W;exact fun ρ1 v H1 M1=>zd1 M1 W
 |ex d s1=>rw[e] at W;exact W
 |no=>rw[e] at W;exact W
theorem sb_truth{m:M D}(hk:X.K=G.K)(ha:SE X G F a m)(he: ∀whole,isTrue a X.env whole=(do let v<-whole;standAt a.pos;holding [v] (truthy v)):=by intro _;rfl):SB X G F a (z0P m):=by
 refine PT.imp hk (z96 ha he) fun σ H Q h=> ?_
 rw[hk]
 obtain⟨tv,h'⟩:=z9m h
 exact⟨tv,h'.mono fun v H1 ⟨k,q1,q2⟩=>⟨k,q1,fun _=>q2⟩⟩
noncomputable def booD:D->M Bool
 | .bool b=>rt b
 |_=>fl
noncomputable def mBoo(m:M D):M Bool:=bd m booD
theorem zb8{m:M D}{σ:St}{H:Hp}{Q:Bool->Hp->Prop}(h:tMB G F (mBoo m) σ H Q):tM G F m σ H fun x H'=> ∃k,x= .bl k/\Q k H':=by
 obtain⟨tv,hs,ρ,s,M,W⟩:=h
 refine⟨tv,hs,ρ,s,M, ?_⟩
 unfold mBoo bd at W
 cases e:m s with
 |ok t s1=>
  rw[e] at W
  intro ρ1 v H1 M1
  have h:=M1.rd1
  cases t with
  |bool b=>simp only[RD] at h;exact⟨b,h,W ρ1 H1 M1.m⟩
  |_=>exact False.elim W
 |ex d s1=>rw[e] at W;exact W
 |no=>rw[e] at W;exact W
theorem zb9{op:CmpOp}{r:R2}{ma mb:M D}{g:D->D->M D}(ho:OpR X (compareOp op) r)(hg:z2u G F r g)(ha:SE X G F a ma)(hb:SE X G F b mb)(hm:behindInMarks op b=false):SB X G F (.Compare a [op] [b] pos) (mBoo (mBin ma mb g)):=
 PT.imp0 (zaH ho ha hb hm) fun _ _ _ h=>z6q hg (zb8 h)
theorem zba{m:M Bool}{f:Bool->M Bool}{σ:St}{tv:List (Option V)}{H:Hp}{Q:Bool->Hp->Prop}(h:tBv G F (bd m f) σ tv H Q):tBv G F m σ tv H fun b H1=> ∃ρ1 s1,MR G F.toFx ρ1 H1 σ tv s1/\wB G F σ tv (f b s1) Q:=by
 obtain⟨hs,ρ,s,M,W⟩:=h
 refine⟨hs,ρ,s,M, ?_⟩
 unfold bd at W
 cases e:m s with
 |ok b s1=>rw[e] at W;exact fun ρ1 H1 M1=>⟨ρ1,s1,M1,W⟩
 |ex d s1=>rw[e] at W;exact W
 |no=>rw[e] at W;exact W
theorem wB.mono{σv tv:List (Option V)}{r:Res Bool}{Q Q':Bool->Hp->Prop}(h:wB G F σv tv r Q)(k: ∀v H,Q v H->Q' v H):wB G F σv tv r Q':=by
 cases r with
 |ok t s=>exact fun ρ H M=>k _ _ (h ρ H M)
 |ex d s=>exact h
 |no=>exact h
theorem tBv.mono{m:M Bool}{σv tv:List (Option V)}{H:Hp}{Q Q':Bool->Hp->Prop}(h:tBv G F m σv tv H Q)(k: ∀v H,Q v H->Q' v H):tBv G F m σv tv H Q':=by
 obtain⟨hs,ρ,s,M,W⟩:=h
 exact⟨hs,ρ,s,M,W.mono k⟩
noncomputable def iteM{α:Type}(b:Bool)(m m':M α):M α:=match b with|true=>m|false=>m'
noncomputable def mAnd(m m':M Bool):M Bool:=bd m fun b=>iteM b m' (rt false)
noncomputable def mOr(m m':M Bool):M Bool:=bd m fun b=>iteM b (rt true) m'
noncomputable def mNot(m:M Bool):M Bool:=bd m fun b=>rt (!b)
noncomputable def SW(X:Cx)(G:Gx)(F:Fy)(e:Expr)(m:M Bool):Prop:=PW X e (tMB G F m)
theorem SW.sb{m:M Bool}(h:SW X G F e m):SB X G F e m:=PW.pt h
theorem PW.imp0{t t':TT}(h:PW X e t)(hi: ∀σ H Q,t' σ H Q->t σ H Q):PW X e t':=fun wh pins s σ H Q I q=>h wh pins s σ H _ I (hi σ H Q q)
theorem sw_and1{m:M Bool}(h:SB X G F a m):SW X G F (.BoolOp .And [a] pos) m:=zax h
theorem sw_or1{m:M Bool}(h:SB X G F a m):SW X G F (.BoolOp .Or [a] pos) m:=zcf h
theorem sw_and{rest:List Expr}{m m':M Bool}(ha:SB X G F a m)(hb:SW X G F (.BoolOp .And (b::rest) pos) m'):SW X G F (.BoolOp .And (a::b::rest) pos) (mAnd m m'):=by
 refine PW.imp0 (zcg ha hb) fun σ H Q ⟨tv,h⟩=>⟨tv,(zba h).mono fun b H1 ⟨ρ1,s1,M1,W⟩=> ?_⟩
 cases b with
 |true=>rw[if_pos rfl];exact⟨tv,h.1,ρ1,s1,M1,W⟩
 |false=>rw[if_neg Bool.false_ne_true];exact W ρ1 H1 M1
theorem sw_or{rest:List Expr}{m m':M Bool}(ha:SB X G F a m)(hb:SW X G F (.BoolOp .Or (b::rest) pos) m'):SW X G F (.BoolOp .Or (a::b::rest) pos) (mOr m m'):=by
 refine PW.imp0 (zep ha hb) fun σ H Q ⟨tv,h⟩=>⟨tv,(zba h).mono fun b H1 ⟨ρ1,s1,M1,W⟩=> ?_⟩
 cases b with
 |true=>rw[if_pos rfl];exact W ρ1 H1 M1
 |false=>rw[if_neg Bool.false_ne_true];exact⟨tv,h.1,ρ1,s1,M1,W⟩
theorem sb_not{m:M Bool}(ha:SB X G F a m):SB X G F (.UnaryOp .Not a pos) (mNot m):=by
 refine PT.imp0 (zch ha) fun σ H Q ⟨tv,h⟩=>⟨tv,(zba h).mono fun b H1 ⟨ρ1,s1,M1,W⟩=>W ρ1 H1 M1⟩
noncomputable def z3F(m m':M D):M D:=bd (mBoo m) fun b=>iteM b m' (rt (.bool false))
noncomputable def mOrV(m m':M D):M D:=bd (mBoo m) fun b=>iteM b (rt (.bool true)) m'
noncomputable def z4Q(m:M D):M D:=bd (mBoo m) fun b=>rt (.bool (!b))
theorem z85{m:M D}{f:Bool->M D}{σ:St}{H:Hp}{Q:VK}(h:tM G F (bd (mBoo m) f) σ H Q):tM G F m σ H fun x H1=> ∃k,x= .bl k/\∃ρ1 s1 tv,F.tv0<:+tv/\MR G F.toFx ρ1 H1 σ tv s1/\wM G F σ tv (f k s1) Q:=by
 obtain⟨tv,hs,ρ,s,M,W⟩:=h
 refine⟨tv,hs,ρ,s,M, ?_⟩
 unfold mBoo bd at W
 cases e:m s with
 |ok t s1=>
  rw[e] at W
  intro ρ1 v H1 M1
  have h:=M1.rd1
  cases t with
  |bool b=>simp only[RD] at h;exact⟨b,h,ρ1,s1,tv,hs,M1.m,W⟩
  |_=>exact False.elim W
 |ex d s1=>rw[e] at W;exact W
 |no=>rw[e] at W;exact W
theorem tM.mono{m:M D}{σ:St}{H:Hp}{Q Q':VK}(h:tM G F m σ H Q)(k: ∀v H,Q v H->Q' v H):tM G F m σ H Q':=by
 obtain⟨tv,h⟩:=h
 exact⟨tv,h.mono k⟩
theorem se_one{op}{m:M D}(h:SE X G F a m):SE X G F (.BoolOp op [a] pos) m:=zci h
theorem se_and{rest:List Expr}{m m':M D}(ha:SE X G F a m)(hb:SE X G F (.BoolOp .And (b::rest) pos) m'):SE X G F (.BoolOp .And (a::b::rest) pos) (z3F m m'):=by
 refine PE.imp0 (zcj ha hb) fun σ H Q h=>(z85 h).mono fun x H1 ⟨k,e,ρ1,s1,tv,hs,M1,W⟩=>⟨k,e, ?_⟩
 cases k with
 |true=>rw[if_pos rfl];exact⟨tv,hs,ρ1,s1,M1,W⟩
 |false=>rw[if_neg Bool.false_ne_true];exact W.flat M1 rfl
theorem se_or{rest:List Expr}{m m':M D}(ha:SE X G F a m)(hb:SE X G F (.BoolOp .Or (b::rest) pos) m'):SE X G F (.BoolOp .Or (a::b::rest) pos) (mOrV m m'):=by
 refine PE.imp0 (zes ha hb) fun σ H Q h=>(z85 h).mono fun x H1 ⟨k,e,ρ1,s1,tv,hs,M1,W⟩=>⟨k,e, ?_⟩
 cases k with
 |true=>rw[if_pos rfl];exact W.flat M1 rfl
 |false=>rw[if_neg Bool.false_ne_true];exact⟨tv,hs,ρ1,s1,M1,W⟩
theorem se_not{m:M D}(ha:SE X G F a m):SE X G F (.UnaryOp .Not a pos) (z4Q m):=by
 refine PE.imp0 (zck ha) fun σ H Q h=>(z85 h).mono fun x H1 ⟨k,e,ρ1,s1,tv,hs,M1,W⟩=>⟨k,e,W.flat M1 rfl⟩
noncomputable def z86(y:D)(m:M D):M D:=match cV y with|some _=>m|none=>fl
noncomputable def z4s(ma mb mc:M D)(g g':D->D->M D):M D:=bd ma fun x=>bd (psh x) fun _=>bd mb fun y=>bd pop fun x'=>z86 y (bd (mBoo (g x' y)) fun k=>iteM k (bd mc fun z=>g' y z) (rt (.bool false)))
theorem z87{ma mb mc:M D}{g g':D->D->M D}{r r':R2}{σ:St}{H:Hp}{Q:VK}(hg:z2u G F r g)(hg':z2u G F r' g')(h:tM G F (z4s ma mb mc g g') σ H Q):za5 r r' (tM G F ma) (tM G F mb) (tM G F mc) σ H Q:=by
 obtain⟨tv,h⟩:=h
 have hs:=h.1
 refine⟨tv,(z6p (g:=fun x' y=>z86 y (bd (mBoo (g x' y)) fun k=>iteM k (bd mc fun z=>g' y z) (rt (.bool false)))) h).mono fun v H1 h1=>⟨_,h1.mono fun u H2 ⟨ρ,s,t,t',M,W⟩=> ?_⟩⟩
 unfold z86 at W
 cases e:cV t' with
 |none=>rw[e] at W;exact False.elim W
 |some u'=>
  rw[e] at W
  have hu:u=u':=by
   have h2:=M.rd2.2
   cases t'<;>simp only[cV,Option.some.injEq] at e<;>simp only[RD] at h2<;>first|(rw[h2,e])|cases e
  subst hu
  unfold bd mBoo at W
  dsimp only at W
  refine hg ρ s t t' v u H2 σ tv _ M ?_
  unfold bd at W
  cases e2:g t t' s with
  |ok z s1=>
   rw[e2] at W
   intro ρ1 w H3 M3
   have h3:=M3.rd1
   cases z with
   |bool k=>
    simp only[RD] at h3
    refine⟨k,h3, ?_⟩
    have W:wM G F σ tv (iteM k (bd mc fun z=>g' t' z) (rt (.bool false)) s1) Q:=W
    cases k with
    |false=>rw[if_neg Bool.false_ne_true];exact W.flat M3.m rfl
    |true=>
     rw[if_pos rfl]
     have h5:tMv G F (bd mc fun z=>g' t' z) σ tv H3 Q:=⟨hs,ρ1,s1,M3.m,W⟩
     refine⟨tv,(z3q h5).mono fun w' H4 ⟨ρ4,s4,t4,M4,W4⟩=>hg' ρ4 s4 t' t4 u w' H4 σ tv Q ⟨M4.m, ?_,fun l hl=> ?_⟩ W4⟩
     ·simp only[RDs];exact⟨_,_,rfl,(z7h e).1,_,_,rfl,M4.rd1,rfl⟩
     ·simp only[labsL,(z7h (G:=G) (ρ:=ρ4) (H:=H4) e).2,List.nil_append,List.append_nil] at hl
      exact M4.lb1 l hl
   |_=>exact False.elim W
  |ex d s1=>rw[e2] at W;exact W
  |no=>rw[e2] at W;exact W
theorem z9n{op op':CmpOp}{r r':R2}{ma mb mc:M D}{g g':D->D->M D}(ho:OpR X (compareOp op) r)(hg:z2u G F r g)(ho':OpR X (compareOp op') r')(hg':z2u G F r' g')(ha:SE X G F a ma)(hb:SE X G F b mb)(hc:SE X G F c mc)
 (hm:lastMarks [op,op'] [b,c]=false:=by with_unfolding_all rfl):SE X G F (.Compare a [op,op'] [b,c] pos) (z4s ma mb mc g g'):=
 PE.imp0 (z95 ho ho' ha hb hc hm) fun _ _ _ h=>z87 hg hg' h
end
noncomputable def lenD:List D->M D
 |[.tup ds]=>rt (.int ds.length)
 |[.ro ds]=>rt (.int ds.length)
 |[.lst _ ds]=>rt (.int ds.length)
 |_=>fl
noncomputable def absD:List D->M D
 |[.int i]=>rt (.int (if i<0 then -i else i))
 |_=>fl
noncomputable def minD:List D->M D
 |[.int i, .int j]=>rt (.int (if j<i then j else i))
 |_=>fl
noncomputable def maxD:List D->M D
 |[.int i, .int j]=>rt (.int (if j>i then j else i))
 |_=>fl
noncomputable def boolsD:List D->Option (List Bool)
 |[]=>some []
 | .bool b::r=>(boolsD r).map (b:: ·)
 |_=>none
noncomputable def allD:List D->M D
 |[.lst _ ds]=>match boolsD ds with|some bs=>rt (.bool (bs.all id))|none=>fl
 |_=>fl
noncomputable def tupF:List D->M D
 |[.tup ds]=>rt (.tup ds)
 |[.ro ds]=>rt (.tup ds)
 |[.lst _ ds]=>rt (.tup ds)
 |_=>fl
noncomputable def z7i:List D->M D
 |[.tup ds]=>newL ds
 |[.ro ds]=>newL ds
 |[.lst _ ds]=>newL ds
 |_=>fl
section
variable{X:Cx}{G:Gx}{F:Fy}{e a b c:Expr}{pos:Pos}
theorem MRL.one{ρ:Nat->Addr}{H:Hp}{σv tv:List (Option V)}{s:Stt}{t:D}{vs:List V}(M:MRL G F.toFx ρ H σv tv s [t] vs): ∃v,vs=[v]/\RD G ρ H t v/\LB F.toFx ρ s.n (labs t):=by
 have h:=M.rd
 simp only[RDs] at h
 obtain⟨v,r,rfl,h,rfl⟩:=h
 exact⟨v,rfl,h,M.lb1⟩
theorem MRL.two{ρ:Nat->Addr}{H:Hp}{σv tv:List (Option V)}{s:Stt}{t t':D}{vs:List V}(M:MRL G F.toFx ρ H σv tv s [t,t'] vs): ∃v u,vs=[v,u]/\RD G ρ H t v/\RD G ρ H t' u:=by
 have h:=M.rd
 simp only[RDs] at h
 obtain⟨v,r,rfl,h,u,q,rfl,h',rfl⟩:=h
 exact⟨v,u,rfl,h,h'⟩
theorem zd2:z1r G F (fun xs H Q=> ∃p ys,xs=[.ref p]/\(SqL G.K H p ys\/SqT G.K H p ys)/\Q (.int ys.length) H) lenD:=by
 intro ρ s ts vs H σv tv Q M W
 unfold lenD at W
 split at W
 ·obtain⟨v,rfl,h,_⟩:=M.one
  obtain⟨p,xs,rfl,s1,r1,_⟩:=h.seq rfl
  exact⟨p,xs,rfl,s1,fun _=>by rw[<-r1.length];exact W.flat M.m rfl⟩
 ·obtain⟨v,rfl,h,_⟩:=M.one
  obtain⟨p,xs,rfl,s1,r1,_⟩:=h.seq rfl
  exact⟨p,xs,rfl,s1,fun _=>by rw[<-r1.length];exact W.flat M.m rfl⟩
 ·obtain⟨v,rfl,h,_⟩:=M.one
  obtain⟨p,xs,rfl,s1,r1,_⟩:=h.seq rfl
  exact⟨p,xs,rfl,s1,fun _=>by rw[<-r1.length];exact W.flat M.m rfl⟩
 ·exact wfl W
theorem zd3:z1r G F (fun xs H Q=> ∃i,xs=[.int i]/\Q (.int (if i<0 then -i else i)) H) absD:=by
 intro ρ s ts vs H σv tv Q M W
 unfold absD at W
 split at W
 ·obtain⟨v,rfl,h,_⟩:=M.one
  simp only[RD] at h
  subst h
  exact⟨_,rfl,fun _=>W.flat M.m rfl⟩
 ·exact wfl W
theorem zd4:z1r G F (fun xs H Q=> ∃i j,xs=[.int i, .int j]/\Q (.int (if j<i then j else i)) H) minD:=by
 intro ρ s ts vs H σv tv Q M W
 unfold minD at W
 split at W
 ·obtain⟨v,u,rfl,h,h'⟩:=M.two
  simp only[RD] at h h'
  subst h h'
  exact⟨_,_,rfl,fun _=>W.flat M.m rfl⟩
 ·exact wfl W
theorem zd5:z1r G F (fun xs H Q=> ∃i j,xs=[.int i, .int j]/\Q (.int (if j>i then j else i)) H) maxD:=by
 intro ρ s ts vs H σv tv Q M W
 unfold maxD at W
 split at W
 ·obtain⟨v,u,rfl,h,h'⟩:=M.two
  simp only[RD] at h h'
  subst h h'
  exact⟨_,_,rfl,fun _=>W.flat M.m rfl⟩
 ·exact wfl W
theorem z6r{ρ:Nat->Addr}{H:Hp}: ∀{ds:List D} {xs:List V} {bs:List Bool},RDs G ρ H ds xs->boolsD ds=some bs->xs=bs.map V.bl
 |[],xs,bs,r,e=>by simp only[RDs] at r;simp only[boolsD,Option.some.injEq] at e;subst r e;rfl
 |d::ds,xs,bs,r,e=>by
  simp only[RDs] at r
  obtain⟨x,q,rfl,h1,h2⟩:=r
  cases d with
  |bool b=>
   simp only[boolsD] at e
   cases e1:boolsD ds with
   |none=>rw[e1] at e;cases e
   |some cs=>
    rw[e1] at e
    cases e
    simp only[RD] at h1
    rw[h1,z6r h2 e1];rfl
  |_=>simp only[boolsD] at e;cases e
theorem zd6:z1r G F (fun xs H Q=> ∃(p:Addr) (bs:List Bool),xs=[.ref p]/\SqL G.K H p (bs.map V.bl)/\Q (.bl (bs.all id)) H) allD:=by
 intro ρ s ts vs H σv tv Q M W
 unfold allD at W
 split at W
 ·rename_i l ds
  cases e1:boolsD ds with
  |none=>rw[e1] at W;exact False.elim W
  |some bs=>
   rw[e1] at W
   obtain⟨v,rfl,h,_⟩:=M.one
   obtain⟨p,xs,rfl,s1,r1,_⟩:=h.lstq (ds:=ds) rfl
   rw[z6r r1 e1] at s1
   exact⟨p,bs,rfl,s1,fun _=>W.flat M.m rfl⟩
 ·exact wfl W
theorem zbb:z1r G F (fun xs H Q=> ∃(p:Addr) (ys:List V),xs=[.ref p]/\(SqL G.K H p ys\/H p=some (.tup ys))/\NewX G.K H ys Q) tupF:=by
 intro ρ s ts vs H σv tv Q M W
 have fin: ∀(t:D) (ds:List D),ts=[t]->seqD t=some ds->wM G F σv tv (.ok (.tup ds) s) Q->∃(p:Addr) (ys:List V),vs=[.ref p]/\(SqL G.K H p ys\/H p=some (.tup ys))/\NewX G.K H ys (fun w H'=>KD G.K H'->Q w H'):=fun t ds et es W'=>by
  subst et
  obtain⟨v,rfl,h,lb⟩:=M.one
  obtain⟨p,xs,rfl,s1,r1,sub⟩:=h.seqx es
  exact⟨p,xs,rfl,s1,z4P W' M.m r1 fun l hl=>lb l (sub l hl)⟩
 unfold tupF at W
 split at W
 ·exact fin _ _ rfl rfl W
 ·exact fin _ _ rfl rfl W
 ·exact fin _ _ rfl rfl W
 ·exact wfl W
theorem z9o:z1r G F (fun xs H Q=> ∃p ys,xs=[.ref p]/\(SqL G.K H p ys\/SqT G.K H p ys)/\∀l,H l=none->Q (.ref l) (upd H l (.lst ys))) z7i:=by
 intro ρ s ts vs H σv tv Q M W
 have fin: ∀(t:D) (ds:List D),ts=[t]->seqD t=some ds->wM G F σv tv (.ok (.lst s.n ds) s.nxt) Q->∃p ys,vs=[.ref p]/\(SqL G.K H p ys\/SqT G.K H p ys)/\∀l,H l=none->KD G.K (upd H l (.lst ys))->Q (.ref l) (upd H l (.lst ys)):=fun t ds et es W'=>by
  subst et
  obtain⟨v,rfl,h,lb⟩:=M.one
  obtain⟨p,xs,rfl,s1,r1,sub⟩:=h.seq es
  exact⟨p,xs,rfl,s1,fun l hl k=>z2v W' M.m r1 (fun l hl=>lb l (sub l hl)) hl k⟩
 unfold z7i at W
 split at W
 ·exact fin _ _ rfl rfl W
 ·exact fin _ _ rfl rfl W
 ·exact fin _ _ rfl rfl W
 ·exact wfl W
noncomputable def isiD(T:String):D->Option Bool
 | .non=>some false
 | .bool _=>some (T== "int" ||T== "bool")
 | .int _=>some (T== "int")
 | .str _=>some (T== "str")
 | .tup _=>some (T== "tuple")
 | .ro _=>some (T== "list")
 | .lst _ _=>some (T== "list")
 |_=>none
noncomputable def mIsi(T:String)(m:M D):M D:=bd m fun d=>match isiD T d with|some b=>rt (.bool b)|none=>fl
theorem za9{ρ:Nat->Addr}{H:Hp}{t:D}{v:V}{T:String}{b:Bool}(h:RD G ρ H t v)(e:isiD T t=some b):isiV G.K H T b v:=by
 cases t<;>simp only[isiD,Option.some.injEq] at e<;>try cases e
 ·simp only[RD] at h;subst h;exact rfl
 ·simp only[RD] at h;subst h;exact rfl
 ·simp only[RD] at h;subst h;exact rfl
 ·simp only[RD] at h;subst h;exact rfl
 ·obtain⟨p,xs,rfl,s1,r1⟩:=h.tupq
  exact .inl ⟨xs,s1,rfl⟩
 ·obtain⟨p,xs,rfl,s1,r1,_⟩:=h.lstq rfl
  exact .inr ⟨xs,s1,rfl⟩
 ·obtain⟨p,xs,rfl,s1,r1,_⟩:=h.lstq rfl
  exact .inr ⟨xs,s1,rfl⟩
theorem se_isi{p:Pos}{x y:Expr}{T:String}{m:M D}(hk:X.K=G.K)(hT:T= "int" \/T= "bool" \/T= "tuple" \/T= "list" \/T= "str")(hgl:Gl X "isinstance")(hm:X.mg "isinstance" =none)(ha:SE X G F x m)(hy:PE X y (tC (.ty T)))
 (he:starEach [x,y] X.env=(false,eval x X.env)::starEach [y] X.env:=by rfl) (he2:starEach [y] X.env=(false,eval y X.env)::starEach [] X.env:=by rfl) (hpl:(backTo pos (starEach [y] X.env)).any (·.1)=false:=by rfl):SE X G F (.Call (.Name "isinstance" p) [x,y] [] pos) (mIsi T m):=by
 refine PE.imp hk (z2G z9j hgl hm PyProof.Rows.Boot.«isinstance» (z08 ha (z08 hy z27 he2) he) (by decide) (by decide) he hpl) fun σ H Q ⟨tv,h⟩=>⟨tv,(z3q h).mono fun v H1 ⟨ρ1,s1,t,M1,W⟩=> ?_⟩
 cases e:isiD T t with
 |none=>simp only[e] at W;exact False.elim W
 |some b=>
  simp only[e] at W
  rw[hk]
  exact⟨v,T,b,rfl,hT,za9 M1.rd1 e,fun _=>W.flat M1.m rfl⟩
end
inductive RS where
 |nx (s:Stt)|rt (d:D) (s:Stt)|bk (s:Stt)|ct (s:Stt)|ex (d:D) (s:Stt)|no
noncomputable abbrev MS:=Stt->RS
noncomputable def lift{α:Type}(m:M α)(f:α->MS):MS:=fun s=>match m s with
 | .ok a s'=>f a s'
 | .ex d s'=> .ex d s'
 | .no=> .no
noncomputable def seqS(m m':MS):MS:=fun s=>match m s with
 | .nx s'=>m' s'
 |r=>r
noncomputable def sNx:MS:=fun s=> .nx s
noncomputable def z0V(m:M D):MS:=lift m fun _=>sNx
noncomputable def sRet(m:M D):MS:=lift m fun d s=> .rt d s
noncomputable def iteS(b:Bool)(m m':MS):MS:=match b with|true=>m|false=>m'
noncomputable def sIf(c:M Bool)(m m':MS):MS:=lift c fun b=>iteS b m m'
inductive Tg where
 |nm (i:Nat)|tp (ts:List Tg)
mutual
noncomputable def asg:Tg->D->List (Option D)->Option (List (Option D))
 | .nm i,t,σ=>some (σ.set i (some t))
 | .tp ts, .tup ds,σ=>asgL ts ds σ
 | .tp ts, .lst _ ds,σ=>asgL ts ds σ
 | .tp _,_,_=>none
noncomputable def asgL:List Tg->List D->List (Option D)->Option (List (Option D))
 |[],[],σ=>some σ
 |t::ts,d::ds,σ=>match asg t d σ with|some σ'=>asgL ts ds σ'|none=>none
 |_,_,_=>none
end
noncomputable def sAsg(g:Tg)(m:M D):MS:=lift m fun d s=>match asg g d s.σ with
 |some σ'=> .nx {s with σ:=σ'}
 |none=> .no
section
variable{X:Cx}{G:Gx}{F:Fy}{e a b c:Expr}{st:Stmt}{sts rest:List Stmt}{pos:Pos}
noncomputable def wS(G:Gx)(F:Fy)(tv:List (Option V))(r:RS)(D:Ends):Prop:=match r with
 | .nx s'=> ∀ρ' σv' H',MR G F.toFx ρ' H' σv' tv s'->D.nx σv' H'
 | .rt t s'=> ∀ρ' σv' v H',MRL G F.toFx ρ' H' σv' tv s' [t] [v]->D.rt v H'
 | .bk s'=> ∀ρ' σv' H',MR G F.toFx ρ' H' σv' tv s'->D.bk σv' H'
 | .ct s'=> ∀ρ' σv' H',MR G F.toFx ρ' H' σv' tv s'->D.ct σv' H'
 | .ex d s'=>F.xw d s'
 | .no=>False
noncomputable def tSv(G:Gx)(F:Fy)(m:MS)(tv:List (Option V))(D:Ends)(σv:St)(H:Hp):Prop:=F.tv0<:+tv/\∃ρ s,MR G F.toFx ρ H σv tv s/\wS G F tv (m s) D
noncomputable def tS(G:Gx)(F:Fy)(m:MS):TS:=fun D σv H=> ∃tv,tSv G F m tv D σv H
noncomputable def SS(X:Cx)(G:Gx)(F:Fy)(st:Stmt)(m:MS):Prop:=PS X st (tS G F m)
noncomputable def SSs(X:Cx)(G:Gx)(F:Fy)(sts:List Stmt)(m:MS):Prop:=PSs X sts (tS G F m)
theorem PS.imp0{t t':TS}(h:PS X st t)(hi: ∀D σ H,t' D σ H->t D σ H):PS X st t':=fun pins s σ H D I q=>h pins s σ H D I (hi D σ H q)
theorem PSs.imp0{t t':TS}(h:PSs X sts t)(hi: ∀D σ H,t' D σ H->t D σ H):PSs X sts t':=fun pins s σ H D I q=>h pins s σ H D I (hi D σ H q)
theorem ss_nil:SSs X G F [] sNx:=PSs.imp0 zay fun D σ H ⟨tv,hs,ρ,s,M,W⟩=>W ρ σ H M
theorem ss_cons{m m':MS}(h1:SS X G F st m)(h2:SSs X G F rest m'):SSs X G F (st::rest) (seqS m m'):=by
 refine PSs.imp0 (z92 h1 h2) fun D σ H ⟨tv,hs,ρ,s,M,W⟩=>⟨tv,hs,ρ,s,M, ?_⟩
 unfold seqS at W
 cases e:m s with
 |nx s'=>rw[e] at W;exact fun ρ' σv' H' M'=>⟨tv,hs,ρ',s',M',W⟩
 |rt d s'=>rw[e] at W;exact W
 |bk s'=>rw[e] at W;exact W
 |ct s'=>rw[e] at W;exact W
 |ex d s'=>rw[e] at W;exact W
 |no=>rw[e] at W;exact W
theorem ss_one{m:MS}(h1:SS X G F st m):SSs X G F [st] m:=zaz h1
theorem z2K{m:M D}{f:D->MS}{tv:List (Option V)}{D:Ends}{σ:St}{H:Hp}(h:tSv G F (lift m f) tv D σ H):tMv G F m σ tv H fun v H1=> ∃ρ1 s1 t,MRL G F.toFx ρ1 H1 σ tv s1 [t] [v]/\wS G F tv (f t s1) D:=by
 obtain⟨hs,ρ,s,M,W⟩:=h
 refine⟨hs,ρ,s,M, ?_⟩
 unfold lift at W
 cases e:m s with
 |ok t s1=>rw[e] at W;exact fun ρ1 v H1 M1=>⟨ρ1,s1,t,M1,W⟩
 |ex d s1=>rw[e] at W;exact W
 |no=>rw[e] at W;exact W
theorem z5y{m:M Bool}{f:Bool->MS}{tv:List (Option V)}{D:Ends}{σ:St}{H:Hp}(h:tSv G F (lift m f) tv D σ H):tBv G F m σ tv H fun b H1=> ∃ρ1 s1,MR G F.toFx ρ1 H1 σ tv s1/\wS G F tv (f b s1) D:=by
 obtain⟨hs,ρ,s,M,W⟩:=h
 refine⟨hs,ρ,s,M, ?_⟩
 unfold lift at W
 cases e:m s with
 |ok t s1=>rw[e] at W;exact fun ρ1 H1 M1=>⟨ρ1,s1,M1,W⟩
 |ex d s1=>rw[e] at W;exact W
 |no=>rw[e] at W;exact W
theorem ss_expr{m:M D}(he:SE X G F e m)(hs:swapsWith e none pos.line X.env=pure false:=by rfl):SS X G F (.Expr e pos) (z0V m):=
 PS.imp0 (zaA he hs) fun D σ H ⟨tv,h⟩=>⟨tv,(z2K h).mono fun v H1 ⟨ρ1,s1,t,M1,W⟩=>W ρ1 σ H1 M1.m⟩
theorem ss_ret{m:M D}(he:SE X G F e m):SS X G F (.Return (some e) pos) (sRet m):=
 PS.imp0 (zcl he) fun D σ H ⟨tv,h⟩=>⟨tv,(z2K h).mono fun v H1 ⟨ρ1,s1,t,M1,W⟩=>W ρ1 σ v H1 M1⟩
theorem ss_if{x y:List Stmt}{mc:M Bool}{m m':MS}(hc:SB X G F c mc)(ha:SSs X G F x m)(hb:SSs X G F y m'):SS X G F (.If c x y pos) (sIf mc m m'):=by
 refine PS.imp0 (zev hc ha hb) fun D σ H ⟨tv,h⟩=>⟨tv,(z5y h).mono fun k H1 ⟨ρ1,s1,M1,W⟩=> ?_⟩
 cases k with
 |true=>rw[if_pos rfl];exact⟨tv,h.1,ρ1,s1,M1,W⟩
 |false=>rw[if_neg Bool.false_ne_true];exact⟨tv,h.1,ρ1,s1,M1,W⟩
noncomputable def tGn(G:Gx)(F:Fy)(g:Tg):TG:=fun v σv H Q=> ∃tv ρ s t,MRL G F.toFx ρ H σv tv s [t] [v]/\∃σ',asg g t s.σ=some σ'/\∀σv',MR G F.toFx ρ H σv' tv {s with σ:=σ'}->Q σv' H
noncomputable def tGs(G:Gx)(F:Fy)(g:List Tg):TGs:=fun vs σv H Q=> ∃tv ρ s ts,MRL G F.toFx ρ H σv tv s ts vs/\∃σ',asgL g ts s.σ=some σ'/\∀σv',MR G F.toFx ρ H σv' tv {s with σ:=σ'}->Q σv' H
noncomputable def SG(X:Cx)(G:Gx)(F:Fy)(tg:Expr)(g:Tg):Prop:=PG X tg (tGn G F g)
noncomputable def SGs(X:Cx)(G:Gx)(F:Fy)(tgs:List Expr)(g:List Tg):Prop:=PGs X tgs (tGs G F g)
theorem MRL.setS{ρ:Nat->Addr}{H:Hp}{σv tv:List (Option V)}{s:Stt}{t:D}{v:V}{ts:List D}{vs:List V}(i:Nat)(M:MRL G F.toFx ρ H σv tv s (t::ts) (v::vs)):MRL G F.toFx ρ H (σv.set i (some v)) tv {s with σ:=s.σ.set i (some t)} ts vs:=by
 have h:=M.rd
 simp only[RDs] at h
 obtain⟨_,_,e,h1,h2⟩:=h
 cases e
 have lb1: ∀l∈labs t,l<s.n/\(F.A0 (ρ l)\/F.H0 (ρ l)=none):=fun l h=>M.lb l (by simp only[labsL];exact List.mem_append_left _ h)
 have all: ∀l∈z0H {s with σ:=s.σ.set i (some t)},l<s.n/\(F.A0 (ρ l)\/F.H0 (ρ l)=none):=fun l h=>by
  rcases List.mem_append.mp h with h|h
  ·rcases z3D l h with q|q
   ·exact⟨M.m.lab l (List.mem_append_left _ q),M.m.own l (List.mem_append_left _ q)⟩
   ·exact lb1 l q
  ·exact⟨M.m.lab l (List.mem_append_right _ h),M.m.own l (List.mem_append_right _ h)⟩
 exact⟨⟨M.m.sl.set i h1,M.m.tm,M.m.inj,M.m.dom,fun l h=>(all l h).1,fun l h=>(all l h).2,M.m.frm,M.m.kd,M.m.frb,M.m.bas⟩,h2,fun l h=>M.lb l (by simp only[labsL];exact List.mem_append_right _ h)⟩
theorem sg_name{i:Nat}{x:Str}{p:Pos}(h:PG X (.Name x p) (z6Y i)):SG X G F (.Name x p) (.nm i):=by
 intro pins s σ H v u Q I r ⟨tv,ρ,ms,t,M,σ',e,k⟩
 simp only[asg,Option.some.injEq] at e
 subst e
 exact h pins s σ H v u Q I r (k _ (M.setS i).m)
theorem sgs_nil:SGs X G F [] []:=by
 intro pins s σ H vs us Q I r ⟨tv,ρ,ms,ts,M,σ',e,k⟩
 cases ts with
 |nil=>
  simp only[asgL,Option.some.injEq] at e
  subst e
  have h:=M.rd
  simp only[RDs] at h
  exact zaB pins s σ H vs us Q I r ⟨h,k _ M.m⟩
 |cons d ds=>simp only[asgL] at e;cases e
theorem MRL.cons_inv{ρ:Nat->Addr}{H:Hp}{σv tv:List (Option V)}{s:Stt}{t:D}{ts:List D}{vs:List V}(M:MRL G F.toFx ρ H σv tv s (t::ts) vs): ∃v r,vs=v::r/\MRL G F.toFx ρ H σv tv s [t] [v]/\RDs G ρ H ts r/\LB F.toFx ρ s.n (labsL ts):=by
 have h:=M.rd
 simp only[RDs] at h
 obtain⟨v,r,rfl,h1,h2⟩:=h
 exact⟨v,r,rfl,⟨M.m,RDs.one h1,fun l h=>M.lb l (by simp only[labsL,List.append_nil] at h⊢;exact List.mem_append_left _ h)⟩,h2,fun l h=>M.lb l (by simp only[labsL];exact List.mem_append_right _ h)⟩
theorem PGs.imp0{es:List Expr}{t t':TGs}(h:PGs X es t)(hi: ∀vs σ H Q,t' vs σ H Q->t vs σ H Q):PGs X es t':=fun pins s σ H vs us Q I r q=>h pins s σ H vs us Q I r (hi vs σ H Q q)
theorem PG.imp0{t t':TG}(h:PG X e t)(hi: ∀v σ H Q,t' v σ H Q->t v σ H Q):PG X e t':=fun pins s σ H v u Q I r q=>h pins s σ H v u Q I r (hi v σ H Q q)
theorem sgs_cons{es:List Expr}{g:Tg}{gs:List Tg}(h1:SG X G F e g)(h2:SGs X G F es gs)(hs:(assignEach (e::es) X.env).map (·.2)=assign e X.env::(assignEach es X.env).map (·.2):=by rfl):SGs X G F (e::es) (g::gs):=by
 refine PGs.imp0 (z93 h1 h2 hs) fun vs σv H Q ⟨tv,ρ,s,ts,M,σ',e,k⟩=> ?_
 cases ts with
 |nil=>simp only[asgL] at e;cases e
 |cons d ds=>
  simp only[asgL] at e
  cases e1:asg g d s.σ with
  |none=>rw[e1] at e;cases e
  |some σ1=>
   rw[e1] at e
   obtain⟨v,r,rfl,M1,h2,lb⟩:=M.cons_inv
   exact⟨v,r,rfl,tv,ρ,s,d,M1,σ1,e1,fun σv1 M2=>⟨tv,ρ,{s with σ:=σ1},ds,⟨M2,h2,lb⟩,σ',e,k⟩⟩
theorem sg_tup{es:List Expr}{k:Nat}{gs:List Tg}(hk:X.K=G.K)(hc:X.calm=true)(h:SGs X G F es gs)(hn:(assignEach es X.env).length=gs.length:=by rfl)(hst:(assignEach es X.env).findIdx? (·.1)=none:=by rfl):SG X G F (.Tuple es k pos) (.tp gs):=by
 refine PG.imp0 (zcP hc h hn hst) fun v σv H Q ⟨tv,ρ,s,t,M,σ',e,kk⟩=> ?_
 have len: ∀{gs:List Tg} {ds:List D} {σ σ':List (Option D)},asgL gs ds σ=some σ'->ds.length=gs.length:=by
  intro gs
  induction gs with
  |nil=>intro ds σ σ' e;cases ds with
   |nil=>rfl
   |cons _ _=>simp only[asgL] at e;cases e
  |cons g gs ih=>intro ds σ σ' e;cases ds with
   |nil=>simp only[asgL] at e;cases e
   |cons d ds=>
    simp only[asgL] at e
    cases e1:asg g d σ with
    |none=>rw[e1] at e;cases e
    |some σ1=>rw[e1] at e;rw[List.length_cons,List.length_cons,ih e]
 cases t with
 |tup ds=>
  simp only[asg] at e
  obtain⟨a,xs,rfl,sq,r⟩:=M.rd1.tupq
  refine⟨a,xs,rfl, .inl (hk▸sq),by rw[<-r.length];exact len e,tv,ρ,s,ds,⟨M.m,r,fun l h=>M.lb1 l (by simp only[labs];exact h)⟩,σ',e,kk⟩
 |lst l ds=>
  simp only[asg] at e
  obtain⟨a,xs,rfl,sq,r,sub⟩:=M.rd1.lstq (ds:=ds) rfl
  refine⟨a,xs,rfl, .inr (hk▸sq),by rw[<-r.length];exact len e,tv,ρ,s,ds,⟨M.m,r,fun l h=>M.lb1 l (sub l h)⟩,σ',e,kk⟩
 |_=>simp only[asg] at e;cases e
theorem ss_set{i:Nat}{x:Str}{p:Pos}{m:M D}(h: ∀{te:TE},PE X e te->PS X (.Assign [.Name x p] e pos) (tAsg te (z6Y i)))(he:SE X G F e m):SS X G F (.Assign [.Name x p] e pos) (sAsg (.nm i) m):=by
 refine PS.imp0 (h he) fun D σ H ⟨tv,h⟩=>⟨tv,(z2K h).mono fun v H1 ⟨ρ1,s1,t,M1,W⟩=> ?_⟩
 simp only[asg] at W
 exact W ρ1 _ H1 (M1.setS i).m
noncomputable def z0Z(c:M Bool)(b:MS):Nat->MS
 |0=>fun _=> .no
 |f+1=>lift c fun k=>iteS k (fun s=>match b s with
  | .nx s'=>z0Z c b f s'
  | .ct s'=>z0Z c b f s'
  | .bk s'=> .nx s'
  | .rt d s'=> .rt d s'
  | .ex d s'=> .ex d s'
  | .no=> .no) sNx
noncomputable def z2L(fuel:Stt->Nat)(c:M Bool)(b:MS):MS:=fun s=>z0Z c b (fuel s) s
theorem ss_while{body:List Stmt}{mc:M Bool}{mb:MS}{fuel:Stt->Nat}(hp:PassesOwn (model X.prog X.w) X.A X.env X.xe)(hc:SB X G F c mc)(hb:SSs X G F body mb):SS X G F (.While c body [] pos) (z2L fuel mc mb):=by
 refine PS.imp0 (z94 hp hc hb) fun D σ H ⟨tv,hs,ρ,s,M,W⟩=> ?_
 refine⟨fun m σ H=>tSv G F (z0Z mc mb m) tv D σ H,⟨fuel s,hs,ρ,s,M,W⟩,fun m σ H h=> ?_⟩
 cases m with
 |zero=>obtain⟨_,_,_,_,W⟩:=h;exact False.elim W
 |succ f=>
  refine⟨tv,(z5y h).mono fun k H1 ⟨ρ1,s1,M1,W1⟩=> ?_⟩
  cases k with
  |false=>rw[if_neg Bool.false_ne_true];exact W1 ρ1 σ H1 M1
  |true=>
   rw[if_pos rfl]
   refine⟨fun σ' H'=>tSv G F (z0Z mc mb f) tv D σ' H',fun σ' H' q=>⟨f,Nat.lt_succ_self _,q⟩,tv,hs,ρ1,s1,M1, ?_⟩
   simp only[iteS] at W1
   cases e:mb s1 with
   |nx s'=>rw[e] at W1;exact fun ρ' σv' H' M'=>⟨hs,ρ',s',M',W1⟩
   |ct s'=>rw[e] at W1;exact fun ρ' σv' H' M'=>⟨hs,ρ',s',M',W1⟩
   |bk s'=>rw[e] at W1;exact W1
   |rt d s'=>rw[e] at W1;exact W1
   |ex d s'=>rw[e] at W1;exact W1
   |no=>rw[e] at W1;exact W1
end
end Mi
namespace L2
open PySem PySem.Spec PyProof.Rows
noncomputable abbrev z88(ifs:List Expr)(env:Env):Sem Bool:=forIn ifs true fun c r=>if r=true then do let ok<-isTrue c env (eval c env);pure (ForInStep.yield ok) else pure (ForInStep.yield r)
theorem z2m{prog:Program}{w:World}{A:Around}{R:Result->Shared->Prop}{s:Shared}{elt target iter:Expr}{ifs:List Expr}{scope:Scope}{pos:Pos}{it acc:Value}{env:Env}(I:Nat->Shared->Prop)
 (turn: ∀n s,I n s->wpAny (model prog w) A (pyNext it) (fun r s₁=>match r with
  |none=>R (.ok .next) s₁
  |some v=>wpAny (model prog w) A (letOwnedTupleGo target it v) (fun _ s₁=>wpAny (model prog w) A (assign target env v) (fun _ s₂=>wpAny (model prog w) A (z88 ifs env) (fun ok s₃=>
   if ok=true then wpAny (model prog w) A (eval elt env) (fun x s₃=>
   wpAny (model prog w) A (call (.builtin "list.append") [acc,x]) (fun _ s₄=> ∃m,m<n/\I m s₄) (fun _ _=>False) s₃)
   (fun _ _=>False) s₃ else ∃m,m<n/\I m s₃) (fun _ _=>False) s₂) (fun _ _=>False) s₁) (fun _ _=>False) s₁) (fun _ _=>False) s)
 (n:Nat) (h:I n s):
 codeAny (model prog w) A (.compLoop (.ListComp elt [⟨target,iter,ifs,0⟩] scope pos) 0 it acc env) R s:=by
 refine codeAny_loop rfl I (fun n s hI=> ?_) n h
 show wpAny _ _ ((compTurn (.ListComp elt [⟨target,iter,ifs,0⟩] scope pos) 0 it acc env).onRaise (fun x=>do noteFrame x env;theTreesLotGoes x)) _ _ s
 refine wpAny_noted ?_
 rw[compTurn_list]
 refine wpAny_bind (wpAny_standAt (wpAny_bind (wpAny_mono (turn n s hI) (fun r s₁ h₁=> ?_) fun _ _ h'=>h'.elim)))
 cases r with
 |none=>exact wpAny_pure h₁
 |some v=>
  refine wpAny_bind (wpAny_mono h₁ (fun _ s₁ h₁=> ?_) fun _ _ h'=>h'.elim)
  refine wpAny_bind (wpAny_mono h₁ (fun _ s₂ h₂=>wpAny_bind (wpAny_mono h₂ (fun ok s₃ h₃=> ?_) fun _ _ h'=>h'.elim)) fun _ _ h'=>h'.elim)
  cases ok with
  |false=>exact wpAny_pure ⟨rfl,h₃⟩
  |true=>
   exact wpAny_bind (wpAny_bind (wpAny_mono h₃ (fun x s₄ h₄=>wpAny_bind (wpAny_mono h₄ (fun _ s₅ h₅=>wpAny_pure (wpAny_pure ⟨rfl,h₅⟩)) fun _ _ h'=>h'.elim)) fun _ _ h'=>h'.elim))
noncomputable def PTs(X:Cx)(ifs:List Expr)(t:TT):Prop:=
 ∀(pins:List (Addr×Obj)) (s:Shared) (σ:St) (H:Hp) (Q:Bool->Hp->Prop),Inv X pins σ H s->t σ H Q->wpAny (model X.prog X.w) X.A (z88 ifs X.env) (TP X pins σ Q) X.xe s
theorem zbc{X:Cx}:PTs X [] (fun _ H Q=>Q true H):=fun pins s σ H Q I h=>wpAny_tests_nil ⟨H,I,h⟩
theorem zbd{X:Cx}{c:Expr}{t:TT}(h:PT X c t):PTs X [c] t:=fun pins s σ H Q I q=>wpAny_tests_one (h pins s σ H Q I q)
section
variable{X:Cx}{tg iter elt:Expr}{ifs:List Expr}{pos:Pos}{scope:Scope}{own frees:List Str}{ix:List Nat}{wi:TI}{g:TG}{tt:TT}{te:TE}
noncomputable def zaa(K:W.Frag)(wi:TI)(g:TG)(tt:TT)(te:TE)(k:Nat)(ix:List Nat):TE:=fun σ H Q=>wi σ H fun J H1=> ∀D,H1 D=none->(∀a o,K.lookup a=some o->upd H1 D (.lst []) a=none)->
 ∃W:Nat->Nat->List V->St->Hp->Prop,(∃m,W 0 m [] (z2I k ix σ) (upd H1 D (.lst [])))/\
  ∀i m ys σ' H',W i m ys σ' H'->H' D=some (.lst ys)/\((J.stop i H'/\Q (.ref D) H')\/
   (J.go i H'/\∀x H2,J.yld i H' x H2->g x σ' H2 fun σ2 H3=>tt σ2 H3 fun ok H3=>if ok=true then te σ2 H3 fun y H4=>H4 D=some (.lst ys)/\ys.length<sizeLine/\∃m',m'<m/\W (i+1) m' (ys++[y]) σ2 (upd H4 D (.lst (ys++[y])))
    else ∃m',m'<m/\W (i+1) m' ys σ2 H3))
theorem z89(hc:X.calm=true)(S:z28 X.env.scope scope own frees X.N ix)(hi:PI X tg iter wi)
 (hg: ∀cl C s₀ H₀ fp pn,PG (z1E X scope own frees cl C s₀ H₀ fp pn) tg g) (ht: ∀cl C s₀ H₀ fp pn,PTs (z1E X scope own frees cl C s₀ H₀ fp pn) ifs tt) (he: ∀cl C s₀ H₀ fp pn,PE (z1E X scope own frees cl C s₀ H₀ fp pn) elt te)
 (hs: ∀x,foldedSetIterable iter X.env x=pure x:=by intro _;rfl):
 PE X (.ListComp elt [⟨tg,iter,ifs,0⟩] scope pos) (zaa X.K wi g tt te own.length ix):=by
 intro pins s σ H Q I h
 have hclos:closureFor scope X.env=pure (z2H X.env scope.names []):=z4N fun y hy e=>I.ok.has y.1 (S.fr y hy e)
 rw[eval_ListComp]
 refine wpAny_comprehension_free (use:=none) rfl hs hclos S.kind S.names (thn (hi pins s σ H _ I h) fun v s1 h1=>thn h1 fun itv s2 h2=> ?_)
 obtain⟨it,fp,tn,J,H2,e,I2,T,st2,f2,hD⟩:=h2
 subst e
 refine wpAny_newObj_type ?_
 have I3:Inv X pins σ (upd H2 s2.heap.objs.size (.lst [])) {s2 with heap:=s2.heap.push {cls:= .type "list",data:= .seq ([]:List Value).toArray}}:=I2.lnew (t':=s2.toks) .nil (Nat.zero_le _)
 have nD:H2 s2.heap.objs.size=none:=I2.fresh
 obtain⟨W,⟨m0,w0⟩,turn⟩:=hD _ nD fun a o e=>(I3.bs a o (I3.ok.mod.kin a o e)).2
 have fpl: ∀b∈fp,b<s2.heap.objs.size:=fun b z=>by
  obtain⟨o,q,_⟩:=T.obj _ _ st2 b z
  exact Heap.lt_size q
 generalize hs3:({s2 with heap:=s2.heap.push {cls:= .type "list",data:= .seq ([]:List Value).toArray}}:Shared)=s3 at I3
 have hpush: ∀b o,s2.heap.get? b=some o->s3.heap.get? b=some o:=fun b o q=>by rw[<-hs3];exact Heap.get?_push_of_some _ q
 have hsz3:s2.heap.objs.size<s3.heap.objs.size:=by rw[<-hs3];show _<(s2.heap.push _).objs.size;rw[Heap.size_push];exact Nat.lt_succ_self _
 have f3: ∀b∈fp,FpOk X pins (upd H2 s2.heap.objs.size (.lst [])) b:=fun b z=>⟨by rw[z04 (Nat.ne_of_lt (fpl b z))];exact(f2 b z).1,(f2 b z).2⟩
 have st3:tn 0 s3.heap:=T.keep _ _ _ st2 fun b _ o q=>hpush b o q
 generalize hDd:s2.heap.objs.size=D at*
 generalize hH3:upd H2 D (.lst [])=H3 at*
 have goal:wpAny (model X.prog X.w) X.A (newFunctionEnv scope X.env.globals (z2H X.env scope.names []) [] X.env.qual none .none (some X.env)) (fun cenv s₄=>
  codeAny (model X.prog X.w) X.A (.compStart (.ListComp elt [⟨tg,iter,ifs,0⟩] scope pos) 0 (.ref it) (.ref D) {cenv with scope:=relabel scope X.env}) (compPost (model X.prog X.w) X.A X.xe none (EP X pins σ Q) (.ref D) cenv.locals) s₄) X.xe s3:=by
  refine wpAny_newFunctionEnv S.nocell (by intro y hy;simp at hy) (fun h1 hns hsb=> ?_) S.kind
  have hns:h1.Ns s3.heap.objs.size (fun _=>none):=hns
  have keep4: ∀b o,s3.heap.get? b=some o->h1.get? b=some o:=fun b o q=>hsb.extBut b o (Nat.ne_of_lt (Heap.lt_size q)) (Heap.get?_push_of_some _ q)
  have fpl3: ∀b∈fp,b<s3.heap.objs.size:=fun b z=>Nat.lt_trans (fpl b z) hsz3
  generalize hs4:({s3 with heap:=h1,toks:=s3.toks+([]:List (Str×Value)).length}:Shared)=s4
  have I4:Inv (z1E X scope own frees (z2H X.env scope.names []) s3.heap.objs.size s3 H3 fp (X.pn++pins)) [] (z2I own.length ix σ) H3 s4:=
   z7e S I3 f3 fpl3 (by rw[<-hs4]) (by rw[<-hs4]) (fun b o q=>by rw[<-hs4];exact keep4 b o q) (by rw[<-hs4];exact hns)
  have st4:tn 0 s4.heap:=T.keep _ _ _ st3 fun b _ o q=>by rw[<-hs4];exact keep4 b o q
  generalize hXc:z1E X scope own frees (z2H X.env scope.names []) s3.heap.objs.size s3 H3 fp (X.pn++pins)=Y at I4
  have eP:Y.prog=X.prog:=by rw[<-hXc];rfl
  have eW:Y.w=X.w:=by rw[<-hXc];rfl
  have eK:Y.K=X.K:=by rw[<-hXc];rfl
  have eA:Y.A=X.A:=by rw[<-hXc];rfl
  have eC:Y.calm=true:=by rw[<-hXc];exact hc
  have eE:Y.env=compEnvC scope (z2H X.env scope.names []) s3.heap.objs.size X.env:=by rw[<-hXc];rfl
  have eX:Y.xe=fun _ _=>False:=by rw[<-hXc];rfl
  have eF: ∀{H':Hp},(∀b∈fp,H' b=none)->∀b∈fp,FpOk Y [] H' b:=fun{H'} hn b hb=>by
   rw[<-hXc]
   obtain⟨g1,g2,g3,g4,g5,g6⟩:=f3 b hb
   refine⟨hn b hb,Nat.ne_of_lt (fpl3 b hb),fun q=> ?_, .inl hb,fun x c e=> ?_,fun p hp=> ?_⟩
   ·rcases List.mem_cons.mp (I3.stkSub b q) with r|r
    ·exact g2 r
    ·exact g3 r
   ·rcases z4O _ _ e with q|q
    ·exact nomatch q
    ·exact g5 x c q.1
   ·have hp:p∈(X.pn++pins)++[]:=hp
    rw[List.append_nil] at hp
    exact g6 p hp
  have gY:PG Y tg g:=by rw[<-hXc];exact hg _ _ _ _ _ _
  have tY:PE Y elt te:=by rw[<-hXc];exact he _ _ _ _ _ _
  have sY:PTs Y ifs tt:=by rw[<-hXc];exact ht _ _ _ _ _ _
  have loop:codeAny (model X.prog X.w) X.A (.compLoop (.ListComp elt [⟨tg,iter,ifs,0⟩] scope pos) 0 (.ref it) (.ref D) (compEnvC scope (z2H X.env scope.names []) s3.heap.objs.size X.env))
   (compPost (model X.prog X.w) X.A X.xe none (EP X pins σ Q) (.ref D) s3.heap.objs.size) s4:=by
   refine z2m (fun n s'=> ∃i ys σ' H',Inv Y [] σ' H' s'/\tn i s'.heap/\(∀b∈fp,H' b=none)/\W i n ys σ' H') ?_ m0 ⟨0,[],_,_,I4,st4,fun b hb=>(f3 b hb).1,w0⟩
   rintro n s5 ⟨i,ys,σ5,H5,I5,st5,fr5,w5⟩
   obtain⟨hD5,alt⟩:=turn i n ys σ5 H5 w5
   rcases alt with⟨stop,qn⟩|⟨go,step⟩
   ·have d:=T.done Y eP eW eK eC i [] s5 σ5 H5 (fun _ _=>False) I5 (eF fr5) st5 stop
    rw[eA] at d
    refine thn d fun r s6 ⟨hr,I6⟩=> ?_
    subst hr
    subst hXc
    obtain⟨m6,n6,_⟩:=I6.loc
    exact⟨m6,n6,fun h'' hs''=>⟨.ref D,H5,z9k I3 f3 (Nat.le_refl _) I6 hs'',rfl,qn⟩⟩
   ·have d:=T.item Y eP eW eK eC i [] s5 σ5 H5 (fun _ _=>False) I5 (eF fr5) st5 go
    rw[eA] at d
    refine thn d fun r s6 ⟨u,hr,h6⟩=> ?_
    subst hr
    refine thn h6 fun _ s7 ⟨x,H7,I7,r7,y7,st7,fr7⟩=> ?_
    have I7':=I7.pinned (eF fr7) (T.obj _ _ st7)
    have e1:=gY _ s7 σ5 H7 x u _ I7' r7 (step x H7 y7)
    rw[eP,eW,eA,eE,eX] at e1
    refine thn e1 fun _ s8 ⟨σ8,H8,I8,q8⟩=> ?_
    have e1':=sY _ s8 σ8 H8 _ I8 q8
    rw[eP,eW,eA,eE,eX] at e1'
    refine thn e1' fun ok s8 ⟨H8,I8,q8⟩=> ?_
    cases ok with
    |false=>
     rw[if_neg Bool.false_ne_true] at q8⊢
     obtain⟨m',hm',w9⟩:=q8
     refine⟨m',hm',i+1,_,σ8,_,I8.unpinned,T.keep _ _ _ st7 fun b hb o e=> ?_,fun b hb=> ?_,w9⟩
     ·exact(I8.pin (b,o) (List.mem_append_right _ (List.mem_append_right _ (z1n hb e)))).1
     ·obtain⟨o,e,d⟩:=T.obj _ _ st7 b hb
      exact(I8.pin (b,o) (List.mem_append_right _ (List.mem_append_right _ (z1n hb e)))).2.1
    |true=>
    rw[if_pos rfl] at q8⊢
    have e2:=tY _ s8 σ8 H8 _ I8 q8
    rw[eP,eW,eA,eE,eX] at e2
    refine thn e2 fun yv s9 ⟨y,H9,I9,r9,hD9,hz9,m',hm',w9⟩=> ?_
    have e3:=z5t (X:=Y) _ s9 σ8 H9 (.ref D) [y] (.ref D) [yv] (fun v H'=>v= .non/\H'=upd H9 D (.lst (ys++[y]))) I9 rfl (.cons r9 .nil) ⟨D,ys,y,rfl,rfl,hD9,hz9,rfl,rfl⟩
    rw[eP,eW,eA,eX] at e3
    refine thn e3 fun _ s10 ⟨v10,H10,I10,r10,_,e10⟩=> ?_
    subst e10
    refine⟨m',hm',i+1,_,σ8,_,I10.unpinned,T.keep _ _ _ st7 fun b hb o e=> ?_,fun b hb=> ?_,w9⟩
    ·exact(I10.pin (b,o) (List.mem_append_right _ (List.mem_append_right _ (z1n hb e)))).1
    ·obtain⟨o,e,d⟩:=T.obj _ _ st7 b hb
     exact(I10.pin (b,o) (List.mem_append_right _ (List.mem_append_right _ (z1n hb e)))).2.1
  exact codeAny_compStart_list loop (T.self _ 0 _ _ _ st4 loop)
 exact goal
end
structure zc7(osc sc:Scope)(own frees N:List Str)(ix:List Nat):Prop where
 kind:sc.kind= .function
 names: ∀y∈sc.names,y.2= .local->sc.names.lookup y.1=some .local
 fr: ∀y∈sc.names,y.2= .free->osc.names.lookup y.1=some .cell\/osc.names.lookup y.1=some .free
 nd:(own++frees).Nodup
 frl: ∀x∈frees,sc.names.lookup x=some .free
 ixs:ix.map (fun i=>N[i]?)=frees.map some
 frc: ∀y∈sc.names,y.2= .cell->y.1∉frees
 owf: ∀y∈sc.names,y.2= .free->y.1∉own
theorem Inv.turnedL{X:Cx}{pins:List (Addr×Obj)}{σ:List (Option V)}{H:Hp}{s:Shared}{h':Heap}{t':Nat}{fp:List Addr}(I:Inv X pins σ H s)(k: ∀b o,b∉fp->s.heap.get? b=some o->h'.get? b=some o)(hf: ∀b∈fp,FpOk X pins H b):Inv X pins σ H {s with heap:=h',toks:=t'}:=by
 have nit: ∀b u,H b=some u->b∉fp:=fun b u e z=>by rw[(hf b z).1] at e;cases e
 refine I.step (g':=s.gens) (d':=s.drawn) (ch:=fp) (fun b hb=> ?_) (fun b o _ _ hc e _=>k b o hc e) (fun b o _ _ hc e _=>⟨o.slots,k b o hc e⟩) (fun _ _ _ _ n=>n)
  (fun b o hc e=>⟨o,k b o hc e⟩) (fun _ _ e=>e) (fun _ _ _ e=>e) (fun b ps e=>⟨#[],by rw[e];simp⟩) (fun m hm=> ?_) (fun b u e=> ?_) I.bare
 ·obtain⟨f0,f1,f2,f3,f4,f5⟩:=hf b hb
  exact⟨f3,f1,f4,f5⟩
 ·obtain⟨o,es,ep,ho,r⟩:=hm
  exact⟨o,es,ep,k _ o (fun z=>(hf _ z).2.1 rfl) ho,r⟩
 ·refine(I.hok b u e).stay (fun c v hc q=>k c v ?_ q) (fun _ q=>q) fun _ _ q=>q
  rcases hc with z|z
  ·rw[z];exact nit b u e
  ·exact nit c _ z
noncomputable def Ite(K:W.Frag)(a:Addr):It:=
 ⟨fun i H=> ∃xs x,SqL K H a xs/\xs[i]? =some x,fun i H v H'=> ∃p x,H p=none/\v= .ref p/\H'=upd H p (.tup [.int i,x])/\(∀xs,SqL K H a xs->xs[i]? =some x)/\∀b o,K.lookup b=some o->H' b=none,fun i H=> ∃xs,SqL K H a xs/\xs.length<=i⟩
theorem z8a{P:Program}{w:World}{K:W.Frag}{elts:List Expr}{x1:Nat}{tpos:Pos}(a e it:Addr)(hne:e≠it):Turn P w K (.Tuple elts x1 tpos) (Ite K a) [e,it] e (fun i h=> ∃old,IsEnum h e it i old/\h.IsListIter it a i) where
 mem:=by simp
 obj:=fun i h st b hb=>by
  obtain⟨old,h1,h2⟩:=st
  have hb:b=e\/b=it:=by simpa using hb
  rcases hb with rfl|rfl
  ·exact⟨_,h1,fun v z=>by
    have z':Data.fields _=Data.cell v:=z
    cases z'⟩
  ·obtain⟨o,e,c,d⟩:=h2
   exact⟨o,e,fun v z=>by rw[d] at z;cases z⟩
 keep:=fun i h h' st k=>by
  obtain⟨old,h1,h2⟩:=st
  exact⟨old,k e (by simp) _ h1,h2.at fun o q=>k it (by simp) o q⟩
 item:=by
  intro X hP hw hK hc i pins s σ H E I hf st hg
  subst hP hw hK
  obtain⟨old,st1,st2⟩:=st
  obtain⟨xs,x,hq,hx⟩:=hg
  obtain⟨its,rv,p,hz⟩:=I.list hq
  obtain⟨u,hu,ru⟩:=rv.get hx
  refine wpAny_pyNext_enum_item st1 st2 p.isList (x:=u) (by simpa using hu) hne fun h1 heo hit ht hsz hk=> ?_
  refine⟨_,rfl,wpAny_letOwnedTupleGo_enum heo fun h2 he2 hs2=> ?_⟩
  have hs2:Heap.SameBut e h1 h2:=hs2
  have hel:e<s.heap.objs.size:=Heap.lt_size st1
  have ht2:h2.get? s.heap.objs.size=some {cls:= .type "tuple",data:= .seq #[.int i s.toks,u]}:=(hs2.2 _ (Nat.ne_of_gt hel)).trans ht
  have fr: ∀b∈[e,it],b≠s.heap.objs.size:=fun b hb=>by
   have hb:b=e\/b=it:=by simpa using hb
   rcases hb with rfl|rfl
   ·exact Nat.ne_of_lt hel
   ·obtain⟨o,q,_⟩:=st2
    exact Nat.ne_of_lt (Heap.lt_size q)
  have I1:Inv X pins σ (upd H s.heap.objs.size (.tup [.int i,x])) {s with heap:=s.heap.push {cls:= .type "tuple",data:= .seq #[.int i s.toks,u]},toks:=s.toks}:=I.laid (t':=s.toks) (o:= .tup [.int i,x]) (fun b ob q=>Heap.get?_push_of_some _ q) (Nat.le_refl _) ⟨by show 2<=sizeLine;decide,[.int i s.toks,u], .cons ⟨_,rfl⟩ (.cons ru .nil),IsTup.new _ _⟩
  have f1: ∀b∈[e,it],FpOk X pins (upd H s.heap.objs.size (.tup [.int i,x])) b:=fun b hb=>⟨by rw[z04 (fr b hb)];exact(hf b hb).1,(hf b hb).2⟩
  have I2:=I1.turnedL (h':=h2) (t':=s.toks+1) (fun b o hb q=>by
   have hb:b≠e/\b≠it:=by simpa using hb
   rcases Heap.get?_push_cases (show(s.heap.push {cls:= .type "tuple",data:= .seq #[.int i s.toks,u]}).get? b=some o from q) with⟨rfl,rfl⟩|q'
   ·exact ht2
   ·exact(hs2.2 b hb.1).trans (hk b o hb.1 hb.2 q')) f1
  refine⟨.ref s.heap.objs.size,_,I2,rfl,⟨_,x,I.hok.fresh (Nat.le_refl _),rfl,rfl,fun ys hy=>by rw[I.list_inj hy hq];exact hx,fun b o q=>(I2.bs b o (I2.ok.mod.kin b o q)).2⟩,⟨u, ?_, ?_⟩,fun b hb=>(f1 b hb).1⟩
  ·have:((i+1:Nat):Int)=(i:Int)+1:=by push_cast;rfl
   rw[this];exact he2
  ·obtain⟨o,q,r⟩:=hit
   exact⟨o,(hs2.2 it (Ne.symm hne)).trans q,r⟩
 done:=by
  intro X hP hw hK hc i pins s σ H E I hf st hg
  subst hP hw hK
  obtain⟨old,st1,st2⟩:=st
  obtain⟨xs,hq,hx⟩:=hg
  obtain⟨its,rv,p,hz⟩:=I.list hq
  have hl:=rv.length
  exact wpAny_pyNext_enum_end (I.ok.hd hc) st1 st2 p.isList (by simp;lia) fun h' eb=>⟨rfl,I.turnedL (t':=s.toks) (fun b o hb q=>eb b o (fun z=>hb (by simp[z])) q) hf⟩
 self:=fun A i s Q E st h=>by
  obtain⟨old,st1,_⟩:=st
  exact wpAny_pyIter_enum st1 h
noncomputable def z7j(lo:Int)(n:Nat):List V:=(List.range n).map fun(k:Nat)=>V.int (lo+(k:Int))
theorem z3G{lo:Int}{n:Nat}:(z7j lo n).length=n:=by simp[z7j]
theorem z8b: ∀{vs:List V} {us:List Value},vs.length=us.length->(∀(i:Nat) (v:V) (u:Value),vs[i]? =some v->us[i]? =some u->RelV v u)->Vals vs us
 |[],[],_,_=> .nil
 |v::vs,u::us,hl,h=> .cons (h 0 v u rfl rfl) (z8b (by simpa using hl) fun i v u h1 h2=>h (i+1) v u (by simpa using h1) (by simpa using h2))
section
variable{prog:Program}{w:World}{A:Around}{E:Value->Shared->Prop}{s:Shared}
theorem z38{it t:Addr}{i:Nat}{items}{x:Value}{Q:Value->Shared->Prop}(hit:s.heap.IsTupleIter it t i)
 (hl:s.heap.IsTuple t items) (hx:items[i]? =some x)
 (hQ: ∀h',h'.IsTupleIter it t (i+1)->Heap.SameBut it s.heap h'->Q x {s with heap:=h'}):
 wpAny (model prog w) A (Builtin.SmallTypes.nextOf (.ref it)) Q E s:=by
 obtain⟨o,ho,hc,hd⟩:=id hit
 obtain⟨ol,hol,_,nl,hdl⟩:=hl
 unfold Builtin.SmallTypes.nextOf
 refine wpAny_bind (wpAny_callSpecial?_slot (name:=Str.ofString "__next__") hit.typeIs F.slot_tuple_iterator_next
  (wpAny_call_entry F.slot_tuple_iterator_next hit.typeIs F.entry_tuple_iterator_next ?_ (F.args_tuple_iterator_next_1 _)))
 show wpAny _ _ (field (.ref it) 0>>=_) _ _ s
 refine wpAny_bind (wpAny_field ho hd (x:= .ref t) rfl ?_)
 show wpAny _ _ (if(Value.ref t==Value.none)=true then _ else _) _ _ s
 rw[if_neg (show ¬((Value.ref t==Value.none)=true) from Bool.false_ne_true)]
 show wpAny _ _ (field (.ref it) 1>>=_) _ _ s
 refine wpAny_bind (wpAny_field ho hd (x:= .int i 0) rfl ?_)
 show wpAny _ _ (seqItems? (.ref t)>>=_) _ _ s
 refine wpAny_bind (wpAny_seqItems hol hdl ?_)
 simp only[Int.toNat_natCast,hx]
 refine wpAny_bind (wpAny_setField ho hd (by simp) (wpAny_pure ⟨x,rfl,wpAny_pure (hQ _ ?_ (Heap.SameBut.update ..))⟩))
 exact⟨_,Heap.get?_update_self _ ho (Obj.isFreed_of_fields (Obj.data_mapFields hd _)),(Obj.cls_mapFields ..).trans hc,by
  rw[Obj.data_mapFields hd];simp[rawInt]⟩
theorem z24{it t:Addr}{i:Nat}{items}{Q:Value->Shared->Prop}(hh:A.handled=none)
 (hit:s.heap.IsTupleIter it t i) (hl:s.heap.IsTuple t items) (hx:items[i]? =none)
 (hE: ∀h' e,Heap.ExtBut it s.heap h'->(∃o,h'.get? e=some o/\o.cls= .type "StopIteration")->E (.ref e) {s with heap:=h'}):
 wpAny (model prog w) A (Builtin.SmallTypes.nextOf (.ref it)) Q E s:=by
 obtain⟨o,ho,hc,hd⟩:=id hit
 obtain⟨ol,hol,_,nl,hdl⟩:=hl
 unfold Builtin.SmallTypes.nextOf
 refine wpAny_bind (wpAny_callSpecial?_slot (name:=Str.ofString "__next__") hit.typeIs F.slot_tuple_iterator_next
  (wpAny_call_entry F.slot_tuple_iterator_next hit.typeIs F.entry_tuple_iterator_next ?_ (F.args_tuple_iterator_next_1 _)))
 show wpAny _ _ (field (.ref it) 0>>=_) _ _ s
 refine wpAny_bind (wpAny_field ho hd (x:= .ref t) rfl ?_)
 show wpAny _ _ (if(Value.ref t==Value.none)=true then _ else _) _ _ s
 rw[if_neg (show ¬((Value.ref t==Value.none)=true) from Bool.false_ne_true)]
 show wpAny _ _ (field (.ref it) 1>>=_) _ _ s
 refine wpAny_bind (wpAny_field ho hd (x:= .int i 0) rfl ?_)
 show wpAny _ _ (seqItems? (.ref t)>>=_) _ _ s
 refine wpAny_bind (wpAny_seqItems hol hdl ?_)
 simp only[Int.toNat_natCast,hx]
 refine wpAny_bind (wpAny_rule (wpAny_bind (wpAny_setField ho hd (by simp) ?_)))
 show wpAny _ _ (newExc (.type "StopIteration") []>>=_) _ _ _
 refine wpAny_bind ?_
 simp only[newExc,newTuple]
 refine wpAny_bind (wpAny_newObj_type ?_ (by size_fits))
 refine wpAny_bind (m:=firstArgMember _ _) (wpAny_of_eq (a:=Value.none) (by first|rfl|(simp only[firstArgMember];rfl)) ?_)
 refine wpAny_newObj_type ?_ (by size_fits)
 simp only[raiseNew]
 refine wpAny_bind (wpAny_handled ?_)
 first|rw[show A.in1.handled=none from hh]|rw[hh]
 refine wpAny_bind (wpAny_pure (wpAny_throw ?_))
 exact hE _ _ (((Heap.SameBut.update ..).extBut.push _).push _) ⟨_,Heap.get?_push_size _ rfl,rfl⟩
end
theorem z5U{prog:Program}{w:World}{A:Around}(hh:A.handled=none)(it l:Addr)(hne:l≠it)(items:Array Value):
 Draws prog w A it [it,l] items.size (fun i v=>items[i]? =some v) (fun i h=>h.IsTupleIter it l i/\h.IsTuple l items) where
 live:=fun _ _ st=>let⟨o,ho,_⟩:=st.1;⟨o,ho⟩
 frame:=fun _ _ _ st hk=>⟨st.1.at fun o e=>hk it (by simp) o e,let⟨o,ho,r⟩:=st.2;⟨o,hk l (by simp) o ho,r⟩⟩
 item:=fun i s Q E hi st hQ=>by
  refine z38 st.1 st.2 (x:=items[i]) (by simp[hi]) fun h' hit' hs'=> ?_
  exact hQ _ h' s.toks (by simp[hi]) ⟨hit',st.2.extBut hs'.extBut hne⟩ hs'
 done:=fun s Q E st hE=>z24 hh st.1 st.2 (by simp) hE
theorem z2n(l:Addr)(items:Array Value)(n:Nat)(dct:Option Addr)(sl:Array (Option Value)):
 Meets (Builtin.«enumerate.__new__» ⟨[.type "enumerate", .ref l],[]⟩) (fun _ R s=>s.heap.get? l=some {cls:= .type "tuple",dict:=dct,data:= .seq items n,slots:=sl}/\
  R (.ok (.ret (.ref (s.heap.push {cls:= .type "tuple_iterator",data:= .fields #[.ref l, .int 0 0]}).objs.size)))
   {s with heap:=(s.heap.push {cls:= .type "tuple_iterator",data:= .fields #[.ref l, .int 0 0]}).push {cls:= .type "enumerate",data:= .fields #[.none, .bool false, .ref s.heap.objs.size,rawInt 0, .none, .none]}}):=
 .of_wp fun prog w A R s h=>by
  obtain⟨hp,g,d,tk,os⟩:=s;obtain⟨hl,h⟩:=h
  have hsub:=sub_enumerate
  have hL:Heap.IsTuple (Shared.heap ⟨hp,g,d,tk,os⟩) l items:=⟨_,hl,rfl,n,rfl⟩
  wp_walk using AutoSeq1.wpAny_loadPart' hl
  refine wpAny_stack_any fun st=>wpAny_pure ?_
  split
  ·rename_i c _ _ _ _ _
   cases(c==Value.type "enumerate")
   ·wp_walk using AutoSeq1.wpAny_loadPart' hl,wpAny_pyIter_tuple hL
    exact⟨_,rfl,h⟩
   ·wp_walk using AutoSeq1.wpAny_loadPart' hl,wpAny_pyIter_tuple hL
    exact⟨_,rfl,h⟩
  ·wp_walk using AutoSeq1.wpAny_loadPart' hl,wpAny_pyIter_tuple hL
   exact⟨_,rfl,h⟩
theorem z2o{prog:Program}{w:World}{A:Around}{E:Value->Shared->Prop}{s:Shared}{l:Addr}{items:Array Value}{Q:Value->Shared->Prop}(hL:s.heap.IsTuple l items)
 (h: ∀h',IsEnum h' (s.heap.objs.size+1) s.heap.objs.size 0 .none->h'.IsTupleIter s.heap.objs.size l 0->h'.objs.size=s.heap.objs.size+2->
  (∀b o,s.heap.get? b=some o->h'.get? b=some o)->Q (.ref (s.heap.objs.size+1)) {s with heap:=h'}):
 wpAny (model prog w) A (call (.type "enumerate") [.ref l]) Q E s:=by
 obtain⟨⟨c,dct,dt,sl⟩,hl,hc,n,hd⟩:=hL
 replace hc:c= .type "tuple" :=hc
 replace hd:dt= .seq items n:=hd
 subst hc hd
 refine callType_new F.called_enumerate (by decide) (F.typeCall_enumerate_1 _) (F.newCall_enumerate_1 _) (fun obj=>F.args_object_init_2 obj _) F.entry_enumerate_new
  (z2n l items n dct sl) ⟨hl, ?_⟩
 have hz:(s.heap.push {cls:= .type "tuple_iterator",data:= .fields #[.ref l, .int 0 0]}).objs.size=s.heap.objs.size+1:=Heap.size_push ..
 show _/\_
 rw[hz]
 have he:IsEnum ((s.heap.push {cls:= .type "tuple_iterator",data:= .fields #[.ref l, .int 0 0]}).push
  {cls:= .type "enumerate",data:= .fields #[.none, .bool false, .ref s.heap.objs.size,rawInt 0, .none, .none]}) (s.heap.objs.size+1) s.heap.objs.size 0 .none:=by
  have:=Heap.get?_push_size (s.heap.push {cls:= .type "tuple_iterator",data:= .fields #[.ref l, .int 0 0]})
   (o:={cls:= .type "enumerate",data:= .fields #[.none, .bool false, .ref s.heap.objs.size,rawInt 0, .none, .none]}) rfl
  rw[hz] at this;exact this
 refine⟨⟨_,he,rfl⟩,h _ he ⟨_,Heap.get?_push_of_some _ (Heap.get?_push_size _ rfl),rfl,rfl⟩ (by rw[Heap.size_push,hz]) fun b o x=>Heap.get?_push_of_some _ (Heap.get?_push_of_some _ x)⟩
noncomputable def Itet(K:W.Frag)(a:Addr):It:=
 ⟨fun i H=> ∃xs x,SqT K H a xs/\xs[i]? =some x,fun i H v H'=> ∃p x,H p=none/\v= .ref p/\H'=upd H p (.tup [.int i,x])/\(∀xs,SqT K H a xs->xs[i]? =some x)/\∀b o,K.lookup b=some o->H' b=none,fun i H=> ∃xs,SqT K H a xs/\xs.length<=i⟩
theorem z7k{P:Program}{w:World}{K:W.Frag}{elts:List Expr}{x1:Nat}{tpos:Pos}(a e it:Addr)(hne:e≠it):Turn P w K (.Tuple elts x1 tpos) (Itet K a) [e,it] e (fun i h=> ∃old,IsEnum h e it i old/\h.IsTupleIter it a i) where
 mem:=by simp
 obj:=fun i h st b hb=>by
  obtain⟨old,h1,h2⟩:=st
  have hb:b=e\/b=it:=by simpa using hb
  rcases hb with rfl|rfl
  ·exact⟨_,h1,fun v z=>by
    have z':Data.fields _=Data.cell v:=z
    cases z'⟩
  ·obtain⟨o,e,c,d⟩:=h2
   exact⟨o,e,fun v z=>by rw[d] at z;cases z⟩
 keep:=fun i h h' st k=>by
  obtain⟨old,h1,h2⟩:=st
  exact⟨old,k e (by simp) _ h1,h2.at fun o q=>k it (by simp) o q⟩
 item:=by
  intro X hP hw hK hc i pins s σ H E I hf st hg
  subst hP hw hK
  obtain⟨old,st1,st2⟩:=st
  obtain⟨xs,x,hq,hx⟩:=hg
  obtain⟨its,rv,p,hz⟩:=I.tuple hq
  obtain⟨u,hu,ru⟩:=rv.get hx
  have p:s.heap.IsTuple a its.toArray:=p
  have nai:a≠it:=fun z=>by
   obtain⟨o,q,c,_⟩:=id p
   obtain⟨o',q',c',_⟩:=id st2
   rw[z,q'] at q;cases q
   rw[c] at c';exact absurd c' (by decide)
  have nea:e∉[it,a]:=fun z=>by
   have z:e=it\/e=a:=by simpa using z
   rcases z with z|z
   ·exact hne z
   ·obtain⟨o,q,c,_⟩:=id p
    rw[<-z,st1] at q;cases q
    have c:Value.type "enumerate" =Value.type "tuple" :=c
    exact absurd c (by decide)
  have hlt:i<its.toArray.size:=by
   have:=(List.getElem?_eq_some_iff.mp hu).1
   simpa using this
  refine wpAny_pyNext_enum_itemD (z5U (A:=X.A.in1) (I.ok.hd hc) it a nai its.toArray) st1 ⟨st2,p⟩ hlt hne nea fun u' h1 tk hP heo hst ht hsz hk=> ?_
  have eu:u'=u:=by
   have hu':its[i]? =some u:=hu
   have hP':its.toArray[i]? =some u':=hP
   rw[List.getElem?_toArray,hu'] at hP'
   exact(Option.some.inj hP').symm
  subst eu
  refine⟨_,rfl,wpAny_letOwnedTupleGo_enum heo fun h2 he2 hs2=> ?_⟩
  have hs2:Heap.SameBut e h1 h2:=hs2
  have hel:e<s.heap.objs.size:=Heap.lt_size st1
  have ht2:h2.get? s.heap.objs.size=some {cls:= .type "tuple",data:= .seq #[.int i tk,u']}:=(hs2.2 _ (Nat.ne_of_gt hel)).trans ht
  have fr: ∀b∈[e,it],b≠s.heap.objs.size:=fun b hb=>by
   have hb:b=e\/b=it:=by simpa using hb
   rcases hb with rfl|rfl
   ·exact Nat.ne_of_lt hel
   ·obtain⟨o,q,_⟩:=st2
    exact Nat.ne_of_lt (Heap.lt_size q)
  have I1:Inv X pins σ (upd H s.heap.objs.size (.tup [.int i,x])) {s with heap:=s.heap.push {cls:= .type "tuple",data:= .seq #[.int i tk,u']},toks:=s.toks}:=I.laid (t':=s.toks) (o:= .tup [.int i,x]) (fun b ob q=>Heap.get?_push_of_some _ q) (Nat.le_refl _) ⟨by show 2<=sizeLine;decide,[.int i tk,u'], .cons ⟨_,rfl⟩ (.cons ru .nil),IsTup.new _ _⟩
  have f1: ∀b∈[e,it],FpOk X pins (upd H s.heap.objs.size (.tup [.int i,x])) b:=fun b hb=>⟨by rw[z04 (fr b hb)];exact(hf b hb).1,(hf b hb).2⟩
  have I2:=I1.turnedL (h':=h2) (t':=tk+1) (fun b o hb q=>by
   have hb:b≠e/\b≠it:=by simpa using hb
   rcases Heap.get?_push_cases (show(s.heap.push {cls:= .type "tuple",data:= .seq #[.int i tk,u']}).get? b=some o from q) with⟨rfl,rfl⟩|q'
   ·exact ht2
   ·exact(hs2.2 b hb.1).trans (hk b o hb.1 hb.2 q')) f1
  refine⟨.ref s.heap.objs.size,_,I2,rfl,⟨_,x,I.hok.fresh (Nat.le_refl _),rfl,rfl,fun ys hy=>by rw[I.tuple_inj hy hq];exact hx,fun b o q=>(I2.bs b o (I2.ok.mod.kin b o q)).2⟩,⟨u', ?_, ?_⟩,fun b hb=>(f1 b hb).1⟩
  ·have:((i+1:Nat):Int)=(i:Int)+1:=by push_cast;rfl
   rw[this];exact he2
  ·obtain⟨o,q,r⟩:=hst.1
   exact⟨o,(hs2.2 it (Ne.symm hne)).trans q,r⟩
 done:=by
  intro X hP hw hK hc i pins s σ H E I hf st hg
  subst hP hw hK
  obtain⟨old,st1,st2⟩:=st
  obtain⟨xs,hq,hx⟩:=hg
  obtain⟨its,rv,p,hz⟩:=I.tuple hq
  have p:s.heap.IsTuple a its.toArray:=p
  have hl:=rv.length
  have hT:s.TypeIs (.ref e) "enumerate" :=⟨_,st1,rfl⟩
  unfold pyNext
  refine wpAny_bind (wpAny_attempt (wpAny_callSpecial?_slot (name:=Str.ofString "__next__") hT F.slot_enumerate_next
   (wpAny_call_entry F.slot_enumerate_next hT F.entry_enumerate_next ?_ (F.args_enumerate_next_1 _))))
  show wpAny _ _ (field (.ref e) 2>>=_) _ _ _
  refine wpAny_bind (wpAny_field st1 rfl (x:= .ref it) rfl ?_)
  refine wpAny_bind (z24 (A:=X.A.in1) (I.ok.hd hc) st2 p (by simp;lia) fun h' x he' hx'=> ?_)
  obtain⟨o,ho,hcc⟩:=hx'
  refine wpAny_bind (wpAny_isInstance (T:= "StopIteration") (b:=true) ⟨o,ho,hcc⟩ isSubtype_stop ?_)
  exact wpAny_pure ⟨rfl,I.turnedL (t':=s.toks) (fun b o hb q=>he' b o (fun z=>hb (by simp[z])) q) hf⟩
 self:=fun A i s Q E st h=>by
  obtain⟨old,st1,_⟩:=st
  exact wpAny_pyIter_enum st1 h
section
variable{X:Cx}
noncomputable def zeX(K:W.Frag)(ta:TA):TI:=fun σ H R=>ta σ H fun vs H1=> ∃a,vs=[.ref a]/\(((∃xs,SqL K H1 a xs)/\R (Ite K a) H1)\/((∃xs,SqT K H1 a xs)/\R (Itet K a) H1))
theorem z9p{a:Expr}{ta:TA}{p pos tpos:Pos}{elts:List Expr}{x1:Nat}(hg:Gl X "enumerate")(hm:X.mg "enumerate" =none)(ha:PA X [a] ta)(hs:starEach [a] X.env=[(false,eval a X.env)]:=by rfl):PI X (.Tuple elts x1 tpos) (.Call (.Name "enumerate" p) [a] [] pos) (zeX X.K ta):=by
 intro pins s σ H R I h
 refine Call_ (z3j I hg hm PyProof.Rows.Boot.«enumerate» (PyProof.Rows.callWith_type1 (thn (ha pos pins s σ H _ I h) fun us s1 ⟨vs,H1,I1,r1,q1⟩=> ?_) hs rfl))
 obtain⟨l,e,q⟩:=q1
 subst e
 cases r1 with
 |cons r rr=>
  cases rr
  cases r
  rcases q with⟨⟨xs,hq⟩,q⟩|⟨⟨xs,hq⟩,q⟩
  ·obtain⟨its,rv,p,hz⟩:=I1.list hq
   refine call_enumerate_list p.isList fun h' he hit hsz hk=> ?_
   refine wpAny_pyIter_enum he ?_
   have I2:Inv X pins σ H1 {s1 with heap:=h'}:=I1.kept (t':=s1.toks) hk
   refine⟨s1.heap.objs.size+1,[s1.heap.objs.size+1,s1.heap.objs.size],_,_,H1,rfl,I2,z8a l _ _ (by show ¬(s1.heap.objs.size+1=s1.heap.objs.size);lia),⟨_,he,hit⟩,fun b hb=> ?_,q⟩
   have hb:b=s1.heap.objs.size+1\/b=s1.heap.objs.size:=by simpa using hb
   rcases hb with rfl|rfl
   ·exact I1.fpOk (Nat.le_succ _) (I1.hok.fresh (Nat.le_succ _))
   ·exact I1.fpOk (Nat.le_refl _) (I1.hok.fresh (Nat.le_refl _))
  ·obtain⟨its,rv,p,hz⟩:=I1.tuple hq
   have p:s1.heap.IsTuple l its.toArray:=p
   refine z2o p fun h' he hit hsz hk=> ?_
   refine wpAny_pyIter_enum he ?_
   have I2:Inv X pins σ H1 {s1 with heap:=h'}:=I1.kept (t':=s1.toks) hk
   refine⟨s1.heap.objs.size+1,[s1.heap.objs.size+1,s1.heap.objs.size],_,_,H1,rfl,I2,z7k l _ _ (by show ¬(s1.heap.objs.size+1=s1.heap.objs.size);lia),⟨_,he,hit⟩,fun b hb=> ?_,q⟩
   have hb:b=s1.heap.objs.size+1\/b=s1.heap.objs.size:=by simpa using hb
   rcases hb with rfl|rfl
   ·exact I1.fpOk (Nat.le_succ _) (I1.hok.fresh (Nat.le_succ _))
   ·exact I1.fpOk (Nat.le_refl _) (I1.hok.fresh (Nat.le_refl _))
end
section
variable{X:Cx}{a b:Expr}{rest:List Expr}{pos:Pos}{ta tb:TE}
noncomputable def rStr(K:W.Frag)(xs:List V)(H:Hp)(Q:VK):Prop:= ∃p d,xs=[.ref p]/\Dp K H d (.ref p)/\d.hasDict=false/\d.showable=true/\d.depth<=60/\d.shown.length<=sizeLine/\Q (.str d.shown) H
theorem z7l(hg:X.A.guards=some [])(hu:X.A.units+64<cLine):CallR X (.builtin "repr") (rStr X.K):=by
 intro pins s σ H xs us Q I r h
 obtain⟨p,d,rfl,hd,h1,h2,h3,h4,q⟩:=h
 obtain⟨u,rfl,r1⟩:=z73 r
 cases r1
 obtain⟨as,ra⟩:=hd.reads I _ _ _ rfl
 exact repr_of_reads' ra h2 (fun e=>by rw[h1] at e;cases e) hg (by lia) (fun _ _ h=>h) (fun h' u tk k=>⟨.str d.shown,H,I.kept k,⟨_,rfl⟩,q⟩) h4
theorem zd7:OpR X (compareOp .Eq) (fun x y H Q=> ∃i j,x= .str i/\y= .str j/\Q (.bl (i==j)) H):=by
 intro pins s σ H x y v u Q I rx ry h
 obtain⟨i,j,rfl,rfl,q⟩:=h
 exact zeC pins s σ H _ _ v u Q I rx ry ⟨rfl,by rw[z7K];exact q⟩
end
section
variable{X:Cx}{tg:Expr}
noncomputable def Rg3(i j c:Int):Prop:=c≠0/\c.natAbs<1073741824/\Builtin.Range.small i j c=true/\0<=Builtin.Range.rangeSize i j c
instance(i j c:Int):Decidable (Rg3 i j c):=by unfold Rg3;infer_instance
end
end L2
namespace Mi
open PySem L2
structure ItK where
 k:Nat
 at':Nat->List (Option D)->Option (Option D)
 len:List (Option D)->Nat
noncomputable def zd8(i:Nat):List (Option D)->Option (Option D)
 |some c::_=>(lstD c).map fun ds=>ds[i]?
 |_=>none
noncomputable def zd9(i:Nat):List (Option D)->Option (Option D)
 |some (.tup ds)::_=>some ds[i]?
 |_=>none
noncomputable def z6s:List (Option D)->Nat
 |some (.tup ds)::_=>ds.length
 |some (.lst _ ds)::_=>ds.length
 |some (.ro ds)::_=>ds.length
 |_=>0
noncomputable def kLst:ItK:=⟨1,zd8,z6s⟩
noncomputable def kTup:ItK:=⟨1,zd9,z6s⟩
noncomputable def kRng(lo:Int)(n:Nat):ItK:=⟨0,fun i _=>some (if i<n then some (.int (lo+i)) else none),fun _=>n⟩
noncomputable def Stt.popn(s:Stt)(k:Nat):Stt:={s with tm:=s.tm.drop k}
section
variable{X:Cx}{G:Gx}{F:Fy}{e a b c tg iter:Expr}{pos:Pos}
theorem MR.popn{F:Fx}{ρ:Nat->Addr}{H:Hp}{σv tvs tv:List (Option V)}{s:Stt}(M:MR G F ρ H σv (tvs++tv) s):MR G F ρ H σv tv (s.popn tvs.length):=by
 have sub: ∀l∈z0H (s.popn tvs.length),l∈z0H s:=fun l h=>by
  rcases List.mem_append.mp h with h|h
  ·exact List.mem_append_left _ h
  ·refine List.mem_append_right _ ?_
   have e:=z0c (s.tm.take tvs.length) (s.tm.drop tvs.length)
   rw[List.take_append_drop] at e
   rw[e]
   exact List.mem_append_right _ h
 exact⟨M.sl,(Sl.split tvs M.tm).2,M.inj,M.dom,fun l h=>M.lab l (sub l h),fun l h=>M.own l (sub l h),M.frm,M.kd,M.frb,M.bas⟩
noncomputable def ItOK(G:Gx)(J:It)(K:ItK)(tvs:List (Option V)):Prop:= ∀(F:Fx) ρ H σv tvp tv s i,MR G F ρ H σv (tvp++(tvs++tv)) s->match K.at' i (s.tm.drop tvp.length) with
 |none=>True
 |some none=>J.stop i H
 |some (some d)=>J.go i H/\∀x H',J.yld i H x H'->MRL G F ρ H' σv (tvp++(tvs++tv)) s [d] [x]
noncomputable def tI(G:Gx)(F:Fy)(m:M ItK):TI:=fun σv H R=> ∃tv,F.tv0<:+tv/\∃ρ s,MR G F.toFx ρ H σv tv s/\match m s with
 | .ok K s'=> ∀ρ' H' tvs J,tvs.length=K.k->MR G F.toFx ρ' H' σv (tvs++tv) s'->ItOK G J K tvs->R J H'
 | .ex d s'=>F.xw d s'
 | .no=>False
noncomputable def SI(X:Cx)(G:Gx)(F:Fy)(tg iter:Expr)(m:M ItK):Prop:=PI X tg iter (tI G F m)
theorem PI.imp0{w w':TI}(h:PI X tg iter w)(hi: ∀σ H R,w' σ H R->w σ H R):PI X tg iter w':=fun pins s σ H R I q=>h pins s σ H R I (hi σ H R q)
noncomputable def iSeq(K:W.Frag)(tl:TE):TI:=fun σ H R=>tl σ H fun x H1=> ∃a,x= .ref a/\(((∃xs,SqL K H1 a xs)/\R (Itl K a) H1)\/((∃xs,SqT K H1 a xs)/\R (Itt K a) H1))
theorem zda{l:Expr}{tl:TE}(hl:PE X l tl):PI X tg l (iSeq X.K tl):=by
 intro pins s σ H R I h
 refine thn (hl pins s σ H _ I h) fun v s1 ⟨x,H1,I1,r1,q1⟩=> ?_
 obtain⟨a,e,q|q⟩:=q1
 ·subst e
  cases r1
  obtain⟨⟨xs,hq⟩,q⟩:=q
  obtain⟨its,rv,p,hz⟩:=I1.list hq
  refine wpAny_pyIter_list p.isList ?_
  refine⟨s1.heap.objs.size,[s1.heap.objs.size],_,_,H1,rfl,I1.kept (t':=s1.toks) fun b o e=>Heap.get?_push_of_some _ e,z7G a _,⟨_,Heap.get?_push_size _ rfl,rfl,rfl⟩,fun b hb=> ?_,q⟩
  have e:b=s1.heap.objs.size:=by simpa using hb
  subst e
  exact I1.fpOk (Nat.le_refl _) (I1.hok.fresh (Nat.le_refl _))
 ·subst e
  cases r1
  obtain⟨⟨xs,hq⟩,q⟩:=q
  obtain⟨its,rv,p,hz⟩:=I1.tuple hq
  refine wpAny_pyIter_tuple (show s1.heap.IsTuple a its.toArray from p) ?_
  refine⟨s1.heap.objs.size,[s1.heap.objs.size],_,_,H1,rfl,I1.kept (t':=s1.toks) fun b o e=>Heap.get?_push_of_some _ e,z6Z a _,⟨_,Heap.get?_push_size _ rfl,rfl,rfl⟩,fun b hb=> ?_,q⟩
  have e:b=s1.heap.objs.size:=by simpa using hb
  subst e
  exact I1.fpOk (Nat.le_refl _) (I1.hok.fresh (Nat.le_refl _))
noncomputable def z0W(m:M D):M ItK:=bd m fun d s=>match d with
 | .tup _=> .ok kTup (s.psh d)
 | .lst _ _=> .ok kLst (s.psh d)
 | .ro _=> .ok kLst (s.psh d)
 |_=> .no
theorem SqT.two{K:W.Frag}{H:Hp}{a:Addr}{xs ys:List V}(k:KD K H)(h:SqT K H a xs)(h':SqT K H a ys):xs=ys:=by
 rcases h with(h|⟨o,h⟩)|⟨o,its,n,h,_,hd,_,r⟩<;>rcases h' with(h'|⟨o',h'⟩)|⟨o',its',n',h',_,hd',_,r'⟩
 ·rw[h] at h';cases h';rfl
 ·rw[h] at h';cases h'
 ·rw[k _ _ h'] at h;cases h
 ·rw[h] at h';cases h'
 ·rw[h] at h';cases h';rfl
 ·rw[k _ _ h'] at h;cases h
 ·rw[k _ _ h] at h';cases h'
 ·rw[k _ _ h] at h';cases h'
 ·rw[h] at h';cases h';rw[hd] at hd';cases hd';exact r.inj r'
theorem SqL.two{K:W.Frag}{H:Hp}{a:Addr}{xs ys:List V}(k:KD K H)(h:SqL K H a xs)(h':SqL K H a ys):xs=ys:=by
 rcases h with(h|⟨o,h⟩)|⟨o,its,n,h,_,_,hd,_,r⟩<;>rcases h' with(h'|⟨o',h'⟩)|⟨o',its',n',h',_,_,hd',_,r'⟩
 ·rw[h] at h';cases h';rfl
 ·rw[h] at h';cases h'
 ·rw[k _ _ h'] at h;cases h
 ·rw[h] at h';cases h'
 ·rw[h] at h';cases h';rfl
 ·rw[k _ _ h'] at h;cases h
 ·rw[k _ _ h] at h';cases h'
 ·rw[k _ _ h] at h';cases h'
 ·rw[h] at h';cases h';rw[hd] at hd';cases hd';exact r.inj r'
theorem MR.head{F:Fx}{ρ:Nat->Addr}{H:Hp}{σv tv:List (Option V)}{s:Stt}{v:V}{c:D}{r:List (Option D)}(M:MR G F ρ H σv (some v::tv) s)(e:s.tm=some c::r):RD G ρ H c v/\LB F ρ s.n (labs c):=by
 obtain⟨σ,tm,n⟩:=s
 have e:tm=some c::r:=e
 subst e
 exact⟨MR.top (s:=⟨σ,r,n⟩) M,MR.topl (s:=⟨σ,r,n⟩) M⟩
theorem z6t{a:Addr}:ItOK G (Itl G.K a) kLst [some (.ref a)]:=by
 intro F ρ H σv tvp tv s i M
 dsimp only[kLst]
 cases e:s.tm.drop tvp.length with
 |nil=>trivial
 |cons o r=>
  cases o with
  |none=>trivial
  |some c=>
   simp only[zd8]
   obtain⟨h,lb⟩:=MR.head (s:=s.popn tvp.length) M.popn e
   cases e1:lstD c with
   |none=>trivial
   |some ds=>
    simp only[Option.map_some]
    obtain⟨a',xs,ea,sq,rr,sub⟩:=h.lstq e1
    cases ea
    cases e2:ds[i]? with
    |none=>
     refine⟨xs,sq, ?_⟩
     rw[<-rr.length]
     exact List.getElem?_eq_none_iff.mp e2
    |some d=>
     obtain⟨x,ex,rx⟩:=rr.get i d e2
     refine⟨⟨xs,x,sq,ex⟩, ?_⟩
     rintro x' H' ⟨rfl,hx⟩
     rw[hx xs sq] at ex
     cases ex
     exact⟨M,RDs.one rx,fun l hl=>lb l (sub l (labsL_mem (List.mem_of_getElem? e2) l (by simpa only[labsL,List.append_nil] using hl)))⟩
theorem z9q{a:Addr}:ItOK G (Itt G.K a) kTup [some (.ref a)]:=by
 intro F ρ H σv tvp tv s i M
 dsimp only[kTup]
 cases e:s.tm.drop tvp.length with
 |nil=>trivial
 |cons o r=>
  cases o with
  |none=>trivial
  |some c=>
   obtain⟨h,lb⟩:=MR.head (s:=s.popn tvp.length) M.popn e
   cases c with
   |tup ds=>
    simp only[zd9]
    obtain⟨a',xs,ea,sq,rr⟩:=h.tupq
    cases ea
    cases e2:ds[i]? with
    |none=>
     refine⟨xs,sq, ?_⟩
     rw[<-rr.length]
     exact List.getElem?_eq_none_iff.mp e2
    |some d=>
     obtain⟨x,ex,rx⟩:=rr.get i d e2
     refine⟨⟨xs,x,sq,ex⟩, ?_⟩
     rintro x' H' ⟨rfl,hx⟩
     rw[hx xs sq] at ex
     cases ex
     exact⟨M,RDs.one rx,fun l hl=>lb l (by simp only[labs];exact labsL_mem (List.mem_of_getElem? e2) l (by simpa only[labsL,List.append_nil] using hl))⟩
   |_=>trivial
theorem si_seq{m:M D}(hk:X.K=G.K)(h:SE X G F e m):SI X G F tg e (z0W m):=by
 refine PI.imp0 (zda h) fun σ H R ⟨tv,hs,ρ,s,M,W⟩=>⟨tv,hs,ρ,s,M, ?_⟩
 unfold z0W bd at W
 cases e:m s with
 |ex d s1=>rw[e] at W;exact W
 |no=>rw[e] at W;exact W
 |ok t s1=>
  rw[e] at W
  intro ρ1 v H1 M1
  rw[hk]
  cases t with
  |tup ds=>
   obtain⟨a,xs,rfl,sq,r⟩:=M1.rd1.tupq
   exact⟨a,rfl, .inr ⟨⟨xs,sq⟩,W ρ1 H1 [some (.ref a)] _ rfl M1.push z9q⟩⟩
  |lst n ds=>
   obtain⟨a,xs,rfl,sq,r,_⟩:=M1.rd1.lstq (ds:=ds) rfl
   exact⟨a,rfl, .inl ⟨⟨xs,sq⟩,W ρ1 H1 [some (.ref a)] _ rfl M1.push z6t⟩⟩
  |ro ds=>
   obtain⟨a,xs,rfl,sq,r,_⟩:=M1.rd1.lstq (ds:=ds) rfl
   exact⟨a,rfl, .inl ⟨⟨xs,sq⟩,W ρ1 H1 [some (.ref a)] _ rfl M1.push z6t⟩⟩
  |_=>exact False.elim W
noncomputable def rng1(ts:List D):M ItK:=match ts with
 |[.int j]=>if -(2^62)<=j/\j<2^62 then rt (kRng 0 j.toNat) else fl
 |_=>fl
noncomputable def rng2(ts:List D):M ItK:=match ts with
 |[.int i, .int j]=>if -(2^62)<=i/\i<2^62/\-(2^62)<=j/\j<2^62 then rt (kRng i (j -i).toNat) else fl
 |_=>fl
noncomputable def z39(ms:List (M D)):M ItK:=bd (z02 ms) rng1
noncomputable def z5z(ms:List (M D)):M ItK:=bd (z02 ms) rng2
theorem z6u{lo:Int}{n:Nat}:ItOK G (Itr lo n) (kRng lo n) []:=by
 intro F ρ H σv tvp tv s i M
 simp only[kRng]
 by_cases h:i<n
 ·rw[if_pos h]
  refine⟨h, ?_⟩
  rintro x H' ⟨rfl,rfl⟩
  exact⟨M,RDs.one (by simp only[RD]),fun l hl=>by simp[labsL,labs] at hl⟩
 ·rw[if_neg h]
  exact Nat.not_lt.mp h
theorem si_rng1{p:Pos}{ms:List (M D)}(hg:Gl X "range")(hm:X.mg "range" =none)(ha:SA X G F [a] (z02 ms))(hs:starEach [a] X.env=[(false,eval a X.env)]:=by rfl):SI X G F tg (.Call (.Name "range" p) [a] [] pos) (z39 ms):=by
 refine PI.imp0 (z7H hg hm ha hs) fun σ H R ⟨tv,hs,ρ,s,M,W⟩=>⟨tv,hs,ρ,s,M, ?_⟩
 unfold z39 bd at W
 cases e:z02 ms s with
 |ex d s1=>rw[e] at W;exact W
 |no=>rw[e] at W;exact W
 |ok ts s1=>
  rw[e] at W
  intro ρ1 vs H1 M1
  unfold rng1 at W
  dsimp only at W
  split at W
  ·rename_i ts' j K s' hh
   split at hh
   ·split at hh
    ·rename_i j' hc
     cases hh
     obtain⟨v,rfl,h,_⟩:=M1.one
     simp only[RD] at h
     subst h
     exact⟨j',rfl,hc.1,hc.2,W ρ1 H1 [] _ rfl M1.m z6u⟩
    ·cases hh
   ·cases hh
  ·rename_i hh
   split at hh
   ·split at hh<;>cases hh
   ·cases hh
  ·exact False.elim W
theorem si_rng2{p:Pos}{ms:List (M D)}(hg:Gl X "range")(hm:X.mg "range" =none)(ha:SA X G F [a,b] (z02 ms))(hs:starEach [a,b] X.env=[(false,eval a X.env),(false,eval b X.env)]:=by rfl)(hs2:starEach [b] X.env=[(false,eval b X.env)]:=by rfl):SI X G F tg (.Call (.Name "range" p) [a,b] [] pos) (z5z ms):=by
 refine PI.imp0 (z7I hg hm ha hs hs2) fun σ H R ⟨tv,hs,ρ,s,M,W⟩=>⟨tv,hs,ρ,s,M, ?_⟩
 unfold z5z bd at W
 cases e:z02 ms s with
 |ex d s1=>rw[e] at W;exact W
 |no=>rw[e] at W;exact W
 |ok ts s1=>
  rw[e] at W
  intro ρ1 vs H1 M1
  unfold rng2 at W
  dsimp only at W
  split at W
  ·rename_i ts' j K s' hh
   split at hh
   ·split at hh
    ·rename_i i' j' hc
     cases hh
     obtain⟨v,u,rfl,h,h'⟩:=M1.two
     simp only[RD] at h h'
     subst h h'
     exact⟨i',j',rfl,hc,W ρ1 H1 [] _ rfl M1.m z6u⟩
    ·cases hh
   ·cases hh
  ·rename_i hh
   split at hh
   ·split at hh<;>cases hh
   ·cases hh
  ·exact False.elim W
noncomputable def forGo(K:ItK)(g:Tg)(b:MS):Nat->Nat->MS
 |f,i=>fun s=>match K.at' i s.tm with
  |none=> .no
  |some none=> .nx (s.popn K.k)
  |some (some d)=>match f with
   |0=> .no
   |f+1=>match asg g d s.σ with
    |none=> .no
    |some σ'=>match b {s with σ:=σ'} with
     | .nx s'=>forGo K g b f (i+1) s'
     | .ct s'=>forGo K g b f (i+1) s'
     | .bk s'=> .nx (s'.popn K.k)
     | .rt t s'=> .rt t (s'.popn K.k)
     | .ex d s'=> .ex d s'
     | .no=> .no
noncomputable def sFor(mi:M ItK)(g:Tg)(b:MS):MS:=lift mi fun K s=>forGo K g b (K.len s.tm) 0 s
theorem MRL.popn{ρ:Nat->Addr}{H:Hp}{σv tvs tv:List (Option V)}{s:Stt}{ts:List D}{vs:List V}(M:MRL G F.toFx ρ H σv (tvs++tv) s ts vs):MRL G F.toFx ρ H σv tv (s.popn tvs.length) ts vs:=⟨M.m.popn,M.rd,M.lb⟩
theorem suf2{tvs tv:List (Option V)}(h:F.tv0<:+tv):F.tv0<:+tvs++tv:=h.trans (List.suffix_append _ _)
theorem z8c{m:M ItK}{f:ItK->MS}{tv:List (Option V)}{D:Ends}{σ:St}{H:Hp}{R:It->Hp->Prop}(h:tSv G F (lift m f) tv D σ H)
 (k: ∀K ρ' H' tvs J s',tvs.length=K.k->MR G F.toFx ρ' H' σ (tvs++tv) s'->ItOK G J K tvs->wS G F tv (f K s') D->R J H'):tI G F m σ H R:=by
 obtain⟨hs,ρ,s,M,W⟩:=h
 refine⟨tv,hs,ρ,s,M, ?_⟩
 unfold lift at W
 cases e:m s with
 |ok K s1=>rw[e] at W;exact fun ρ' H' tvs J hl M' hok=>k K ρ' H' tvs J s1 hl M' hok W
 |ex d s1=>rw[e] at W;exact W
 |no=>rw[e] at W;exact W
theorem ss_for{body:List Stmt}{mi:M ItK}{g:Tg}{mb:MS}(hp:PassesOwn (model X.prog X.w) X.A X.env X.xe)(hc:X.calm=true)(hi:SI X G F tg iter mi)(hg:SG X G F tg g)(hb:SSs X G F body mb)(hst: ∀x,foldedSetIterable iter X.env x=pure x:=by intro _;rfl):SS X G F (.For tg iter body [] pos) (sFor mi g mb):=by
 refine PS.imp0 (zcq hp hc hi hg hb hst) fun D σ H ⟨tv,h⟩=>z8c h fun K ρ' H' tvs J s' hl M' hok W=> ?_
 have hs:=h.1
 refine⟨fun i m σ H=> ∃ρ s,MR G F.toFx ρ H σ (tvs++tv) s/\wS G F tv (forGo K g mb m i s) D,⟨_,ρ',s',M',W⟩, ?_⟩
 rintro i m σ H ⟨ρ,s,M,W⟩
 have ok:=hok F.toFx ρ H σ [] tv s i M
 simp only[List.length_nil,List.drop_zero,List.nil_append] at ok
 unfold forGo at W
 cases e:K.at' i s.tm with
 |none=>simp only[e] at W;exact False.elim W
 |some o=>
  cases o with
  |none=>
   simp only[e] at W ok
   refine .inl ⟨ok,W ρ σ H ?_⟩
   rw[<-hl]
   exact M.popn
  |some d=>
   simp only[e] at W ok
   cases m with
   |zero=>exact False.elim W
   |succ f=>
    dsimp only at W
    cases e2:asg g d s.σ with
    |none=>simp only[e2] at W;exact False.elim W
    |some σ'=>
     simp only[e2] at W
     refine .inr ⟨ok.1,fun σ H=> ∃ρ s,MR G F.toFx ρ H σ (tvs++tv) s/\wS G F tv (forGo K g mb f (i+1) s) D,fun σ' H' q=>⟨f,Nat.lt_succ_self _,q⟩,fun x H2 y=> ?_⟩
     refine⟨tvs++tv,ρ,s,d,ok.2 x H2 y,σ',e2,fun σv' M2=>⟨tvs++tv,suf2 hs,ρ,_,M2, ?_⟩⟩
     cases e3:mb {s with σ:=σ'} with
     |nx s2=>simp only[e3] at W;exact fun ρ3 σ3 H3 M3=>⟨ρ3,s2,M3,W⟩
     |ct s2=>simp only[e3] at W;exact fun ρ3 σ3 H3 M3=>⟨ρ3,s2,M3,W⟩
     |bk s2=>simp only[e3] at W;exact fun ρ3 σ3 H3 M3=>W ρ3 σ3 H3 (by rw[<-hl];exact M3.popn)
     |rt t s2=>simp only[e3] at W;exact fun ρ3 σ3 v H3 M3=>W ρ3 σ3 v H3 (by rw[<-hl];exact M3.popn)
     |ex d s2=>simp only[e3] at W;exact W
     |no=>simp only[e3] at W;exact W
end
noncomputable def z03:List (Option D)->Option (List D)
 |[]=>some []
 |some d::r=>(z03 r).map (d:: ·)
 |none::_=>none
noncomputable def z1v(K:ItK)(g:Tg)(mt:M Bool)(me:M D)(ol:Nat):Nat->Nat->Nat->M D
 |f,i,k=>fun s=>match K.at' i (s.tm.drop (k+ol)) with
  |none=> .no
  |some none=>match z03 (s.tm.take k).reverse with
   |some ds=> .ok (.lst s.n ds) {σ:=(s.tm.drop k).take ol,tm:=s.tm.drop (k+ol+K.k),n:=s.n+1}
   |none=> .no
  |some (some d)=>match f with
   |0=> .no
   |f+1=>match asg g d s.σ with
    |none=> .no
    |some σ'=>match mt {s with σ:=σ'} with
     | .ok false s1=>z1v K g mt me ol f (i+1) k s1
     | .ok true s1=>if k<sizeLine then match me s1 with
      | .ok y s2=>z1v K g mt me ol f (i+1) (k+1) (s2.psh y)
      |_=> .no
      else .no
     |_=> .no
noncomputable def z8d(own:Nat)(ix:List Nat)(s:Stt):Stt:={σ:=List.replicate own none++ix.map (fun i=>(s.σ[i]?).getD none),tm:=s.σ++s.tm,n:=s.n}
noncomputable def z1i(mi:M ItK)(g:Tg)(mt:M Bool)(me:M D)(own:Nat)(ix:List Nat):M D:=bd mi fun K s=>z1v K g mt me s.σ.length (K.len s.tm) 0 0 (z8d own ix s)
section
variable{X:Cx}{G:Gx}{F:Fy}{e a b c tg iter elt:Expr}{pos:Pos}
noncomputable def Fy.prot(F:Fy)(D:Addr)(ys:List V)(h:F.H0 D=none):Fy where
 A0:=F.A0
 H0:=upd F.H0 D (.lst ys)
 Z:=fun a=>a=D\/F.Z a
 zA:=fun a z=>by
  rcases z with rfl|z
  ·exact⟨⟨_,z09⟩,fun q=>by obtain⟨o,e⟩:=F.aH _ q;rw[h] at e;cases e⟩
  ·obtain⟨⟨o,e⟩,n⟩:=F.zA a z
   exact⟨⟨o,by rw[z04 (z0D e h)];exact e⟩,n⟩
 aH:=fun a q=>by
  obtain⟨o,e⟩:=F.aH a q
  exact⟨o,by rw[z04 (z0D e h)];exact e⟩
 n0:=F.n0
 ρ0:=F.ρ0
 tv0:=[]
 xw:=fun _ _=>False
theorem Sl.none_map{ρ:Nat->Addr}{H:Hp}: ∀k:Nat,Sl G ρ H (List.replicate k none) (List.replicate k none)
 |0=>by simp[Sl]
 |k+1=>by simp only[List.replicate_succ,Sl];exact⟨_,_,rfl,Sl.none_map k⟩
theorem Sl.pick{ρ:Nat->Addr}{H:Hp}{σ:List (Option D)}{σv:List (Option V)}(h:Sl G ρ H σ σv): ∀ix:List Nat,Sl G ρ H (ix.map fun i=>(σ[i]?).getD none) (ix.map fun i=>(σv[i]?).getD none)
 |[]=>by simp[Sl]
 |i::ix=>by
  simp only[List.map_cons]
  cases e:σ[i]? with
  |none=>simp only[Option.getD_none,Sl];exact⟨_,_,rfl,Sl.pick h ix⟩
  |some o=>
   cases o with
   |none=>simp only[Option.getD_some,Sl];exact⟨_,_,rfl,Sl.pick h ix⟩
   |some d=>
    obtain⟨v,e1,r⟩:=h.get i d e
    simp only[Option.getD_some,Sl,e1]
    exact⟨_,_,rfl,r,Sl.pick h ix⟩
theorem z2M{σ:List (Option D)}{l:Nat}: ∀{ix:List Nat},l∈z06 (ix.map fun i=>(σ[i]?).getD none)->l∈z06 σ
 |[],h=>by simp[z06] at h
 |i::ix,h=>by
  simp only[List.map_cons] at h
  cases e:σ[i]? with
  |none=>rw[e] at h;simp only[Option.getD_none,z06] at h;exact z2M h
  |some o=>
   rw[e] at h
   cases o with
   |none=>simp only[Option.getD_some,z06] at h;exact z2M h
   |some d=>
    simp only[Option.getD_some,z06] at h
    rcases List.mem_append.mp h with h|h
    ·exact z2J e l h
    ·exact z2M h
theorem z29{l:Nat}: ∀k:Nat,¬l∈z06 (List.replicate k (none:Option D))
 |0,h=>by simp[z06] at h
 |k+1,h=>by simp only[List.replicate_succ,z06] at h;exact z29 k h
theorem MR.enter{ρ:Nat->Addr}{H:Hp}{σv tv:List (Option V)}{s:Stt}{D:Addr}(M:MR G F.toFx ρ H σv tv s)(hD:H D=none)(k:KD G.K (upd H D (.lst [])))(own:Nat)(ix:List Nat):
 MR G (F.prot D [] (M.fresh0 hD)).toFx ρ (upd H D (.lst [])) (z2I own ix σv) (σv++tv) (z8d own ix s):=by
 have sm:=Same.new (.lst []) hD
 have M1:=M.same sm k
 have nD: ∀l,l<s.n->ρ l≠D:=fun l hl e=>by
  obtain⟨o,q⟩:=M.dom l hl
  rw[e,hD] at q;cases q
 have sub: ∀l∈z0H (z8d own ix s),l∈z0H s:=fun l h=>by
  rcases List.mem_append.mp h with h|h
  ·have h:l∈z06 (List.replicate own none++ix.map (fun i=>(s.σ[i]?).getD none)):=h
   rw[z0c] at h
   rcases List.mem_append.mp h with h|h
   ·exact absurd h (z29 own)
   ·exact List.mem_append_left _ (z2M h)
  ·have h:l∈z06 (s.σ++s.tm):=h
   rw[z0c] at h
   exact h
 refine⟨?_,M1.sl.append M1.tm,M1.inj,M1.dom,fun l h=>M.lab l (sub l h),fun l h=> ?_,fun a o e=> ?_,k,fun l hl z=> ?_,M.bas⟩
 ·exact(Sl.none_map own).append (M1.sl.pick ix)
 ·rcases M.own l (sub l h) with q|q
  ·exact .inl q
  ·refine .inr ?_
   show upd F.H0 D (.lst []) (ρ l)=none
   rw[z04 (nD l (M.lab l (sub l h)))];exact q
 ·have e:upd F.H0 D (.lst []) a=some o:=e
  by_cases ha:a=D
  ·subst ha
   rw[z09] at e;cases e
   exact⟨⟨_,z09⟩,fun _=>z09⟩
  ·rw[z04 ha] at e
   exact M1.frm a o e
 ·rcases z with z|z
  ·exact nD l hl z
  ·exact M.frb l hl z
theorem MR.turnD{ρ:Nat->Addr}{H:Hp}{σv tv:List (Option V)}{s:Stt}{D:Addr}{ys ys':List V}{hf:F.H0 D=none}(M:MR G (F.prot D ys hf).toFx ρ H σv tv s):
 H D=some (.lst ys)/\MR G (F.prot D ys' hf).toFx ρ (upd H D (.lst ys')) σv tv s:=by
 have hD:H D=some (.lst ys):=(M.frm D (.lst ys) z09).2 ((F.prot D ys hf).zA D (.inl rfl)).2
 have nD: ∀l,l<s.n->ρ l≠D:=fun l hl e=>M.frb l hl (.inl e)
 have st:z1c H (upd H D (.lst ys')):=⟨fun b xs e=>by rw[z04 (z6X e hD (by intro z;cases z))];exact e,fun b o u e=>by rw[z04 (z6X e hD (by intro z;cases z))];exact e⟩
 refine⟨hD,⟨Sl.stay st M.sl fun l hl=>⟨rfl,fun o e=> ?_⟩,Sl.stay st M.tm fun l hl=>⟨rfl,fun o e=> ?_⟩,M.inj,fun l hl=> ?_,M.lab,fun l h=> ?_,fun a o e=> ?_,fun a o e=> ?_,fun l hl=>M.frb l hl,M.bas⟩⟩
 ·rw[z04 (nD l (M.lab l (List.mem_append_left _ hl)))];exact e
 ·rw[z04 (nD l (M.lab l (List.mem_append_right _ hl)))];exact e
 ·rw[z04 (nD l hl)];exact M.dom l hl
 ·rcases M.own l h with q|q
  ·exact .inl q
  ·refine .inr ?_
   have q:upd F.H0 D (.lst ys) (ρ l)=none:=q
   show upd F.H0 D (.lst ys') (ρ l)=none
   rw[z04 (nD l (M.lab l h))] at q⊢;exact q
 ·have e:upd F.H0 D (.lst ys') a=some o:=e
  by_cases ha:a=D
  ·subst ha
   rw[z09] at e;cases e
   exact⟨⟨_,z09⟩,fun _=>z09⟩
  ·rw[z04 ha] at e⊢
   exact M.frm a o (by show upd F.H0 D (.lst ys) a=some o;rw[z04 ha];exact e)
 ·by_cases ha:a=D
  ·subst ha
   rw[M.kd a o e] at hD;cases hD
  ·rw[z04 ha];exact M.kd a o e
theorem Sl.all{ρ:Nat->Addr}{H:Hp}: ∀{tm:List (Option D)} {ys:List V} {ds:List D},Sl G ρ H tm (ys.map some)->z03 tm=some ds->RDs G ρ H ds ys/\labsL ds=z06 tm
 |[],ys,ds,h,e=>by
  simp only[Sl] at h
  simp only[z03,Option.some.injEq] at e
  subst e
  have:ys=[]:=by simpa using h
  subst this
  simp[RDs,labsL,z06]
 |none::r,ys,ds,h,e=>by simp only[z03] at e;cases e
 |some d::r,ys,ds,h,e=>by
  simp only[Sl] at h
  obtain⟨v,q,e1,h1,h2⟩:=h
  cases ys with
  |nil=>cases e1
  |cons y ys=>
   simp only[List.map_cons,List.cons.injEq,Option.some.injEq] at e1
   obtain⟨rfl,rfl⟩:=e1
   simp only[z03] at e
   cases e2:z03 r with
   |none=>rw[e2] at e;cases e
   |some es=>
    rw[e2] at e
    cases e
    obtain⟨r1,r2⟩:=Sl.all h2 e2
    refine⟨?_,by simp only[labsL,z06,r2]⟩
    simp only[RDs]
    exact⟨_,_,rfl,h1,r1⟩
theorem Sl.reverse{ρ:Nat->Addr}{H:Hp}: ∀{tm:List (Option D)} {ys:List (Option V)},Sl G ρ H tm ys->Sl G ρ H tm.reverse ys.reverse
 |[],ys,h=>by simp only[Sl] at h;subst h;simp[Sl]
 |none::r,ys,h=>by
  simp only[Sl] at h
  obtain⟨o,q,rfl,h⟩:=h
  rw[List.reverse_cons,List.reverse_cons]
  exact(Sl.reverse h).append (by simp only[Sl];exact⟨_,_,rfl,rfl⟩)
 |some d::r,ys,h=>by
  simp only[Sl] at h
  obtain⟨o,q,rfl,h1,h⟩:=h
  rw[List.reverse_cons,List.reverse_cons]
  exact(Sl.reverse h).append (by simp only[Sl];exact⟨_,_,rfl,h1,rfl⟩)
theorem z3H{l:Nat}: ∀{tm:List (Option D)},l∈z06 tm.reverse↔l∈z06 tm
 |[]=>by simp
 |none::r=>by
  rw[List.reverse_cons,z0c]
  simp only[z06,List.append_nil]
  exact z3H
 |some d::r=>by
  rw[List.reverse_cons,z0c]
  simp only[z06,List.append_nil,List.mem_append]
  rw[z3H]
  exact Or.comm
theorem MR.leave{ρ:Nat->Addr}{H:Hp}{σi σv tvs tv:List (Option V)}{s:Stt}{A1:Addr}{ys:List V}{hf:F.H0 A1=none}{ds:List D}{kk:Nat}
 (M:MR G (F.prot A1 ys hf).toFx ρ H σi ((ys.reverse.map some)++(σv++(tvs++tv))) s) (hk:tvs.length=kk) (ol:Nat) (ho:σv.length=ol) (e:z03 (s.tm.take ys.length).reverse=some ds):
 MRL G F.toFx (ext ρ s.n A1) H σv tv {σ:=(s.tm.drop ys.length).take ol,tm:=s.tm.drop (ys.length+ol+kk),n:=s.n+1} [.lst s.n ds] [.ref A1]:=by
 subst hk ho
 have hD:=(MR.turnD (ys':=ys) M).1
 have nD: ∀l,l<s.n->ρ l≠A1:=fun l hl e=>M.frb l hl (.inl e)
 have t0:=Sl.split (ys.reverse.map some) M.tm
 simp only[List.length_map,List.length_reverse] at t0
 obtain⟨t1,t2⟩:=t0
 obtain⟨t3,t4⟩:=Sl.split σv t2
 obtain⟨_,t6⟩:=Sl.split tvs t4
 rw[List.drop_drop] at t4
 rw[List.drop_drop,List.drop_drop] at t6
 have t6':Sl G ρ H (s.tm.drop (ys.length+σv.length+tvs.length)) tv:=by rw[Nat.add_assoc];exact t6
 have t1':=t1.reverse
 rw[<-List.map_reverse,List.reverse_reverse] at t1'
 obtain⟨r1,r2⟩:=Sl.all t1' e
 have lt: ∀l,l∈z06 (s.tm.take ys.length)->l∈z0H s:=fun l h=>List.mem_append_right _ (by
  have e:=z0c (s.tm.take ys.length) (s.tm.drop ys.length)
  rw[List.take_append_drop] at e
  rw[e];exact List.mem_append_left _ h)
 have ld: ∀l k,l∈z06 (s.tm.drop k)->l∈z0H s:=fun l k h=>List.mem_append_right _ (by
  have e:=z0c (s.tm.take k) (s.tm.drop k)
  rw[List.take_append_drop] at e
  rw[e];exact List.mem_append_right _ h)
 have ldt: ∀l k j,l∈z06 ((s.tm.drop k).take j)->l∈z0H s:=fun l k j h=>ld l k (by
  have e:=z0c ((s.tm.drop k).take j) ((s.tm.drop k).drop j)
  rw[List.take_append_drop] at e
  rw[e];exact List.mem_append_left _ h)
 have own: ∀l∈z0H s,F.A0 (ρ l)\/F.H0 (ρ l)=none:=fun l h=>by
  rcases M.own l h with q|q
  ·exact .inl q
  ·refine .inr ?_
   have q:upd F.H0 A1 (.lst ys) (ρ l)=none:=q
   rw[z04 (nD l (M.lab l h))] at q;exact q
 have st:=z1c.refl H
 have stay: ∀l,l<s.n->ext ρ s.n A1 l=ρ l/\∀o,H (ρ l)=some o->H (ρ l)=some o:=fun l hl=>⟨z0k hl,fun o e=>e⟩
 have all: ∀l∈z0H {σ:=(s.tm.drop ys.length).take σv.length,tm:=s.tm.drop (ys.length+σv.length+tvs.length),n:=s.n+1},l∈z0H s:=fun l h=>by
  rcases List.mem_append.mp h with h|h
  ·exact ldt l _ _ h
  ·exact ld l _ h
 have dsl: ∀l∈labsL ds,l∈z0H s:=fun l h=>lt l (by rw[r2] at h;exact z3H.mp h)
 refine⟨⟨Sl.stay st t3 fun l hl=>stay l (M.lab l (ldt l _ _ hl)),Sl.stay st t6' fun l hl=>stay l (M.lab l (ld l _ hl)),fun i j hi hj eq=> ?_,fun l hl=> ?_,fun l h=>Nat.lt_succ_of_lt (M.lab l (all l h)),fun l h=> ?_,fun a o e=> ?_,M.kd,fun l hl z=> ?_,⟨Nat.le_succ_of_le M.bas.1,fun l hl=>by rw[z0k (Nat.lt_of_lt_of_le hl M.bas.1)];exact M.bas.2 l hl⟩⟩, ?_,fun l h=> ?_⟩
 ·have hi:i<s.n+1:=hi
  have hj:j<s.n+1:=hj
  by_cases h1:i=s.n
  ·by_cases h2:j=s.n
   ·lia
   ·rw[h1,z0F,z0k (by lia)] at eq
    exact absurd eq.symm (nD j (by lia))
  ·by_cases h2:j=s.n
   ·rw[h2,z0F,z0k (by lia)] at eq
    exact absurd eq (nD i (by lia))
   ·rw[z0k (by lia),z0k (by lia)] at eq
    exact M.inj i j (by lia) (by lia) eq
 ·have hl:l<s.n+1:=hl
  by_cases h1:l=s.n
  ·subst h1;rw[z0F];exact⟨_,hD⟩
  ·rw[z0k (by lia)];exact M.dom l (by lia)
 ·rw[z0k (M.lab l (all l h))];exact own l (all l h)
 ·exact M.frm a o (by show upd F.H0 A1 (.lst ys) a=some o;rw[z04 (z0D e hf)];exact e)
 ·have hl:l<s.n+1:=hl
  by_cases h1:l=s.n
  ·subst h1;rw[z0F] at z
   obtain⟨⟨o,e⟩,_⟩:=F.zA A1 z
   rw[hf] at e;cases e
  ·rw[z0k (by lia)] at z
   exact M.frb l (by lia) (.inr z)
 ·refine RDs.one ?_
  simp only[RD]
  rw[z0F]
  exact⟨rfl,ys,hD,RDs.stay st ds ys r1 fun l hl=>stay l (M.lab l (dsl l hl))⟩
 ·simp only[labsL,labs,List.append_nil] at h
  rcases List.mem_cons.mp h with q|q
  ·rw[q,z0F];exact⟨Nat.lt_succ_self _, .inr hf⟩
  ·have q2:=dsl l q
   exact⟨Nat.lt_succ_of_lt (M.lab l q2),by rw[z0k (M.lab l q2)];exact own l q2⟩
noncomputable def tMx(G:Gx)(m:M D):TE:=fun σ H Q=> ∃F:Fy,tM G F m σ H Q
noncomputable def tBx(G:Gx)(m:M Bool):TT:=fun σ H Q=> ∃F:Fy,tMB G F m σ H Q
noncomputable def tGx(G:Gx)(g:Tg):TG:=fun v σ H Q=> ∃F:Fy,tGn G F g v σ H Q
noncomputable def STs(X:Cx)(G:Gx)(F:Fy)(ifs:List Expr)(m:M Bool):Prop:=PTs X ifs (tMB G F m)
theorem sts_nil:STs X G F [] (rt true):=fun pins s σ H Q I ⟨tv,hs,ρ,ms,M,W⟩=>zbc pins s σ H Q I (W ρ H M)
theorem sts_one{m:M Bool}(h:SB X G F c m):STs X G F [c] m:=zbd h
theorem z9r{K:W.Frag}{k:Nat}{ix:List Nat}{mi:M ItK}{g:Tg}{mt:M Bool}{me:M D}{σ:St}{H:Hp}{Q:VK}(hk:K=G.K)(h:tM G F (z1i mi g mt me k ix) σ H Q):zaa K (tI G F mi) (tGx G g) (tBx G mt) (tMx G me) k ix σ H Q:=by
 obtain⟨tv,hsf,ρ,s,M,W⟩:=h
 refine⟨tv,hsf,ρ,s,M, ?_⟩
 unfold z1i bd at W
 cases em:mi s with
 |ex d s1=>rw[em] at W;exact W
 |no=>rw[em] at W;exact W
 |ok K s1=>
  rw[em] at W
  intro ρ1 H1 tvs J hl M1 hok A1 hA1 kd
  subst hk
  have kd:KD G.K (upd H1 A1 (.lst [])):=kd
  have hf:=M1.fresh0 hA1
  refine⟨fun i m ys σ' H'=> ∃ρ s,MR G (F.prot A1 ys hf).toFx ρ H' σ' ((ys.reverse.map some)++(σ++(tvs++tv))) s/\wM G F σ tv (z1v K g mt me s1.σ.length m i ys.length s) Q,⟨_,ρ1,_,M1.enter hA1 kd k ix,W⟩, ?_⟩
  rintro i m ys σ' H' ⟨ρ2,s2,M2,W2⟩
  have hD:=(MR.turnD (ys':=ys) M2).1
  refine⟨hD, ?_⟩
  have ol:s1.σ.length=σ.length:=M1.sl.length
  have ok:=hok (F.prot A1 ys hf).toFx ρ2 H' σ' ((ys.reverse.map some)++σ) tv s2 i (by rw[List.append_assoc];exact M2)
  simp only[List.length_append,List.length_map,List.length_reverse,<-ol,List.append_assoc] at ok
  unfold z1v at W2
  cases e:K.at' i (s2.tm.drop (ys.length+s1.σ.length)) with
  |none=>simp only[e] at W2;exact False.elim W2
  |some o=>
   rw[e] at ok
   cases o with
   |none=>
    simp only[e] at W2 ok
    refine .inl ⟨ok, ?_⟩
    cases ea:z03 (s2.tm.take ys.length).reverse with
    |none=>simp only[ea] at W2;exact False.elim W2
    |some ds=>
     simp only[ea] at W2
     exact W2 _ _ _ (MR.leave M2 hl _ ol.symm ea)
   |some d=>
    simp only[e] at W2 ok
    cases m with
    |zero=>exact False.elim W2
    |succ f=>
     dsimp only at W2
     cases e2:asg g d s2.σ with
     |none=>simp only[e2] at W2;exact False.elim W2
     |some σ3=>
      simp only[e2] at W2
      refine .inr ⟨ok.1,fun x H2 y=> ?_⟩
      have hx:=ok.2 x H2 y
      refine⟨F.prot A1 ys hf,_,ρ2,s2,d,hx,σ3,e2,fun σv' M3=>⟨F.prot A1 ys hf,_,List.nil_suffix,ρ2,_,M3, ?_⟩⟩
      cases e3:mt {s2 with σ:=σ3} with
      |ex d s4=>simp only[e3] at W2;exact False.elim W2
      |no=>simp only[e3] at W2;exact False.elim W2
      |ok b s4=>
       intro ρ4 H4 M4
       cases b with
       |false=>
        simp only[e3] at W2
        rw[if_neg Bool.false_ne_true]
        exact⟨f,Nat.lt_succ_self _,ρ4,s4,M4,W2⟩
       |true=>
        simp only[e3] at W2
        rw[if_pos rfl]
        by_cases hz:ys.length<sizeLine
        ·rw[if_pos hz] at W2
         refine⟨F.prot A1 ys hf,_,List.nil_suffix,ρ4,s4,M4, ?_⟩
         cases e5:me s4 with
         |ex d s5=>simp only[e5] at W2;exact False.elim W2
         |no=>simp only[e5] at W2;exact False.elim W2
         |ok y s5=>
          simp only[e5] at W2
          intro ρ5 v H5 M5
          obtain⟨hD5,M6⟩:=MR.turnD (ys':=ys++[v]) M5.push
          refine⟨hD5,hz,f,Nat.lt_succ_self _,ρ5,s5.psh y, ?_, ?_⟩
          ·rw[List.reverse_append,List.reverse_cons,List.reverse_nil,List.nil_append,List.map_append]
           exact M6
          ·rw[List.length_append];exact W2
        ·rw[if_neg hz] at W2;exact False.elim W2
theorem se_comp{scope:Scope}{own frees:List Str}{ix:List Nat}{ifs:List Expr}{mi:M ItK}{g:Tg}{mt:M Bool}{me:M D}(hk:X.K=G.K)(hc:X.calm=true)(S:z28 X.env.scope scope own frees X.N ix)(hi:SI X G F tg iter mi)
 (hg: ∀(F:Fy) cl C s₀ H₀ fp pn,SG (z1E X scope own frees cl C s₀ H₀ fp pn) G F tg g) (ht: ∀(F:Fy) cl C s₀ H₀ fp pn,STs (z1E X scope own frees cl C s₀ H₀ fp pn) G F ifs mt) (he: ∀(F:Fy) cl C s₀ H₀ fp pn,SE (z1E X scope own frees cl C s₀ H₀ fp pn) G F elt me)
 (hs: ∀x,foldedSetIterable iter X.env x=pure x:=by intro _;rfl):SE X G F (.ListComp elt [⟨tg,iter,ifs,0⟩] scope pos) (z1i mi g mt me own.length ix):=
 PE.imp0 (z89 (g:=tGx G g) (tt:=tBx G mt) (te:=tMx G me) hc S hi (fun cl C s₀ H₀ fp pn pins s σ H v u Q I r ⟨F',q⟩=>hg F' cl C s₀ H₀ fp pn pins s σ H v u Q I r q)
  (fun cl C s₀ H₀ fp pn pins s σ H Q I ⟨F',q⟩=>ht F' cl C s₀ H₀ fp pn pins s σ H Q I q) (fun cl C s₀ H₀ fp pn pins s σ H Q I ⟨F',q⟩=>he F' cl C s₀ H₀ fp pn pins s σ H Q I q) hs) fun σ H Q h=>z9r hk h
end
mutual
noncomputable def findT(l:Nat):D->Option D
 | .tup ds=>findL l ds
 | .ro ds=>findL l ds
 | .fdc _ vs=>findL l vs
 | .lst k ds=>if k=l then some (.lst k ds) else findL l ds
 | .dct k ks vs=>if k=l then some (.dct k ks vs) else findL l vs
 | .obj k c ns vs=>if k=l then some (.obj k c ns vs) else findL l vs
 | .non=>none| .bool _=>none| .int _=>none| .str _=>none| .exc _=>none| .fn _=>none
noncomputable def findL(l:Nat):List D->Option D
 |[]=>none
 |d::ds=>match findT l d with
  |some x=>some x
  |none=>findL l ds
end
section
variable{G:Gx}{ρ:Nat->Addr}{H:Hp}
mutual
theorem z9s(l:Nat): ∀(t:D) (v:V) (d:D),RD G ρ H t v->findT l t=some d->RD G ρ H d (.ref (ρ l))/\∀k∈labs d,k∈labs t
 | .non,v,d,h,e=>by simp only[findT] at e;cases e
 | .bool b,v,d,h,e=>by simp only[findT] at e;cases e
 | .int b,v,d,h,e=>by simp only[findT] at e;cases e
 | .str b,v,d,h,e=>by simp only[findT] at e;cases e
 | .exc b,v,d,h,e=>by simp only[findT] at e;cases e
 | .fn b,v,d,h,e=>by simp only[findT] at e;cases e
 | .tup ds,v,d,h,e=>by
  simp only[findT,RD,labs] at h e⊢
  obtain⟨a,xs,_,_,r⟩:=h
  exact findL_rd l ds xs d r e
 | .ro ds,v,d,h,e=>by
  simp only[findT,RD,labs] at h e⊢
  obtain⟨a,xs,_,_,r⟩:=h
  exact findL_rd l ds xs d r e
 | .fdc ks vs,v,d,h,e=>by
  simp only[findT,RD,labs] at h e⊢
  obtain⟨a,o,kvs,_,_,_,r⟩:=h
  exact findL_rd l vs _ d r e
 | .lst k ds,v,d,h,e=>by
  simp only[findT] at e
  by_cases hk:k=l
  ·rw[if_pos hk] at e;cases e
   subst hk
   have h':=h
   simp only[RD] at h'
   obtain⟨rfl,_⟩:=h'
   exact⟨h,fun _ q=>q⟩
  ·rw[if_neg hk] at e
   simp only[RD] at h
   obtain⟨_,xs,_,r⟩:=h
   obtain⟨q1,q2⟩:=findL_rd l ds xs d r e
   exact⟨q1,fun j hj=>by simp only[labs];exact List.mem_cons_of_mem _ (q2 j hj)⟩
 | .dct k ks vs,v,d,h,e=>by
  simp only[findT] at e
  by_cases hk:k=l
  ·rw[if_pos hk] at e;cases e
   subst hk
   have h':=h
   simp only[RD] at h'
   obtain⟨rfl,_⟩:=h'
   exact⟨h,fun _ q=>q⟩
  ·rw[if_neg hk] at e
   simp only[RD] at h
   obtain⟨_,⟨kvs,_,_,r⟩|⟨kvs,_,_,r⟩⟩:=h
   ·obtain⟨q1,q2⟩:=findL_rd l vs _ d r e
    exact⟨q1,fun j hj=>by simp only[labs];exact List.mem_cons_of_mem _ (List.mem_append_right _ (q2 j hj))⟩
   ·obtain⟨q1,q2⟩:=findL_rd l vs _ d r e
    exact⟨q1,fun j hj=>by simp only[labs];exact List.mem_cons_of_mem _ (List.mem_append_right _ (q2 j hj))⟩
 | .obj k c ns vs,v,d,h,e=>by
  simp only[findT] at e
  by_cases hk:k=l
  ·rw[if_pos hk] at e;cases e
   subst hk
   have h':=h
   simp only[RD] at h'
   obtain⟨rfl,_⟩:=h'
   exact⟨h,fun _ q=>q⟩
  ·rw[if_neg hk] at e
   simp only[RD] at h
   obtain⟨_,C,dx,fs,_,_,_,r⟩:=h
   obtain⟨q1,q2⟩:=findL_rd l vs _ d r e
   exact⟨q1,fun j hj=>by simp only[labs];exact List.mem_cons_of_mem _ (q2 j hj)⟩
theorem findL_rd(l:Nat): ∀(t:List D) (v:List V) (d:D),RDs G ρ H t v->findL l t=some d->RD G ρ H d (.ref (ρ l))/\∀k∈labs d,k∈labsL t
 |[],v,d,h,e=>by simp only[findL] at e;cases e
 |t::ts,v,d,h,e=>by
  simp only[findL,RDs,labsL] at h e⊢
  obtain⟨x,r,_,h1,h2⟩:=h
  cases e1:findT l t with
  |some y=>
   rw[e1] at e;cases e
   obtain⟨q1,q2⟩:=z9s l t x _ h1 e1
   exact⟨q1,fun j hj=>List.mem_append_left _ (q2 j hj)⟩
  |none=>
   rw[e1] at e
   obtain⟨q1,q2⟩:=findL_rd l ts r d h2 e
   exact⟨q1,fun j hj=>List.mem_append_right _ (q2 j hj)⟩
end
theorem roL_two{K:W.Frag}{a:Addr}{xs ys:List V}(k:KD K H)(h:RoL K H a xs)(h':RoL K H a ys):xs=ys:=SqL.two k h.sq h'.sq
noncomputable def z6v(G:Gx)(H:Hp)(a:Addr):Nat->Prop
 |0=> ∃xs,SqT G.K H a xs
 |1=> ∃xs,RoL G.K H a xs
 |2=> ∃xs,H a=some (.lst xs)
 |3=>(∃kvs,H a=some (.dK kvs))\/∃kvs,H a=some (.dT kvs)
 |4=> ∃C dx fs,H a=some (.ins C dx fs)
 |5=> ∃o φ,H a=some (.frz o (.ext φ))
 |6=> ∃c,G.cl c=some a
 |_=> ∃o kvs,H a=some (.frz o (.dT kvs))
open Classical in
noncomputable def kd(K:W.Frag)(H:Hp)(a:Addr):Nat:=match H a with
 |some (.tup _)=>0|some (.frz _ (.tup _))=>0|some (.frz _ (.lst _))=>1|some (.lst _)=>2|some (.dK _)=>3|some (.dT _)=>3|some (.ins _ _ _)=>4|some (.frz _ (.ext _))=>5|some (.frz _ (.dT _))=>7
 |some _=>9
 |none=>match K.lookup a with
  |some o=>if(∃its n,o.data= .seq its n) then(if o.cls= .type "tuple" then 0 else 1) else 6
  |none=>8
theorem zdb{a:Addr}(k:KD G.K H): ∀{i:Nat},z6v G H a i->i<=7->kd G.K H a=i:=by
 have tl: ¬((.type "list" :Value)= .type "tuple"):=by intro h;injection h with h;exact absurd h (by decide)
 intro i hi li
 match i,hi,li with
 |0,⟨xs,h⟩,_=>
  rcases h with(h|⟨o,h⟩)|⟨o,its,n,h,hc,hd,_⟩
  ·unfold kd;rw[h]
  ·unfold kd;rw[h]
  ·unfold kd;rw[k _ _ h];dsimp only;rw[h];dsimp only;rw[if_pos ⟨its,n,hd⟩,if_pos hc]
 |1,⟨xs,h⟩,_=>
  rcases h with⟨o,h⟩|⟨o,its,n,h,hc,_,hd,_⟩
  ·unfold kd;rw[h]
  ·unfold kd;rw[k _ _ h];dsimp only;rw[h];dsimp only;rw[if_pos ⟨its,n,hd⟩,if_neg (by rw[hc];exact tl)]
 |2,⟨xs,h⟩,_=>unfold kd;rw[h]
 |3,h,_=>rcases h with⟨_,h⟩|⟨_,h⟩<;>(unfold kd;rw[h])
 |4,⟨_,_,_,h⟩,_=>unfold kd;rw[h]
 |5,⟨_,_,h⟩,_=>unfold kd;rw[h]
 |6,⟨c,h⟩,_=>
  obtain⟨o,h1,h2⟩:=G.ck c a h
  unfold kd;rw[k _ _ h1];dsimp only;rw[h1];dsimp only;rw[if_neg (fun⟨its,n,q⟩=>h2 its n q)]
 |7,⟨_,_,h⟩,_=>unfold kd;rw[h]
 |n+8,_,li=>lia
theorem z9t{a:Addr}(k:KD G.K H){i j:Nat}(hi:z6v G H a i)(hj:z6v G H a j)(li:i<=7)(lj:j<=7):i=j:=(zdb k hi li).symm.trans (zdb k hj lj)
noncomputable def ix:D->Nat
 | .tup _=>0| .ro _=>1| .lst _ _=>2| .dct _ _ _=>3| .obj _ _ _ _=>4| .exc _=>5| .fn _=>6| .fdc _ _=>7|_=>8
noncomputable def flD:V->D
 | .bl b=> .bool b| .int b=> .int b| .str b=> .str b|_=> .non
theorem RD.kind{t:D}{v:V}(h:RD G ρ H t v):(t=flD v/\∀a,v≠ .ref a)\/∃a,v= .ref a/\ix t<=7/\z6v G H a (ix t):=by
 cases t<;>simp only[RD] at h
 ·exact .inl (by rw[h];exact⟨rfl,nofun⟩)
 ·exact .inl (by rw[h];exact⟨rfl,nofun⟩)
 ·exact .inl (by rw[h];exact⟨rfl,nofun⟩)
 ·exact .inl (by rw[h];exact⟨rfl,nofun⟩)
 ·obtain⟨a',xs,e,s,r⟩:=h;exact .inr ⟨a',e,Nat.le_of_ble_eq_true rfl,xs,SqT.of s⟩
 ·obtain⟨a',xs,e,s,r⟩:=h;exact .inr ⟨a',e,Nat.le_of_ble_eq_true rfl,xs,s⟩
 ·obtain⟨e,xs,s,r⟩:=h;exact .inr ⟨_,e,Nat.le_of_ble_eq_true rfl,xs,s⟩
 ·obtain⟨e,⟨kvs,s,_⟩|⟨kvs,s,_⟩⟩:=h
  ·exact .inr ⟨_,e,Nat.le_of_ble_eq_true rfl, .inl ⟨kvs,s⟩⟩
  ·exact .inr ⟨_,e,Nat.le_of_ble_eq_true rfl, .inr ⟨kvs,s⟩⟩
 ·obtain⟨e,C,dx,fs,_,s,_⟩:=h;exact .inr ⟨_,e,Nat.le_of_ble_eq_true rfl,C,dx,fs,s⟩
 ·obtain⟨a',o,C,e,_,_,_,s⟩:=h;exact .inr ⟨a',e,Nat.le_of_ble_eq_true rfl,o,_,s⟩
 ·obtain⟨a',e,s⟩:=h;exact .inr ⟨a',e,Nat.le_of_ble_eq_true rfl,_,s⟩
 ·obtain⟨a',o,kvs,e,s,_⟩:=h;exact .inr ⟨a',e,Nat.le_of_ble_eq_true rfl,o,kvs,s⟩
theorem ix0{t:D}(h:ix t=0): ∃ds,t= .tup ds:=by cases t<;>first|exact⟨_,rfl⟩|cases h
theorem ix1{t:D}(h:ix t=1): ∃ds,t= .ro ds:=by cases t<;>first|exact⟨_,rfl⟩|cases h
theorem ix2{t:D}(h:ix t=2): ∃l ds,t= .lst l ds:=by cases t<;>first|exact⟨_,_,rfl⟩|cases h
theorem ix3{t:D}(h:ix t=3): ∃l ks vs,t= .dct l ks vs:=by cases t<;>first|exact⟨_,_,_,rfl⟩|cases h
theorem ix4{t:D}(h:ix t=4): ∃l c ns vs,t= .obj l c ns vs:=by cases t<;>first|exact⟨_,_,_,_,rfl⟩|cases h
theorem ix5{t:D}(h:ix t=5): ∃c,t= .exc c:=by cases t<;>first|exact⟨_,rfl⟩|cases h
theorem ix6{t:D}(h:ix t=6): ∃c,t= .fn c:=by cases t<;>first|exact⟨_,rfl⟩|cases h
theorem ix7{t:D}(h:ix t=7): ∃ks vs,t= .fdc ks vs:=by cases t<;>first|exact⟨_,_,rfl⟩|cases h
theorem RD.ixE{t t':D}{v:V}(k:KD G.K H)(h:RD G ρ H t v)(h':RD G ρ H t' v):t=t'\/ix t=ix t':=by
 rcases RD.kind h with⟨e,n⟩|⟨a,e,l,q⟩<;>rcases RD.kind h' with⟨e',n'⟩|⟨a',e',l',q'⟩
 ·exact .inl (e.trans e'.symm)
 ·exact absurd e' (n _)
 ·exact absurd e (n' _)
 ·cases e.symm.trans e';exact .inr (z9t k q q' l l')
section
variable(k:KD G.K H){n:Nat}(inj: ∀i j,i<n->j<n->ρ i=ρ j->i=j)
include k inj
mutual
theorem RD.uniq: ∀(t t':D) (v:V),RD G ρ H t v->RD G ρ H t' v->(∀l∈labs t,l<n)->(∀l∈labs t',l<n)->t=t'
 | .non,t',v,h,h',_,_=>(RD.kind h').elim (fun e=>by simp only[RD] at h;subst h;exact e.1.symm) fun⟨_,e,_⟩=>by simp only[RD] at h;subst h;cases e
 | .bool b,t',v,h,h',_,_=>(RD.kind h').elim (fun e=>by simp only[RD] at h;subst h;exact e.1.symm) fun⟨_,e,_⟩=>by simp only[RD] at h;subst h;cases e
 | .int b,t',v,h,h',_,_=>(RD.kind h').elim (fun e=>by simp only[RD] at h;subst h;exact e.1.symm) fun⟨_,e,_⟩=>by simp only[RD] at h;subst h;cases e
 | .str b,t',v,h,h',_,_=>(RD.kind h').elim (fun e=>by simp only[RD] at h;subst h;exact e.1.symm) fun⟨_,e,_⟩=>by simp only[RD] at h;subst h;cases e
 | .exc c,t',v,h,h',lb,lb'=>by
  rcases RD.ixE k h h' with e|e
  ·exact e
  obtain⟨c',rfl⟩:=ix5 e.symm
  simp only[RD] at h h'
  obtain⟨a,o,C,rfl,h1,h2,_,s⟩:=h
  obtain⟨a',o',C',e,h1',h2',_,s'⟩:=h'
  cases e
  rw[s] at s';cases s'
  rw[h2] at h2';cases h2'
  rw[G.ci c c' C h1 h1']
 | .fn c,t',v,h,h',lb,lb'=>by
  rcases RD.ixE k h h' with e|e
  ·exact e
  obtain⟨c',rfl⟩:=ix6 e.symm
  simp only[RD] at h h'
  obtain⟨a,rfl,h1⟩:=h
  obtain⟨a',e,h1'⟩:=h'
  cases e
  rw[G.ci c c' a h1 h1']
 | .tup ds,t',v,h,h',lb,lb'=>by
  rcases RD.ixE k h h' with e|e
  ·exact e
  obtain⟨es,rfl⟩:=ix0 e.symm
  obtain⟨a,xs,rfl,s,r⟩:=h.tupq
  obtain⟨a',ys,e,s',r'⟩:=h'.tupq
  cases e
  cases SqT.two k s s'
  rw[RDs.uniq ds es xs r r' lb lb']
 | .fdc ks vs,t',v,h,h',lb,lb'=>by
  rcases RD.ixE k h h' with e|e
  ·exact e
  obtain⟨ks',vs',rfl⟩:=ix7 e.symm
  simp only[RD] at h h'
  obtain⟨a,o,kvs,rfl,s,s2,r⟩:=h
  obtain⟨a',o',kvs',e,s',s2',r'⟩:=h'
  cases e
  rw[s] at s';cases s'
  rw[s2,s2',RDs.uniq vs vs' _ r r' lb lb']
 | .ro ds,t',v,h,h',lb,lb'=>by
  rcases RD.ixE k h h' with e|e
  ·exact e
  obtain⟨es,rfl⟩:=ix1 e.symm
  simp only[RD] at h h'
  obtain⟨a,xs,rfl,s,r⟩:=h
  obtain⟨a',ys,e,s',r'⟩:=h'
  cases e
  cases roL_two k s s'
  rw[RDs.uniq ds es xs r r' lb lb']
 | .lst l ds,t',v,h,h',lb,lb'=>by
  rcases RD.ixE k h h' with e|e
  ·exact e
  obtain⟨l',es,rfl⟩:=ix2 e.symm
  simp only[RD] at h h'
  obtain⟨rfl,xs,s,r⟩:=h
  obtain⟨e,ys,s',r'⟩:=h'
  cases inj l l' (lb l (.head _)) (lb' l' (.head _)) (V.ref.inj e)
  rw[s] at s';cases s'
  rw[RDs.uniq ds es xs r r' (fun j hj=>lb j (.tail _ hj)) fun j hj=>lb' j (.tail _ hj)]
 | .dct l ks vs,t',v,h,h',lb,lb'=>by
  rcases RD.ixE k h h' with e|e
  ·exact e
  obtain⟨l',ks',vs',rfl⟩:=ix3 e.symm
  simp only[RD] at h h'
  obtain⟨rfl,q⟩:=h
  obtain⟨e,q'⟩:=h'
  cases inj l l' (lb l (.head _)) (lb' l' (.head _)) (V.ref.inj e)
  have b1: ∀j∈labsL vs,j<n:=fun j hj=>lb j (.tail _ (List.mem_append_right _ hj))
  have b2: ∀j∈labsL vs',j<n:=fun j hj=>lb' j (.tail _ (List.mem_append_right _ hj))
  rcases q with⟨kvs,s,s2,r⟩|⟨kvs,s,s2,r⟩<;>rcases q' with⟨kvs',s',s2',r'⟩|⟨kvs',s',s2',r'⟩<;>rw[s] at s'<;>cases s'
  ·rw[s2,s2',RDs.uniq vs vs' _ r r' b1 b2]
  ·rw[s2,s2',RDs.uniq vs vs' _ r r' b1 b2]
 | .obj l c ns vs,t',v,h,h',lb,lb'=>by
  rcases RD.ixE k h h' with e|e
  ·exact e
  obtain⟨l',c',ns',vs',rfl⟩:=ix4 e.symm
  simp only[RD] at h h'
  obtain⟨rfl,C,dx,fs,hC,s,s2,r⟩:=h
  obtain⟨e,C',dx',fs',hC',s',s2',r'⟩:=h'
  cases inj l l' (lb l (.head _)) (lb' l' (.head _)) (V.ref.inj e)
  rw[s] at s';cases s'
  rw[s2,s2',G.ci c c' C hC hC',RDs.uniq vs vs' _ r r' (fun j hj=>lb j (.tail _ hj)) fun j hj=>lb' j (.tail _ hj)]
theorem RDs.uniq: ∀(t t':List D) (v:List V),RDs G ρ H t v->RDs G ρ H t' v->(∀l∈labsL t,l<n)->(∀l∈labsL t',l<n)->t=t'
 |[],t',v,h,h',_,_=>by
  simp only[RDs] at h;subst h
  cases t' with
  |nil=>rfl
  |cons d ds=>simp only[RDs] at h';obtain⟨_,_,e,_⟩:=h';cases e
 |d::ds,t',v,h,h',lb,lb'=>by
  simp only[RDs] at h
  obtain⟨x,q,rfl,h1,h2⟩:=h
  cases t' with
  |nil=>simp only[RDs] at h';cases h'
  |cons d' ds'=>
   simp only[RDs] at h'
   obtain⟨_,_,e,h1',h2'⟩:=h'
   cases e
   rw[RD.uniq d d' x h1 h1' (fun l hl=>lb l (by simp only[labsL];exact List.mem_append_left _ hl)) fun l hl=>lb' l (by simp only[labsL];exact List.mem_append_left _ hl),
    RDs.uniq ds ds' q h2 h2' (fun l hl=>lb l (by simp only[labsL];exact List.mem_append_right _ hl)) fun l hl=>lb' l (by simp only[labsL];exact List.mem_append_right _ hl)]
end
end
end
end Mi
namespace Mi
open PySem L2 PySem.Spec PyProof.Rows
inductive RF where
 |ok (t:D) (ts:List D) (n:Nat)|ex (d:D) (ts:List D) (n:Nat)|no
noncomputable abbrev FM:=List D->Nat->RF
structure z4R(G:Gx)(ρ:Nat->Addr)(n:Nat)(ts:List D)(vs:List V)(H:Hp)(ρ':Nat->Addr)(n':Nat)(ts':List D)(H':Hp):Prop where
 old: ∀l,l<n->ρ' l=ρ l
 le:n<=n'
 inj: ∀i j,i<n'->j<n'->ρ' i=ρ' j->i=j
 dom: ∀l,l<n'->∃o,H' (ρ' l)=some o
 rd:RDs G ρ' H' ts' vs
 lb: ∀l∈labsL ts',l<n'/\(l<n->l∈labsL ts)
 fr: ∀a o,H a=some o->(∃o',H' a=some o')/\((∀l∈labsL ts,a≠ρ l)->H' a=some o)
 new: ∀l,n<=l->l<n'->H (ρ' l)=none
 kd:KD G.K H'
section
variable{G:Gx}{ρ ρ':Nat->Addr}{H H':Hp}
mutual
theorem zbe: ∀(t:D) (v:V),RD G ρ H t v->∀l∈labs t,∃o,H (ρ l)=some o/\(∀xs,o≠ .tup xs)/\∀u w,o≠ .frz u w
 | .non,v,h,l,hl=>by simp only[labs] at hl;cases hl
 | .bool b,v,h,l,hl=>by simp only[labs] at hl;cases hl
 | .int b,v,h,l,hl=>by simp only[labs] at hl;cases hl
 | .str b,v,h,l,hl=>by simp only[labs] at hl;cases hl
 | .exc b,v,h,l,hl=>by simp only[labs] at hl;cases hl
 | .fn b,v,h,l,hl=>by simp only[labs] at hl;cases hl
 | .tup ds,v,h,l,hl=>by
  simp only[labs,RD] at h hl
  obtain⟨a,xs,_,_,r⟩:=h
  exact labL_mut ds xs r l hl
 | .fdc ks vs,v,h,l,hl=>by
  simp only[labs,RD] at h hl
  obtain⟨a,o,kvs,_,_,_,r⟩:=h
  exact labL_mut vs _ r l hl
 | .ro ds,v,h,l,hl=>by
  simp only[labs,RD] at h hl
  obtain⟨a,xs,_,_,r⟩:=h
  exact labL_mut ds xs r l hl
 | .lst k ds,v,h,l,hl=>by
  simp only[labs,RD] at h hl
  obtain⟨_,xs,s,r⟩:=h
  rcases List.mem_cons.mp hl with rfl|hl
  ·exact⟨_,s,(fun _ q=>nomatch q),(fun _ _ q=>nomatch q)⟩
  ·exact labL_mut ds xs r l hl
 | .dct k ks vs,v,h,l,hl=>by
  simp only[labs,RD] at h hl
  obtain⟨_,⟨kvs,s,s2,r⟩|⟨kvs,s,s2,r⟩⟩:=h
  ·rcases List.mem_cons.mp hl with rfl|hl
   ·exact⟨_,s,(fun _ q=>nomatch q),(fun _ _ q=>nomatch q)⟩
   ·rcases List.mem_append.mp hl with hl|hl
    ·rw[s2] at hl
     obtain⟨d,hd,hl⟩:=z0O hl
     rcases List.mem_cons.mp hd with rfl|hd
     ·simp only[labs] at hl;cases hl
     obtain⟨p,_,rfl⟩:=List.mem_map.mp hd
     obtain⟨kk,_⟩:=p
     cases kk<;>simp only[keyD,labs] at hl<;>cases hl
    ·exact labL_mut vs _ r l hl
  ·rcases List.mem_cons.mp hl with rfl|hl
   ·exact⟨_,s,(fun _ q=>nomatch q),(fun _ _ q=>nomatch q)⟩
   ·rcases List.mem_append.mp hl with hl|hl
    ·rw[s2] at hl
     obtain⟨d,hd,hl⟩:=z0O hl
     obtain⟨p,_,rfl⟩:=List.mem_map.mp hd
     simp only[dkD,labs] at hl
     obtain⟨d,hd,hl⟩:=z0O hl
     obtain⟨kk,_,rfl⟩:=List.mem_map.mp hd
     cases kk<;>simp only[keyD,labs] at hl<;>cases hl
    ·exact labL_mut vs _ r l hl
 | .obj k c ns vs,v,h,l,hl=>by
  simp only[labs,RD] at h hl
  obtain⟨_,C,dx,fs,_,s,_,r⟩:=h
  rcases List.mem_cons.mp hl with rfl|hl
  ·exact⟨_,s,(fun _ q=>nomatch q),(fun _ _ q=>nomatch q)⟩
  ·exact labL_mut vs _ r l hl
theorem labL_mut: ∀(t:List D) (v:List V),RDs G ρ H t v->∀l∈labsL t,∃o,H (ρ l)=some o/\(∀xs,o≠ .tup xs)/\∀u w,o≠ .frz u w
 |[],v,h,l,hl=>by simp only[labsL] at hl;cases hl
 |d::ds,v,h,l,hl=>by
  simp only[labsL,RDs] at h hl
  obtain⟨x,r,_,h1,h2⟩:=h
  rcases List.mem_append.mp hl with hl|hl
  ·exact zbe d x h1 l hl
  ·exact labL_mut ds r h2 l hl
end
theorem z7m{kvs:List (Key×V)}{l:Nat}(hl:l∈labsL (kvs.map fun p=>keyD p.1)):False:=by
 obtain⟨d,hd,hl⟩:=z0O hl
 obtain⟨p,_,rfl⟩:=List.mem_map.mp hd
 obtain⟨kk,_⟩:=p
 cases kk<;>simp only[keyD,labs] at hl<;>cases hl
theorem z5V{kvs:List (List Key×V)}{l:Nat}(hl:l∈labsL (kvs.map fun p=>dkD p.1)):False:=by
 obtain⟨d,hd,hl⟩:=z0O hl
 obtain⟨p,_,rfl⟩:=List.mem_map.mp hd
 simp only[dkD,labs] at hl
 obtain⟨d,hd,hl⟩:=z0O hl
 obtain⟨kk,_,rfl⟩:=List.mem_map.mp hd
 cases kk<;>simp only[keyD,labs] at hl<;>cases hl
mutual
theorem z7n(l:Nat): ∀(t:D) (v:V),RD G ρ H t v->l∈labs t->(findT l t).isSome=true
 | .non,v,h,hl=>by simp only[labs] at hl;cases hl
 | .bool b,v,h,hl=>by simp only[labs] at hl;cases hl
 | .int b,v,h,hl=>by simp only[labs] at hl;cases hl
 | .str b,v,h,hl=>by simp only[labs] at hl;cases hl
 | .exc b,v,h,hl=>by simp only[labs] at hl;cases hl
 | .fn b,v,h,hl=>by simp only[labs] at hl;cases hl
 | .tup ds,v,h,hl=>by
  simp only[labs,RD,findT] at h hl⊢
  obtain⟨a,xs,_,_,r⟩:=h
  exact findL_some l ds xs r hl
 | .fdc ks vs,v,h,hl=>by
  simp only[labs,RD,findT] at h hl⊢
  obtain⟨a,o,kvs,_,_,_,r⟩:=h
  exact findL_some l vs _ r hl
 | .ro ds,v,h,hl=>by
  simp only[labs,RD,findT] at h hl⊢
  obtain⟨a,xs,_,_,r⟩:=h
  exact findL_some l ds xs r hl
 | .lst k ds,v,h,hl=>by
  simp only[labs,RD,findT] at h hl⊢
  obtain⟨_,xs,s,r⟩:=h
  by_cases e:k=l
  ·rw[if_pos e];rfl
  ·rw[if_neg e]
   rcases List.mem_cons.mp hl with q|q
   ·exact absurd q.symm e
   ·exact findL_some l ds xs r q
 | .dct k ks vs,v,h,hl=>by
  simp only[labs,RD,findT] at h hl⊢
  obtain⟨_,⟨kvs,s,s2,r⟩|⟨kvs,s,s2,r⟩⟩:=h
  ·by_cases e:k=l
   ·rw[if_pos e];rfl
   ·rw[if_neg e]
    rcases List.mem_cons.mp hl with q|q
    ·exact absurd q.symm e
    ·rcases List.mem_append.mp q with q|q
     ·rw[s2] at q;exact(z7m q).elim
     ·exact findL_some l vs _ r q
  ·by_cases e:k=l
   ·rw[if_pos e];rfl
   ·rw[if_neg e]
    rcases List.mem_cons.mp hl with q|q
    ·exact absurd q.symm e
    ·rcases List.mem_append.mp q with q|q
     ·rw[s2] at q;exact(z5V q).elim
     ·exact findL_some l vs _ r q
 | .obj k c ns vs,v,h,hl=>by
  simp only[labs,RD,findT] at h hl⊢
  obtain⟨_,C,dx,fs,_,s,_,r⟩:=h
  by_cases e:k=l
  ·rw[if_pos e];rfl
  ·rw[if_neg e]
   rcases List.mem_cons.mp hl with q|q
   ·exact absurd q.symm e
   ·exact findL_some l vs _ r q
theorem findL_some(l:Nat): ∀(t:List D) (v:List V),RDs G ρ H t v->l∈labsL t->(findL l t).isSome=true
 |[],v,h,hl=>by simp only[labsL] at hl;cases hl
 |d::ds,v,h,hl=>by
  simp only[labsL,RDs,findL] at h hl⊢
  obtain⟨x,r,_,h1,h2⟩:=h
  cases e:findT l d with
  |some y=>rfl
  |none=>
   rcases List.mem_append.mp hl with q|q
   ·have:=z7n l d x h1 q
    rw[e] at this;cases this
   ·exact findL_some l ds r h2 q
end
theorem z4R.stays{n n':Nat}{ts ts':List D}{vs:List V}(P:z4R G ρ n ts vs H ρ' n' ts' H')(r:RDs G ρ H ts vs):z1c H H':=by
 refine⟨fun b xs e=>(P.fr b _ e).2 fun l hl z=> ?_,fun b o u e=>(P.fr b _ e).2 fun l hl z=> ?_⟩
 ·obtain⟨o,q,q1,_⟩:=labL_mut ts vs r l hl
  rw[<-z,e] at q;cases q;exact q1 _ rfl
 ·obtain⟨o,q,_,q1⟩:=labL_mut ts vs r l hl
  rw[<-z,e] at q;cases q;exact q1 _ _ rfl
section
variable(k:KD G.K H){n:Nat}(inj: ∀i j,i<n->j<n->ρ i=ρ j->i=j){ts:List D}{vs:List V}(r:RDs G ρ H ts vs)(lb: ∀l∈labsL ts,l<n)
include k inj r lb
mutual
theorem z4t: ∀(t:D) (v:V),RD G ρ H t v->(∀l∈labs t,l<n)->rp (fun l=>findL l ts) t=t
 | .non,v,h,hl=>rfl
 | .bool b,v,h,hl=>rfl
 | .int b,v,h,hl=>rfl
 | .str b,v,h,hl=>rfl
 | .exc b,v,h,hl=>rfl
 | .fn b,v,h,hl=>rfl
 | .tup ds,v,h,hl=>by
  simp only[labs,RD,rp] at h hl⊢
  obtain⟨a,xs,_,_,r1⟩:=h
  rw[rpL_find_id ds xs r1 hl]
 | .fdc ks vs,v,h,hl=>by
  simp only[labs,RD,rp] at h hl⊢
  obtain⟨a,o,kvs,_,_,_,r1⟩:=h
  rw[rpL_find_id vs _ r1 hl]
 | .ro ds,v,h,hl=>by
  simp only[labs,RD,rp] at h hl⊢
  obtain⟨a,xs,_,_,r1⟩:=h
  rw[rpL_find_id ds xs r1 hl]
 | .lst l ds,v,h,hl=>by
  simp only[rp]
  cases e:findL l ts with
  |some d=>
   dsimp only
   obtain⟨q1,q2⟩:=findL_rd l ts vs d r e
   have h':=h
   simp only[RD] at h'
   obtain⟨rfl,_⟩:=h'
   exact RD.uniq k inj _ _ _ q1 h (fun j hj=>lb j (q2 j hj)) hl
  |none=>
   dsimp only
   simp only[labs,RD] at h hl
   obtain⟨_,xs,s,r1⟩:=h
   rw[rpL_find_id ds xs r1 fun j hj=>hl j (List.mem_cons_of_mem _ hj)]
 | .dct l ks vs',v,h,hl=>by
  simp only[rp]
  cases e:findL l ts with
  |some d=>
   dsimp only
   obtain⟨q1,q2⟩:=findL_rd l ts vs d r e
   have h':=h
   simp only[RD] at h'
   obtain⟨rfl,_⟩:=h'
   exact RD.uniq k inj _ _ _ q1 h (fun j hj=>lb j (q2 j hj)) hl
  |none=>
   dsimp only
   simp only[labs,RD] at h hl
   obtain⟨_,⟨kvs,s,s2,r1⟩|⟨kvs,s,s2,r1⟩⟩:=h
   ·rw[rpL_find_id vs' _ r1 fun j hj=>hl j (List.mem_cons_of_mem _ (List.mem_append_right _ hj))]
   ·rw[rpL_find_id vs' _ r1 fun j hj=>hl j (List.mem_cons_of_mem _ (List.mem_append_right _ hj))]
 | .obj l c ns vs',v,h,hl=>by
  simp only[rp]
  cases e:findL l ts with
  |some d=>
   dsimp only
   obtain⟨q1,q2⟩:=findL_rd l ts vs d r e
   have h':=h
   simp only[RD] at h'
   obtain⟨rfl,_⟩:=h'
   exact RD.uniq k inj _ _ _ q1 h (fun j hj=>lb j (q2 j hj)) hl
  |none=>
   dsimp only
   simp only[labs,RD] at h hl
   obtain⟨_,C,dx,fs,_,s,_,r1⟩:=h
   rw[rpL_find_id vs' _ r1 fun j hj=>hl j (List.mem_cons_of_mem _ hj)]
theorem rpL_find_id: ∀(t:List D) (v:List V),RDs G ρ H t v->(∀l∈labsL t,l<n)->rpL (fun l=>findL l ts) t=t
 |[],v,h,hl=>rfl
 |d::ds,v,h,hl=>by
  simp only[labsL,RDs,rpL] at h hl⊢
  obtain⟨x,q,_,h1,h2⟩:=h
  rw[z4t d x h1 fun j hj=>hl j (List.mem_append_left _ hj),rpL_find_id ds q h2 fun j hj=>hl j (List.mem_append_right _ hj)]
end
theorem z1M: ∀(t:List (Option D)) (v:List (Option V)),Sl G ρ H t v->(∀l∈z06 t,l<n)->rpO (fun l=>findL l ts) t=t
 |[],v,h,hl=>rfl
 |none::r',v,h,hl=>by
  simp only[z06,Sl,rpO] at h hl⊢
  obtain⟨o,q,_,h⟩:=h
  rw[z1M r' q h hl]
 |some d::ds,v,h,hl=>by
  simp only[z06,Sl,rpO] at h hl⊢
  obtain⟨x,q,_,h1,h2⟩:=h
  rw[z4t k inj r lb d x h1 fun j hj=>hl j (List.mem_append_left _ hj),z1M ds q h2 fun j hj=>hl j (List.mem_append_right _ hj)]
end
variable{F:Fy}{σv tv:List (Option V)}{s:Stt}{np:Nat}
theorem MR.call{ts ts':List D}{vs:List V}{n':Nat}(M:MR G F.toFx ρ H σv tv s)(r:RDs G ρ H ts vs)(lb:LB F.toFx ρ s.n (labsL ts))(P:z4R G ρ s.n ts vs H ρ' n' ts' H')
 (hc: ∀l∈z0H s,l∈labsL ts->(findL l ts').isSome=true):MR G F.toFx ρ' H' σv tv {σ:=rpO (fun l=>findL l ts') s.σ,tm:=rpO (fun l=>findL l ts') s.tm,n:=n'}:=by
 have st:=P.stays r
 have step: ∀l∈z0H s,ρ' l=ρ l/\(match findL l ts' with|some d=>RD G ρ' H' d (.ref (ρ l))|none=> ∀o,H (ρ l)=some o->H' (ρ l)=some o):=fun l hl=>by
  have ol:=P.old l (M.lab l hl)
  refine⟨ol, ?_⟩
  cases e:findL l ts' with
  |some d=>
   have q:=(findL_rd l ts' vs d P.rd e).1
   rw[ol] at q;exact q
  |none=>
   intro o e1
   refine(P.fr _ _ e1).2 fun j hj z=> ?_
   have:l=j:=M.inj l j (M.lab l hl) (lb j hj).1 z
   subst this
   have:=hc l hl hj
   rw[e] at this;cases this
 have hn: ∀l,l<n'->l<s.n\/H (ρ' l)=none:=fun l hl=>by
  by_cases h:l<s.n
  ·exact .inl h
  ·exact .inr (P.new l (Nat.not_lt.mp h) hl)
 have hlab: ∀(xs:List (Option D)),(∀l∈z06 xs,l∈z0H s)->∀l∈z06 (rpO (fun l=>findL l ts') xs),l<n'/\(l<s.n->l∈z0H s\/l∈labsL ts):=fun xs hx l h=>by
  rcases z3r l xs h with q|⟨k,d,q1,q2,q3⟩
  ·exact⟨Nat.lt_of_lt_of_le (M.lab l (hx l q)) P.le,fun _=> .inl (hx l q)⟩
  ·obtain⟨b1,b2⟩:=P.lb l ((findL_rd k ts' vs d P.rd q2).2 l q3)
   exact⟨b1,fun z=> .inr (b2 z)⟩
 have all: ∀l∈z0H {σ:=rpO (fun l=>findL l ts') s.σ,tm:=rpO (fun l=>findL l ts') s.tm,n:=n'},l<n'/\(l<s.n->l∈z0H s\/l∈labsL ts):=fun l h=>by
  rcases List.mem_append.mp h with h|h
  ·exact hlab s.σ (fun l q=>List.mem_append_left _ q) l h
  ·exact hlab s.tm (fun l q=>List.mem_append_right _ q) l h
 refine⟨Sl.rp st M.sl fun l hl=>step l (List.mem_append_left _ hl),Sl.rp st M.tm fun l hl=>step l (List.mem_append_right _ hl),P.inj,P.dom,fun l h=>(all l h).1,fun l h=> ?_,fun a o e=> ?_,P.kd,fun l hl z=> ?_,⟨Nat.le_trans M.bas.1 P.le,fun l hl=> ?_⟩⟩
 ·rcases hn l (all l h).1 with q|q
  ·rw[P.old l q]
   rcases(all l h).2 q with z|z
   ·exact M.own l z
   ·exact(lb l z).2
  ·exact .inr (M.fresh0 q)
 ·obtain⟨⟨o1,e1⟩,e2⟩:=M.frm a o e
  obtain⟨e3,e4⟩:=P.fr a o1 e1
  refine⟨e3,fun nA=> ?_⟩
  have e5:=e2 nA
  rw[e1] at e5;cases e5
  refine e4 fun l hl z=> ?_
  rcases(lb l hl).2 with q|q
  ·exact nA (z▸q)
  ·rw[<-z,e] at q;cases q
 ·rcases hn l hl with q|q
  ·rw[P.old l q] at z;exact M.frb l q z
  ·obtain⟨⟨o,e⟩,_⟩:=F.zA _ z
   obtain⟨⟨o',e'⟩,_⟩:=M.frm _ o e
   rw[q] at e';cases e'
 ·rw[P.old l (Nat.lt_of_lt_of_le hl M.bas.1)];exact M.bas.2 l hl
theorem MR.call0{ts:List D}{vs:List V}{n':Nat}(M:MR G F.toFx ρ H σv tv s)(r:RDs G ρ H ts vs)(lb:LB F.toFx ρ s.n (labsL ts))(P:z4R G ρ s.n ts vs H ρ' n' ts H'):MR G F.toFx ρ' H' σv tv {s with n:=n'}:=by
 have hf: ∀l∈labsL ts,(findL l ts).isSome=true:=fun l hl=>findL_some l ts vs r hl
 have M2:=M.call r lb P fun l _ hl=>hf l hl
 rw[z1M M.kd M.inj r (fun l hl=>(lb l hl).1) s.σ σv M.sl fun l hl=>M.lab l (List.mem_append_left _ hl),z1M M.kd M.inj r (fun l hl=>(lb l hl).1) s.tm tv M.tm fun l hl=>M.lab l (List.mem_append_right _ hl)] at M2
 exact M2
open Classical in
noncomputable def z2a(r:RF)(ts:List D):M D:=fun s=>match r with
 | .ok t ts' n'=>if ts'=ts then .ok t {s with n:=n'} else
  if ∀l∈z0H s,l∈labsL ts->(findL l ts').isSome=true then .ok t {σ:=rpO (fun l=>findL l ts') s.σ,tm:=rpO (fun l=>findL l ts') s.tm,n:=n'} else .no
 |_=> .no
noncomputable def z0d(f:FM)(ms:List (M D)):M D:=bd (z02 ms) fun ts s=>z2a (f ts s.n) ts s
noncomputable def spM(G:Gx)(np:Nat)(f:FM):Sp:=fun vs H Q _=>vs.length=np/\∃ρ n ts,RDs G ρ H ts vs/\(∀i j,i<n->j<n->ρ i=ρ j->i=j)/\(∀l,l<n->∃o,H (ρ l)=some o)/\(∀l∈labsL ts,l<n)/\KD G.K H/\match f ts n with
 | .ok t ts' n'=> ∀ρ' v H',z4R G ρ n ts vs H ρ' n' ts' H'->RD G ρ' H' t v->(∀l∈labs t,l<n'/\(l<n->l∈labsL ts))->Q v H'
 |_=>False
theorem z2N{ts:List D}{vs:List V}{f:FM}{Q:VK}{E:XK}(hl:vs.length=np)(M:MRL G F.toFx ρ H σv tv s ts vs)(W:wM G F σv tv (z2a (f ts s.n) ts s) Q):spM G np f vs H Q E:=by
 refine⟨hl,ρ,s.n,ts,M.rd,M.m.inj,M.m.dom,fun l h=>(M.lb l h).1,M.m.kd, ?_⟩
 cases e:f ts s.n with
 |no=>rw[e] at W;exact W
 |ex d ts' n'=>rw[e] at W;exact W
 |ok t ts' n'=>
  rw[e] at W
  intro ρ' v H' P rd lbt
  have own: ∀l∈labs t,F.A0 (ρ' l)\/F.H0 (ρ' l)=none:=fun l h=>by
   obtain⟨b1,b2⟩:=lbt l h
   by_cases hn:l<s.n
   ·rw[P.old l hn];exact(M.lb l (b2 hn)).2
   ·exact .inr (M.m.fresh0 (P.new l (Nat.not_lt.mp hn) b1))
  unfold z2a at W
  dsimp only at W
  split at W
  ·rename_i et
   subst et
   exact W.out (M.m.call0 M.rd M.lb P) rd fun l h=>⟨(lbt l h).1,own l h⟩
  ·split at W
   ·rename_i hc
    exact W.out (M.m.call M.rd M.lb P hc) rd fun l h=>⟨(lbt l h).1,own l h⟩
   ·exact False.elim W
theorem z2b: ∀(ms:List (M D)) (s:Stt) (ts:List D) (s':Stt),z02 ms s= .ok ts s'->ts.length=ms.length:=by
 intro ms
 induction ms with
 |nil=>intro s ts s' e;simp only[z02,rt,Res.ok.injEq] at e;rw[<-e.1];rfl
 |cons m ms ih=>
  intro s ts s' e
  simp only[z02,bd,psh] at e
  cases e1:m s with
  |ok t s1=>
   simp only[e1] at e
   cases e2:z02 ms (s1.psh t) with
   |ok ys s2=>
    simp only[e2,pop] at e
    cases e3:s2.tm with
    |nil=>simp only[e3] at e;cases e
    |cons o r=>
     cases o with
     |none=>simp only[e3] at e;cases e
     |some t'=>
      simp only[e3,rt,Res.ok.injEq] at e
      rw[<-e.1,List.length_cons,List.length_cons,ih _ _ _ e2]
   |ex d s2=>simp only[e2] at e;cases e
   |no=>simp only[e2] at e;cases e
  |ex d s1=>simp only[e1] at e;cases e
  |no=>simp only[e1] at e;cases e
theorem se_call{X:Cx}{e:Expr}{es:List Expr}{pos p:Pos}{CX:CXT}{k:Nat}{fa:Addr}{fd:FuncData}{ps:List Str}{x:Str}{E:XK}{f:FM}{ms:List (M D)}(hk:X.K=G.K)(Fn:FnOk X.prog X.w X.K X.mg X.base CX k fa fd ps (spM G ps.length f))(hr:Room k X.A)(hg:Gl X x)(hm:X.mg x=some (.ref fa))(hkp:W.keepIn X.K (.ref fa)=true)(hb:z0U X.K fd ps [])(hx:z0G CX X E)
 (ha:SA X G F (e::es) (z02 ms)) (hln:ms.length=ps.length) (hdb:(x==("__debug__" :Str))=false:=by decide) (he:starEach (e::es) X.env=(false,eval e X.env)::starEach es X.env:=by rfl) (hpl:(backTo pos (starEach es X.env)).any (·.1)=false:=by rfl):
 SE X G F (.Call (.Name x p) (e::es) [] pos) (z0d f ms):=by
 refine PE.imp0 (zaM Fn hr hg hm hkp hb .nil hx ha hdb he hpl) fun σ H Q ⟨tv,hs,ρ,s,M,W⟩=>⟨tv,hs,ρ,s,M, ?_⟩
 unfold z0d bd at W
 cases e1:z02 ms s with
 |ex d s1=>rw[e1] at W;exact W
 |no=>rw[e1] at W;exact W
 |ok ts s1=>
  rw[e1] at W
  intro ρ1 vs H1 M1
  rw[List.append_nil]
  exact z2N (by rw[<-M1.rd.length,z2b ms s ts s1 e1,hln]) M1 W
noncomputable def runF(nl:Nat)(mb:MS):FM:=fun ts n=>match mb {σ:=ts.map some++List.replicate (nl -ts.length) none,tm:=ts.map some,n:=n} with
 | .nx s'=>match z03 s'.tm with|some ts'=> .ok .non ts' s'.n|none=> .no
 | .rt t s'=>match z03 s'.tm with|some ts'=> .ok t ts' s'.n|none=> .no
 | .ex d s'=>match z03 s'.tm with|some ts'=> .ex d ts' s'.n|none=> .no
 |_=> .no
noncomputable def z5W(G:Gx)(ρ:Nat->Addr)(n:Nat)(ts:List D)(vs:List V)(H:Hp)(lb: ∀l∈labsL ts,l<n)(dom: ∀l,l<n->∃o,H (ρ l)=some o):Fy where
 A0:=fun a=> ∃l∈labsL ts,a=ρ l
 H0:=H
 Z:=fun a=>(∃o,H a=some o)/\∀l,l<n->a≠ρ l
 zA:=fun a z=>⟨z.1,fun⟨l,hl,e⟩=>z.2 l (lb l hl) e⟩
 aH:=fun a ⟨l,hl,e⟩=>e▸dom l (lb l hl)
 n0:=n
 ρ0:=ρ
 tv0:=vs.map some
 xw:=fun _ _=>False
theorem RDs.sl: ∀{ts:List D} {vs:List V},RDs G ρ H ts vs->Sl G ρ H (ts.map some) (vs.map some)/\z06 (ts.map some)=labsL ts
 |[],vs,h=>by simp only[RDs] at h;subst h;simp[Sl,z06,labsL]
 |d::ds,vs,h=>by
  simp only[RDs] at h
  obtain⟨x,q,rfl,h1,h2⟩:=h
  obtain⟨q1,q2⟩:=RDs.sl h2
  refine⟨?_,by simp only[List.map_cons,z06,labsL,q2]⟩
  simp only[List.map_cons,Sl]
  exact⟨_,_,rfl,h1,q1⟩
theorem z1N{ts ts':List D}{vs:List V}{n:Nat}{lb: ∀l∈labsL ts,l<n}{dom: ∀l,l<n->∃o,H (ρ l)=some o}(inj: ∀i j,i<n->j<n->ρ i=ρ j->i=j)(M:MR G (z5W G ρ n ts vs H lb dom).toFx ρ' H' σv (vs.map some) s)(e:z03 s.tm=some ts'):
 z4R G ρ n ts vs H ρ' s.n ts' H'/\∀l,l<s.n->((z5W G ρ n ts vs H lb dom).A0 (ρ' l)\/H (ρ' l)=none)->l<n->l∈labsL ts:=by
 have own: ∀l,l<s.n->((z5W G ρ n ts vs H lb dom).A0 (ρ' l)\/H (ρ' l)=none)->l<n->l∈labsL ts:=fun l hl q hn=>by
  have ol:=M.bas.2 l hn
  have ol:ρ' l=ρ l:=ol
  rcases q with⟨j,hj,q⟩|q
  ·rw[ol] at q
   rw[inj l j hn (lb j hj) q];exact hj
  ·rw[ol] at q
   obtain⟨o,z⟩:=dom l hn
   rw[z] at q;cases q
 obtain⟨r1,r2⟩:=Sl.all M.tm e
 refine⟨⟨M.bas.2,M.bas.1,M.inj,M.dom,r1,fun l hl=> ?_,fun a o e1=> ?_,fun l h1 h2=> ?_,M.kd⟩,own⟩
 ·rw[r2] at hl
  have m:l∈z0H s:=List.mem_append_right _ hl
  exact⟨M.lab l m,own l (M.lab l m) (M.own l m)⟩
 ·obtain⟨q1,q2⟩:=M.frm a o e1
  exact⟨q1,fun z=>q2 fun⟨l,hl,e⟩=>z l hl e⟩
 ·cases q:H (ρ' l) with
  |none=>rfl
  |some o=>
   refine absurd ⟨⟨o,q⟩,fun j hj e=> ?_⟩ (M.frb l h2)
   have oj:ρ' j=ρ j:=M.bas.2 j hj
   have:=M.inj l j h2 (Nat.lt_of_lt_of_le hj M.bas.1) (e.trans oj.symm)
   lia
theorem fn_M{P:Program}{w:World}{K:W.Frag}{mg:Str->Option Value}{base:Heap}{x qual:Str}{st:Stmt}{fa:Addr}{fd:FuncData}{N ps:List Str}{k:Nat}{mb:MS}(Fn:Fun K x qual st fa fd)(S:z05 N ps (z00 st))(hG:G.K=K)
 (hb: ∀(cdv:Value) (A:Around) (outer:List Env) (s:Shared) (H:Hp) (E:XK) (F:Fy),Room k (A.deeper (envOfC qual (z00 st) s.heap.objs.size fa cdv))->SSs (cxOf CX0 P w K mg base N qual (z00 st) fa cdv A outer s H E).nox G F (z0p st) mb):
 FnOk P w K mg base CX0 (k+1) fa fd ps (spM G ps.length (runF N.length mb)):=by
 refine Fn.ok S (fun vs H Q E h=>h.1) fun cdv A outer s H vs Q E hr h=> ?_
 obtain⟨hl,ρ,n,ts,r,inj,dom,lb,kd,W⟩:=h
 refine⟨_,hb cdv A outer s H E (z5W G ρ n ts vs H lb dom) hr,vs.map some,List.suffix_refl _,ρ,{σ:=ts.map some++List.replicate (N.length -ts.length) none,tm:=ts.map some,n:=n}, ?_, ?_⟩
 ·obtain⟨r1,r2⟩:=RDs.sl r
  have hlen:=r.length
  have sub: ∀l∈z0H {σ:=ts.map some++List.replicate (N.length -ts.length) none,tm:=ts.map some,n:=n},l∈labsL ts:=fun l h=>by
   rcases List.mem_append.mp h with h|h
   ·have h:l∈z06 (ts.map some++List.replicate (N.length -ts.length) none):=h
    rw[z0c] at h
    rcases List.mem_append.mp h with h|h
    ·rw[<-r2];exact h
    ·exact absurd h (z29 _)
   ·rw[<-r2];exact h
  refine⟨?_,r1,inj,dom,fun l h=>lb l (sub l h),fun l h=> .inl ⟨l,sub l h,rfl⟩,fun a o e=>⟨⟨o,e⟩,fun _=>e⟩,kd,fun l hl z=>z.2 l hl rfl,⟨Nat.le_refl _,fun l _=>rfl⟩⟩
  show Sl G ρ H _ (vs.map some++List.replicate (N.length -vs.length) none)
  rw[<-hlen]
  exact r1.append (Sl.none_map _)
 ·unfold runF at W
  cases e:mb {σ:=ts.map some++List.replicate (N.length -ts.length) none,tm:=ts.map some,n:=n} with
  |nx s'=>
   simp only[e] at W
   cases ea:z03 s'.tm with
   |none=>simp only[ea] at W
   |some ts'=>
    simp only[ea] at W
    intro ρ' σv' H' M
    obtain⟨P,_⟩:=z1N inj M ea
    exact W ρ' .non H' P (by simp only[RD]) fun l h=>by simp[labs] at h
  |rt t s'=>
   simp only[e] at W
   cases ea:z03 s'.tm with
   |none=>simp only[ea] at W
   |some ts'=>
    simp only[ea] at W
    intro ρ' σv' v H' M
    obtain⟨P,own⟩:=z1N inj M.m ea
    exact W ρ' v H' P M.rd1 fun l h=>⟨(M.lb1 l h).1,own l (M.lb1 l h).1 (M.lb1 l h).2⟩
  |bk s'=>simp only[e] at W
  |ct s'=>simp only[e] at W
  |ex d s'=>
   simp only[e] at W
   cases ea:z03 s'.tm with
   |none=>simp only[ea] at W
   |some ts'=>simp only[ea] at W
  |no=>simp only[e] at W
end
mutual
noncomputable def sz:D->Nat
 | .tup ds=>szL ds+1
 | .ro ds=>szL ds+1
 | .fdc _ vs=>szL vs+1
 | .lst _ ds=>szL ds+1
 | .dct _ _ vs=>szL vs+1
 | .obj _ _ _ vs=>szL vs+1
 | .non=>1| .bool _=>1| .int _=>1| .str _=>1| .exc _=>1| .fn _=>1
noncomputable def szL:List D->Nat
 |[]=>0
 |d::ds=>sz d+szL ds
end
mutual
theorem z9u(l:Nat): ∀(t d:D),findT l t=some d->sz d<=sz t
 | .non,d,e=>by simp only[findT] at e;cases e
 | .bool b,d,e=>by simp only[findT] at e;cases e
 | .int b,d,e=>by simp only[findT] at e;cases e
 | .str b,d,e=>by simp only[findT] at e;cases e
 | .exc b,d,e=>by simp only[findT] at e;cases e
 | .fn b,d,e=>by simp only[findT] at e;cases e
 | .tup ds,d,e=>by simp only[findT,sz] at e⊢;have:=findL_sz l ds d e;lia
 | .ro ds,d,e=>by simp only[findT,sz] at e⊢;have:=findL_sz l ds d e;lia
 | .fdc ks vs,d,e=>by simp only[findT,sz] at e⊢;have:=findL_sz l vs d e;lia
 | .lst k ds,d,e=>by
  simp only[findT] at e
  by_cases h:k=l
  ·rw[if_pos h] at e;cases e;exact Nat.le_refl _
  ·rw[if_neg h] at e;simp only[sz];have:=findL_sz l ds d e;lia
 | .dct k ks vs,d,e=>by
  simp only[findT] at e
  by_cases h:k=l
  ·rw[if_pos h] at e;cases e;exact Nat.le_refl _
  ·rw[if_neg h] at e;simp only[sz];have:=findL_sz l vs d e;lia
 | .obj k c ns vs,d,e=>by
  simp only[findT] at e
  by_cases h:k=l
  ·rw[if_pos h] at e;cases e;exact Nat.le_refl _
  ·rw[if_neg h] at e;simp only[sz];have:=findL_sz l vs d e;lia
theorem findL_sz(l:Nat): ∀(t:List D) (d:D),findL l t=some d->sz d<=szL t
 |[],d,e=>by simp only[findL] at e;cases e
 |t::ts,d,e=>by
  simp only[findL] at e
  simp only[szL]
  cases e1:findT l t with
  |some y=>rw[e1] at e;cases e;have:=z9u l t _ e1;lia
  |none=>rw[e1] at e;have:=findL_sz l ts d e;lia
end
section
variable{G:Gx}{F:Fy}{ρ:Nat->Addr}{H:Hp}{σv tv:List (Option V)}{s:Stt}{t:D}{ts ds es:List D}{v:V}{vs xs ys:List V}{l:Nat}{Q:VK}
theorem z3I(M:MR G F.toFx ρ H σv tv s)(h:RD G ρ H (.lst l ds) v)(lb: ∀j∈labs (.lst l ds),j<s.n):l∉labsL ds:=fun hl=>by
 have h0:=h
 simp only[RD] at h0
 obtain⟨rfl,xs,q,r⟩:=h0
 have:=findL_some l ds xs r hl
 cases e:findL l ds with
 |none=>rw[e] at this;cases this
 |some d=>
  obtain⟨q1,q2⟩:=findL_rd l ds xs d r e
  have e2:=RD.uniq M.kd M.inj _ _ _ q1 h (fun j hj=>lb j (by simp only[labs];exact List.mem_cons_of_mem _ (q2 j hj))) lb
  have e3:=findL_sz l ds d e
  rw[e2] at e3
  simp only[sz] at e3
  lia
theorem MR.put2{o:HO}{d:D}(M:MR G F.toFx ρ H σv tv s)(ln:l<s.n)(ow:F.A0 (ρ l)\/F.H0 (ρ l)=none)(ts:z1c H (upd H (ρ l) o))(k:KD G.K (upd H (ρ l) o))(hd:RD G ρ (upd H (ρ l) o) d (.ref (ρ l)))(hb:LB F.toFx ρ s.n (labs d)):
 MR G F.toFx ρ (upd H (ρ l) o) σv tv (s.put l d):=by
 have step: ∀k,k∈z0H s->ρ k=ρ k/\(match (if k=l then some d else none:Option D) with|some d=>RD G ρ (upd H (ρ l) o) d (.ref (ρ k))|none=> ∀o',H (ρ k)=some o'->upd H (ρ l) o (ρ k)=some o'):=fun k hk=>by
  refine⟨rfl, ?_⟩
  by_cases e:k=l
  ·rw[if_pos e];subst e;exact hd
  ·rw[if_neg e]
   intro o' q
   rw[z04 (fun z=>e (M.inj k l (M.lab k hk) ln z))]
   exact q
 have sub: ∀(xs:List (Option D)) (j:Nat),j∈z06 (rpO (fun k=>if k=l then some d else none) xs)->(∀i∈z06 xs,i∈z0H s)->j<s.n/\(F.A0 (ρ j)\/F.H0 (ρ j)=none):=fun xs j h hx=>by
  rcases z3r j xs h with q|⟨k,d',q1,q2,q3⟩
  ·exact⟨M.lab j (hx j q),M.own j (hx j q)⟩
  ·by_cases e:k=l
   ·rw[if_pos e] at q2;cases q2;exact hb j q3
   ·rw[if_neg e] at q2;cases q2
 have all: ∀j∈z0H (s.put l d),j<s.n/\(F.A0 (ρ j)\/F.H0 (ρ j)=none):=fun j h=>by
  rcases List.mem_append.mp h with h|h
  ·exact sub s.σ j h fun i hi=>List.mem_append_left _ hi
  ·exact sub s.tm j h fun i hi=>List.mem_append_right _ hi
 refine⟨Sl.rp ts M.sl fun k hk=>step k (List.mem_append_left _ hk),Sl.rp ts M.tm fun k hk=>step k (List.mem_append_right _ hk),M.inj,fun k hk=> ?_,fun j h=>(all j h).1,fun j h=>(all j h).2,fun a o' e=> ?_,k,M.frb,M.bas⟩
 ·by_cases e:ρ k=ρ l
  ·rw[e];exact⟨o,z09⟩
  ·rw[z04 e];exact M.dom k hk
 ·obtain⟨⟨o1,e1⟩,e2⟩:=M.frm a o' e
  by_cases ea:a=ρ l
  ·subst ea
   refine⟨⟨o,z09⟩,fun n=> ?_⟩
   rcases ow with q|q
   ·exact absurd q n
   ·rw[e] at q;cases q
  ·rw[z04 ea]
   exact⟨⟨o1,e1⟩,e2⟩
theorem zab{o o':HO}{a:Addr}(k:KD G.K H)(e:H a=some o):KD G.K (upd H a o'):=fun b ob q=>by
 by_cases h:b=a
 ·subst h;rw[k _ _ q] at e;cases e
 ·rw[z04 h];exact k _ _ q
theorem z5A{o':HO}{a:Addr}{xs:List V}(e:H a=some (.lst xs)):z1c H (upd H a o'):=
 ⟨fun b ys q=>by rw[z04 (z6X q e (by intro z;cases z))];exact q,fun b o u q=>by rw[z04 (z6X q e (by intro z;cases z))];exact q⟩
theorem RDs.upd{o:HO}{a:Addr}(st:z1c H (upd H (ρ l) o))(inj: ∀i j,i<s.n->j<s.n->ρ i=ρ j->i=j)(ln:l<s.n)(r:RDs G ρ H ds xs)(lb: ∀j∈labsL ds,j<s.n/\j≠l):RDs G ρ (L2.upd H (ρ l) o) ds xs:=
 RDs.stay st ds xs r fun j hj=>⟨rfl,fun o' e=>by rw[z04 (fun z=>(lb j hj).2 (inj j l (lb j hj).1 ln z))];exact e⟩
theorem MR.putL(M:MR G F.toFx ρ H σv tv s)(hl:H (ρ l)=some (.lst xs))(ln:l<s.n)(ow:F.A0 (ρ l)\/F.H0 (ρ l)=none)(r:RDs G ρ H es ys)(lb:LB F.toFx ρ s.n (labsL es))(ne:l∉labsL es):
 MR G F.toFx ρ (upd H (ρ l) (.lst ys)) σv tv (s.put l (.lst l es)):=by
 refine M.put2 ln ow (z5A hl) (zab M.kd hl) ?_ fun j hj=> ?_
 ·simp only[RD]
  exact⟨trivial,ys,z09,RDs.upd (a:=0) (z5A hl) M.inj ln r fun j hj=>⟨(lb j hj).1,fun z=>ne (z▸hj)⟩⟩
 ·simp only[labs] at hj
  rcases List.mem_cons.mp hj with q|q
  ·rw[q];exact⟨ln,ow⟩
  ·exact lb j q
end
noncomputable def appD:D->List D->M D
 | .lst l ds,[y]=>fun s=>if ds.length<sizeLine/\l∉labs y then .ok .non (s.put l (.lst l (ds++[y]))) else .no
 |_,_=>fl
noncomputable def extD:D->List D->M D
 | .lst l ds,[y]=>fun s=>match seqD y with
  |some es=>if ds.length+es.length<=sizeLine/\l∉labsL es then .ok .non (s.put l (.lst l (ds++es))) else .no
  |none=> .no
 |_,_=>fl
noncomputable def revD:D->List D->M D
 | .lst l ds,[]=>fun s=> .ok .non (s.put l (.lst l ds.reverse))
 |_,_=>fl
noncomputable def isL(x:D):M Unit:=fun s=>match lstD x with|some _=> .ok () s|none=> .no
noncomputable def z0X(mo:M D)(ms:List (M D))(g:D->List D->M D):M D:=bd mo fun x=>bd (isL x) fun _=>bd (psh x) fun _=>bd (z02 ms) fun ys=>bd pop fun x'=>g x' ys
section
variable{X:Cx}{G:Gx}{F:Fy}{e o:Expr}{es:List Expr}{apos cpos:Pos}
noncomputable def MtOK(G:Gx)(F:Fy)(r:V->List V->Hp->VK->Prop)(g:D->List D->M D):Prop:= ∀ρ s t ts v vs H σv tv Q,MRL G F.toFx ρ H σv tv s (t::ts) (v::vs)->wM G F σv tv (g t ts s) Q->r v vs H (fun w H'=>KD G.K H'->Q w H')
theorem MRL.hd{ρ:Nat->Addr}{H:Hp}{σv tv:List (Option V)}{s:Stt}{t:D}{ts:List D}{v:V}{vs:List V}(M:MRL G F.toFx ρ H σv tv s (t::ts) (v::vs)):RD G ρ H t v/\RDs G ρ H ts vs/\LB F.toFx ρ s.n (labs t)/\LB F.toFx ρ s.n (labsL ts):=by
 have h:=M.rd
 simp only[RDs] at h
 obtain⟨_,_,e,h1,h2⟩:=h
 cases e
 exact⟨h1,h2,fun l h=>M.lb l (by simp only[labsL];exact List.mem_append_left _ h),fun l h=>M.lb l (by simp only[labsL];exact List.mem_append_right _ h)⟩
theorem zdc:MtOK G F z7U appD:=by
 intro ρ s t ts v vs H σv tv Q M W
 obtain⟨h1,h2,b1,b2⟩:=M.hd
 unfold appD at W
 split at W
 ·rename_i l ds y
  split at W
  ·rename_i hc
   have h1':=h1
   simp only[RD] at h1
   obtain⟨rfl,xs,hx,r⟩:=h1
   simp only[RDs] at h2
   obtain⟨u,q,rfl,h2,rfl⟩:=h2
   have ns:=z3I M.m h1' fun j hj=>(b1 j hj).1
   have bl:=b1 l (by simp only[labs];exact List.mem_cons_self ..)
   refine⟨_,xs,u,rfl,rfl,hx,by rw[<-r.length];exact hc.1,fun _=>W.out (M.m.putL hx bl.1 bl.2 (r.append (RDs.one h2)) ?_ ?_) (by simp only[RD]) fun l h=>by simp[labs] at h⟩
   ·intro j hj
    rw[z0u] at hj
    rcases List.mem_append.mp hj with q|q
    ·exact b1 j (by simp only[labs];exact List.mem_cons_of_mem _ q)
    ·exact b2 j q
   ·intro hj
    rw[z0u] at hj
    rcases List.mem_append.mp hj with q|q
    ·exact ns q
    ·simp only[labsL,List.append_nil] at q;exact hc.2 q
  ·exact False.elim W
 ·exact wfl W
theorem zdd:MtOK G F z6n revD:=by
 intro ρ s t ts v vs H σv tv Q M W
 obtain⟨h1,h2,b1,b2⟩:=M.hd
 unfold revD at W
 split at W
 ·rename_i l ds
  have h1':=h1
  simp only[RD] at h1
  obtain⟨rfl,xs,hx,r⟩:=h1
  simp only[RDs] at h2
  subst h2
  have ns:=z3I M.m h1' fun j hj=>(b1 j hj).1
  have bl:=b1 l (by simp only[labs];exact List.mem_cons_self ..)
  have mm: ∀j,j∈labsL ds.reverse->j∈labsL ds:=fun j hj=>by
   obtain⟨d,h1,h2⟩:=z0O hj
   exact labsL_mem (List.mem_reverse.mp h1) j h2
  exact⟨_,xs,rfl,rfl,hx,fun _=>W.out (M.m.putL hx bl.1 bl.2 r.reverse (fun j hj=>b1 j (by simp only[labs];exact List.mem_cons_of_mem _ (mm j hj))) fun hj=>ns (mm l hj)) (by simp only[RD]) fun l h=>by simp[labs] at h⟩
 ·exact wfl W
theorem zde:MtOK G F (zcO G.K) extD:=by
 intro ρ s t ts v vs H σv tv Q M W
 obtain⟨h1,h2,b1,b2⟩:=M.hd
 unfold extD at W
 split at W
 ·rename_i l ds y
  cases ey:seqD y with
  |none=>simp only[ey] at W;exact False.elim W
  |some es=>
   simp only[ey] at W
   split at W
   ·rename_i hc
    have h1':=h1
    simp only[RD] at h1
    obtain⟨rfl,xs,hx,r⟩:=h1
    simp only[RDs] at h2
    obtain⟨u,q,rfl,h2,rfl⟩:=h2
    obtain⟨a,ys,rfl,sq,r2,sub⟩:=h2.seq ey
    have ns:=z3I M.m h1' fun j hj=>(b1 j hj).1
    have bl:=b1 l (by simp only[labs];exact List.mem_cons_self ..)
    refine⟨_,a,xs,ys,rfl,rfl,hx,sq.symm,by rw[<-r.length,<-r2.length];exact hc.1,fun _=>W.out (M.m.putL hx bl.1 bl.2 (r.append r2) ?_ ?_) (by simp only[RD]) fun l h=>by simp[labs] at h⟩
    ·intro j hj
     rw[z0u] at hj
     rcases List.mem_append.mp hj with q|q
     ·exact b1 j (by simp only[labs];exact List.mem_cons_of_mem _ q)
     ·exact b2 j (by simp only[labsL,List.append_nil];exact sub j q)
    ·intro hj
     rw[z0u] at hj
     rcases List.mem_append.mp hj with q|q
     ·exact ns q
     ·exact hc.2 q
   ·exact False.elim W
 ·exact wfl W
theorem z6w{T:String}{mo:M D}{ms:List (M D)}{g:D->List D->M D}{r:V->List V->Hp->VK->Prop}{σ:L2.St}{H:Hp}{Q:VK}(hT:T= "list")(hg:MtOK G F r g)(h:tM G F (z0X mo ms g) σ H Q):
 tM G F mo σ H fun x H1=>tyV G.K T x H1/\tML G F (z02 ms) σ H1 fun xs H2=>r x xs H2 fun w H'=>KD G.K H'->Q w H':=by
 obtain⟨tv,h⟩:=h
 have hs:=h.1
 refine⟨tv,(z3q h).mono fun v H1 ⟨ρ1,s1,t,M1,W⟩=> ?_⟩
 simp only[bd,isL] at W
 cases e1:lstD t with
 |none=>simp only[e1] at W;exact False.elim W
 |some ds=>
  simp only[e1,psh] at W
  obtain⟨a,xs,rfl,sq,_⟩:=M1.rd1.lstq e1
  refine⟨.inl ⟨hT,xs,sq⟩,some (.ref a)::tv,suf1 hs,ρ1,s1.psh t,M1.push, ?_⟩
  cases e2:z02 ms (s1.psh t) with
  |ex d s2=>simp only[e2] at W;exact W
  |no=>simp only[e2] at W;exact W
  |ok ys s2=>
   simp only[e2,pop] at W
   intro ρ2 us H2 M2
   cases e3:s2.tm with
   |nil=>simp only[e3] at W;exact False.elim W
   |cons o r=>
    cases o with
    |none=>simp only[e3] at W;exact False.elim W
    |some t'=>
     simp only[e3] at W
     exact hg _ _ _ _ _ _ _ _ _ _ (M2.down e3) W
theorem zbf{name:Str}{id:String}{r:V->List V->Hp->VK->Prop}{mo:M D}{ms:List (M D)}{g:D->List D->M D}(hk:X.K=G.K)(slot:Slot "list" name id)(hty:typeOf (.builtin id)=pure (.type "method_descriptor"))(hm:MtR X id r)(hg:MtOK G F r g)(ho:SE X G F o mo)(ha:SA X G F (e::es) (z02 ms))
 (hbase:attributeBase o name X.env (eval o X.env)=eval o X.env:=by rfl)
 (hfew:((backTo cpos (starEach (e::es) X.env)).all (fun x=> !x.1)&&(backToKw cpos (keywordEach [] X.env)).all (fun x=>x.1.isSome)
  &&decide ((e::es).length+([]:List Keyword).length+(if([]:List Keyword).isEmpty then 0 else 1)<30))=true:=by rfl)
 (hline:(apos.endLine==cpos.line)=true:=by rfl) (hs:starEach (e::es) X.env=(false,eval e X.env)::starEach es X.env:=by rfl) (hplain:(backTo cpos (starEach es X.env)).any (·.1)=false:=by rfl):SE X G F (.Call (.Attribute o name apos) (e::es) [] cpos) (z0X mo ms g):=by
 refine PE.imp hk (zeM PySem.F.plainAttrs_list slot hty hm ho ha hbase hfew hline hs hplain) fun σ H Q h=> ?_
 rw[hk]
 exact z6w rfl hg h
theorem z9v{name:Str}{id:String}{r:V->List V->Hp->VK->Prop}{mo:M D}{g:D->List D->M D}(hk:X.K=G.K)(slot:Slot "list" name id)(hty:typeOf (.builtin id)=pure (.type "method_descriptor"))(hm:MtR X id r)(hg:MtOK G F r g)(ho:SE X G F o mo)
 (hbase:attributeBase o name X.env (eval o X.env)=eval o X.env:=by rfl) (hline:(apos.endLine==cpos.line)=true:=by rfl):SE X G F (.Call (.Attribute o name apos) [] [] cpos) (z0X mo [] g):=by
 refine PE.imp hk (zcJ PySem.F.plainAttrs_list slot hty hm ho hbase hline) fun σ H Q h=> ?_
 rw[hk]
 obtain⟨tv,h2⟩:=z6w rfl hg h
 refine⟨tv,h2.mono fun v H1 ⟨q1,tv1,hs,ρ1,s1,M1,W⟩=>⟨q1, ?_⟩⟩
 exact W ρ1 [] H1 ⟨M1,rfl,fun l h=>by simp[labsL] at h⟩
noncomputable def setD(o i v:D):MS:=fun s=>match o,i with
 | .lst l ds, .int k=>match ixN ds.length k with
  |some j=>if l∉labs v then .nx (s.put l (.lst l (ds.set j v))) else .no
  |none=> .no
 |_,_=> .no
noncomputable def mTri(me mo mi:M D)(g:D->D->D->MS):MS:=lift me fun v=>lift (psh v) fun _=>lift mo fun o=>lift (psh o) fun _=>lift mi fun i=>lift pop fun o'=>lift pop fun v'=>g o' i v'
theorem z9w{mo mi:M D}{g:D->D->D->MS}{tv:List (Option V)}{Dd:Ends}{σ:L2.St}{H1:Hp}{ρ1:Nat->Addr}{s1:Stt}{t:D}{v:V}(hs:F.tv0<:+tv)(M1:MRL G F.toFx ρ1 H1 σ tv s1 [t] [v])
 (W:wS G F tv ((lift (psh t) fun _=>lift mo fun o=>lift (psh o) fun _=>lift mi fun i=>lift pop fun o'=>lift pop fun v'=>g o' i v') s1) Dd):
 tM G F mo σ H1 fun o H2=>tM G F mi σ H2 fun i H3=> ∃ρ s t1 t2 t3,MRL G F.toFx ρ H3 σ tv s [t1,t2,t3] [v,o,i]/\wS G F tv (g t2 t3 t1 s) Dd:=by
 refine⟨some v::tv,suf1 hs,ρ1,s1.psh t,M1.push, ?_⟩
 simp only[lift,psh] at W
 cases e1:mo (s1.psh t) with
 |ex d s2=>simp only[e1] at W;exact W
 |no=>simp only[e1] at W;exact W
 |ok o s2=>
  simp only[e1] at W
  intro ρ2 u H2 M2
  refine⟨some u::some v::tv,suf1 (suf1 hs),ρ2,s2.psh o,M2.push, ?_⟩
  cases e2:mi (s2.psh o) with
  |ex d s3=>simp only[e2] at W;exact W
  |no=>simp only[e2] at W;exact W
  |ok i s3=>
   simp only[e2,pop] at W
   intro ρ3 w H3 M3
   cases e3:s3.tm with
   |nil=>simp only[e3] at W;exact False.elim W
   |cons o3 r3=>
    cases o3 with
    |none=>simp only[e3] at W;exact False.elim W
    |some x3=>
     simp only[e3] at W
     cases r3 with
     |nil=>exact False.elim W
     |cons o4 r4=>
      cases o4 with
      |none=>exact False.elim W
      |some x4=>
       have M4:=M3.down e3
       have M5:=M4.down (s':={s3 with tm:=some x4::r4}) rfl
       exact⟨ρ3,_,x4,x3,i,M5,W⟩
theorem zbg{me mo mi:M D}{g:D->D->D->MS}{tv:List (Option V)}{Dd:Ends}{σ:L2.St}{H:Hp}(h:tSv G F (mTri me mo mi g) tv Dd σ H):
 tM G F me σ H fun v H1=>tM G F mo σ H1 fun o H2=>tM G F mi σ H2 fun i H3=> ∃ρ s t1 t2 t3,MRL G F.toFx ρ H3 σ tv s [t1,t2,t3] [v,o,i]/\wS G F tv (g t2 t3 t1 s) Dd:=
 ⟨tv,(z2K h).mono fun v H1 ⟨ρ1,s1,t,M1,W⟩=>z9w h.1 M1 W⟩
theorem zdf{ρ:Nat->Addr}{s:Stt}{t1 t2 t3:D}{v o i:V}{H:Hp}{σv tv:List (Option V)}{Dd:Ends}(M:MRL G F.toFx ρ H σv tv s [t1,t2,t3] [v,o,i])(W:wS G F tv (setD t2 t3 t1 s) Dd):z9g o i v H fun H'=>Dd.nx σv H':=by
 have h:=M.rd
 simp only[RDs] at h
 obtain⟨_,_,e,h1,_,_,e2,h2,_,_,e3,h3,_⟩:=h
 cases e;cases e2;cases e3
 have b1:LB F.toFx ρ s.n (labs t1):=fun l h=>M.lb l (by simp only[labsL];exact List.mem_append_left _ h)
 have b2:LB F.toFx ρ s.n (labs t2):=fun l h=>M.lb l (by simp only[labsL];exact List.mem_append_right _ (List.mem_append_left _ h))
 cases t2 with
 |lst l ds=>
  cases t3 with
  |int k=>
   simp only[setD] at W
   cases ek:ixN ds.length k with
   |none=>simp only[ek] at W;exact False.elim W
   |some j=>
    simp only[ek] at W
    by_cases hc:l∉labs t1
    ·rw[if_pos hc] at W
     have h2':=h2
     simp only[RD] at h2 h3
     obtain⟨rfl,xs,hx,r⟩:=h2
     subst h3
     have ns:=z3I M.m h2' fun j hj=>(b2 j hj).1
     have bl:=b2 l (by simp only[labs];exact List.mem_cons_self ..)
     have mm: ∀q,q∈labsL (ds.set j t1)->q∈labsL ds\/q∈labs t1:=fun q hq=>by
      obtain⟨d,h1,h2⟩:=z0O hq
      rcases List.mem_or_eq_of_mem_set h1 with z|z
      ·exact .inl (labsL_mem z q h2)
      ·subst z;exact .inr h2
     refine⟨_,xs,k,j,rfl,rfl,hx,by rw[<-r.length];exact ek,W ρ σv _ (M.m.putL hx bl.1 bl.2 (r.set j h1) (fun q hq=> ?_) fun hq=> ?_)⟩
     ·rcases mm q hq with z|z
      ·exact b2 q (by simp only[labs];exact List.mem_cons_of_mem _ z)
      ·exact b1 q z
     ·rcases mm l hq with z|z
      ·exact ns z
      ·exact hc z
    ·rw[if_neg hc] at W;exact False.elim W
  |_=>exact False.elim W
 |_=>exact False.elim W
theorem ss_setI{ob ix:Expr}{pos tpos:Pos}{mo mi me:M D}(he:SE X G F e me)(ho:SE X G F ob mo)(hi:SE X G F ix mi)(hg: ∀{to ti:TE},PE X ob to->PE X ix ti->PG X (.Subscript ob ix tpos) (gSub to ti z9g))(hs:swapsWithSole [.Subscript ob ix tpos] e pos.line X.env=pure false:=by rfl)(hw:swappedStores [.Subscript ob ix tpos] e X.env=pure none:=by rfl)
 (h1:(assignEach [.Subscript ob ix tpos] X.env).map (·.2)=[assign (.Subscript ob ix tpos) X.env]:=by rfl):SS X G F (.Assign [.Subscript ob ix tpos] e pos) (mTri me mo mi setD):=by
 refine PS.imp0 (zcn he (hg ho hi) hs hw h1) fun Dd σ H ⟨tv,h⟩=> ?_
 exact(zbg h).mono fun v H1 h1=>h1.mono fun o H2 h2=>h2.mono fun i H3 ⟨ρ,s,t1,t2,t3,M,W⟩=>zdf M W
end
end Mi
namespace Mi
open PySem L2
section
variable{X:Cx}{G:Gx}{F:Fy}{e a b c:Expr}{pos:Pos}{ma mb mc m:M D}
theorem se_add(hk:X.K=G.K)(ha:SE X G F a ma)(hb:SE X G F b mb):SE X G F (.BinOp a .Add b pos) (mBin ma mb addD):=
 z7g hk (r:=fun x y H Q=>rI0 (fun i j=> .int (i+j)) x y H Q\/zaZ G.K x y H Q\/rCat x y H Q\/∃i j,x= .str i/\y= .str j/\i.length+j.length<=sizeLine/\Q (.str (i++j)) H) (hk▸OpR.or zcr (OpR.or zb0 (OpR.or zcK z72))) zcS ha hb
theorem se_sub(hk:X.K=G.K)(ha:SE X G F a ma)(hb:SE X G F b mb):SE X G F (.BinOp a .Sub b pos) (mBin ma mb subD):=z7g hk zcs zcT ha hb
theorem se_mul(hk:X.K=G.K)(ha:SE X G F a ma)(hb:SE X G F b mb):SE X G F (.BinOp a .Mult b pos) (mBin ma mb mulD):=z7g hk (r:=fun x y H Q=>rI CMul (fun i j=> .int (i*j)) x y H Q\/(rRep x y H Q\/zb1 G.K x y H Q)) (OpR.or zct (OpR.or zcL (hk▸zb2))) zcY ha hb
theorem se_fdiv(hk:X.K=G.K)(ha:SE X G F a ma)(hb:SE X G F b mb):SE X G F (.BinOp a .FloorDiv b pos) (mBin ma mb z5x):=z7g hk zaD zb6 ha hb
theorem se_mod(hk:X.K=G.K)(ha:SE X G F a ma)(hb:SE X G F b mb):SE X G F (.BinOp a .Mod b pos) (mBin ma mb modD):=z7g hk zcu zcU ha hb
theorem se_pow(hk:X.K=G.K)(ha:SE X G F a ma)(hb:SE X G F b mb):SE X G F (.BinOp a .Pow b pos) (mBin ma mb powD):=z7g hk zcv zcV ha hb
theorem se_neg(hk:X.K=G.K)(ha:SE X G F a ma):SE X G F (.UnaryOp .USub a pos) (bd ma negD):=zeN hk zcw zcX ha
structure Cm(X:Cx)(G:Gx)(F:Fy)(op:CmpOp)(g:D->D->M D):Prop where
 h: ∃r,OpR X (compareOp op) r/\z2u G F r g
theorem zdg:Cm X G F .Lt ltD:=⟨_,zeD,zeP⟩
theorem zdh:Cm X G F .LtE leD:=⟨_,zeE,zeQ⟩
theorem z8e:Cm X G F .Gt gtD:=⟨_,zeF,zeR⟩
theorem zeY:Cm X G F .GtE geD:=⟨_,zeG,zeS⟩
theorem z9x(hk:X.K=G.K)(hu:X.A.units+64<cLine):Cm X G F .Eq eqD:=⟨_,hk▸zcM hu,zeT⟩
theorem z7o(hk:X.K=G.K)(hu:X.A.units+64<cLine):Cm X G F .NotEq neD:=⟨_,hk▸zcN hu,zeU⟩
theorem se_cmp{op:CmpOp}{g:D->D->M D}(hc:Cm X G F op g)(ha:SE X G F a ma)(hb:SE X G F b mb)(hm:behindInMarks op b=false):SE X G F (.Compare a [op] [b] pos) (mBin ma mb g):=by
 obtain⟨r,h1,h2⟩:=hc.h
 exact zb4 h1 h2 ha hb hm
theorem sb_cmp{op:CmpOp}{g:D->D->M D}(hc:Cm X G F op g)(ha:SE X G F a ma)(hb:SE X G F b mb)(hm:behindInMarks op b=false):SB X G F (.Compare a [op] [b] pos) (mBoo (mBin ma mb g)):=by
 obtain⟨r,h1,h2⟩:=hc.h
 exact zb9 h1 h2 ha hb hm
theorem se_cmp2{op op':CmpOp}{g g':D->D->M D}(hc:Cm X G F op g)(hc':Cm X G F op' g')(ha:SE X G F a ma)(hb:SE X G F b mb)(hcc:SE X G F c mc)(hm:lastMarks [op,op'] [b,c]=false:=by with_unfolding_all rfl):SE X G F (.Compare a [op,op'] [b,c] pos) (z4s ma mb mc g g'):=by
 obtain⟨r,h1,h2⟩:=hc.h
 obtain⟨r',h1',h2'⟩:=hc'.h
 exact z9n h1 h2 h1' h2' ha hb hcc hm
theorem se_idx(hk:X.K=G.K)(ha:SE X G F a ma)(hb:SE X G F b mb)(hs:z34 b):SE X G F (.Subscript a b pos) (mBin ma mb ixD):=zeO hk (hk▸IxR.or zaT zcI) zeV ha hb hs
structure Cb(X:Cx)(G:Gx)(F:Fy)(f:Value)(g:List D->M D):Prop where
 h: ∃r,CallR X f r/\z1r G F r g
theorem zdi(hk:X.K=G.K):Cb X G F (.builtin "len") lenD:=⟨_,hk▸z5q,zd2⟩
theorem zdj:Cb X G F (.builtin "abs") absD:=⟨_,z98,zd3⟩
theorem zac(hc:X.calm=true):Cb X G F (.builtin "min") minD:=⟨_,z7M hc,zd4⟩
theorem zdk(hc:X.calm=true):Cb X G F (.builtin "max") maxD:=⟨_,z7L hc,zd5⟩
theorem zdl(hk:X.K=G.K)(hd:X.A.handled=none):Cb X G F (.builtin "all") allD:=⟨_,hk▸z7X hd,zd6⟩
theorem z6x(hk:X.K=G.K):Cb X G F (.type "tuple") tupF:=⟨_,hk▸z80,zbb⟩
theorem zbh(hk:X.K=G.K):Cb X G F (.type "list") z7i:=⟨_,hk▸z5r,z9o⟩
theorem se_cb{x:Str}{p:Pos}{es:List Expr}{ms:List (M D)}{g:List D->M D}{id:String}(hk:X.K=G.K)(hc:Cb X G F (.builtin id) g)(hgl:Gl X x)(hm:X.mg x=none)(hv:bootBuiltins x=some (.builtin id))(ha:SA X G F (e::es) (z02 ms))(hn:x≠ "__name__" :=by decide)(hdb:(x==("__debug__" :Str))=false:=by decide)
 (he:starEach (e::es) X.env=(false,eval e X.env)::starEach es X.env:=by rfl) (hpl:(backTo pos (starEach es X.env)).any (·.1)=false:=by rfl):SE X G F (.Call (.Name x p) (e::es) [] pos) (mCB ms g):=by
 obtain⟨r,h1,h2⟩:=hc.h
 exact z9l hk h1 h2 hgl hm hv ha hn hdb he hpl
theorem se_ct{x:Str}{p:Pos}{es:List Expr}{ms:List (M D)}{g:List D->M D}{T:String}(hk:X.K=G.K)(hc:Cb X G F (.type T) g)(hgl:Gl X x)(hm:X.mg x=none)(hv:bootBuiltins x=some (.type T))(ha:SA X G F (e::es) (z02 ms))(hn:x≠ "__name__" :=by decide)(hdb:(x==("__debug__" :Str))=false:=by decide)
 (he:starEach (e::es) X.env=(false,eval e X.env)::starEach es X.env:=by rfl) (hpl:(backTo pos (starEach es X.env)).any (·.1)=false:=by rfl):SE X G F (.Call (.Name x p) (e::es) [] pos) (mCB ms g):=by
 obtain⟨r,h1,h2⟩:=hc.h
 exact z83 hk h1 h2 hgl hm hv ha hn hdb he hpl
structure Cl(X:Cx)(G:Gx)(F:Fy)(id:String)(g:D->List D->M D):Prop where
 h: ∃r,MtR X id r/\MtOK G F r g
theorem z0Q:Cl X G F "list.append" appD:=⟨_,z5t,zdc⟩
theorem z8f(hk:X.K=G.K):Cl X G F "list.extend" extD:=⟨_,hk▸zaW,zde⟩
theorem z7p:Cl X G F "list.reverse" revD:=⟨_,z7b,zdd⟩
end
end Mi
namespace Mi
open PySem L2 PySem.Spec PyProof.Rows
noncomputable def tyO(p:Addr)(Ts:List String):HO:= .ext fun h=>h.get? p=some {cls:= .type "tuple",data:= .seq (Ts.map Value.type).toArray}
section
variable{X:Cx}{G:Gx}{F:Fy}{e a b c:Expr}{pos:Pos}
noncomputable def tTys(Ts:List String):TE:=fun σ H Q=> ∀p,H p=none->Q (.ref p) (upd H p (tyO p Ts))
theorem z8g: ∀{Ts:List String} {us:List Value},Vals (Ts.map V.ty) us->us=Ts.map Value.type
 |[],_, .nil=>rfl
 |T::Ts,_, .cons r t=>by
  have e:_=Value.type T:=r
  rw[e,z8g t];rfl
theorem z6y{es:List Expr}{k}{Ts:List String}{t:TA}(h:PA X es t)(ht: ∀σ H Q,Q (Ts.map V.ty) H->t σ H Q)(hl:Ts.length<=20):PE X (.Tuple es k pos) (tTys Ts):=by
 intro pins s σ H Q I hq
 refine wpAny_Tuple_spliced (thn (h pos pins s σ H (fun vs H1=>vs=Ts.map V.ty/\H1=H) I (ht _ _ _ ⟨rfl,rfl⟩)) fun us s1 ⟨xs,H1,I1,r,e1,e2⟩=>⟨?_, ?_⟩)
 ·rw[<-r.length,e1,List.length_map,sizeLine_eq];lia
 ·subst e1 e2
  have hu:=z8g r
  subst hu
  have hf:H1 s1.heap.objs.size=none:=I1.hok.fresh (Nat.le_refl _)
  refine⟨.ref s1.heap.objs.size,upd H1 s1.heap.objs.size (tyO s1.heap.objs.size Ts),I1.laid (t':=s1.toks) (fun b u e=>Heap.get?_push_of_some _ e) (Nat.le_refl _) ?_,rfl,hq _ hf⟩
  exact⟨Heap.get?_push_size _ rfl,⟨_,Heap.get?_push_size _ rfl⟩,fun h1 h2 q k=>k _ q⟩
noncomputable def zeZ(K:W.Frag)(Ts:List String):List V->Hp->VK->Prop:=fun xs H Q=> ∃x p bs,xs=[x, .ref p]/\Ts≠[]/\H p=some (tyO p Ts)/\Paired (fun T b=>(T= "tuple" \/T= "list")/\isiV K H T b x) Ts bs/\Q (.bl (bs.any id)) H
theorem z8h{Ts:List String}:CallR X (.builtin "isinstance") (zeZ X.K Ts):=by
 intro pins s σ H xs us Q I r h
 obtain⟨x,p,bs,rfl,hne,hp,hb,q⟩:=h
 have some1: ∃T b,(T= "tuple" \/T= "list")/\isiV X.K H T b x:=by
  cases hb with
  |nil=>exact absurd rfl hne
  |cons h _=>exact⟨_,_,h⟩
 obtain⟨u,u',rfl,ru,ru'⟩:=z97 r
 cases ru'
 have hobj:s.heap.get? p=some {cls:= .type "tuple",data:= .seq (Ts.map Value.type).toArray}:=(I.hok p _ hp).1
 have fin: ∀(Tx:String),s.TypeIs u Tx->AnswersAll (fun s=>s.TypeIs u Tx) u (Ts.map Value.type) bs->wpAny (model X.prog X.w) X.A (call (.builtin "isinstance") [u, .ref p]) (EP X pins σ Q) X.xe s:=fun Tx ht ha=>
  IsiPair.tupleOfB ha ht hobj rfl fun tk=>⟨.bl _,H,I.tok tk,rfl,q⟩
 have all: ∀(Tx:String),(∀T b,(T= "tuple" \/T= "list")/\isiV X.K H T b x->Answers (fun s=>s.TypeIs u Tx) u (.type T) b)->AnswersAll (fun s=>s.TypeIs u Tx) u (Ts.map Value.type) bs:=fun Tx hA=>by
  clear hobj hp q fin hne
  induction hb with
  |nil=>exact AnswersAll.nil
  |cons h _ ih=>exact AnswersAll.cons (hA _ _ h) ih
 cases x with
 |non=>
  cases ru
  refine fin "NoneType" (typeIs_none s) (all _ ?_)
  rintro T b ⟨rfl|rfl,hb⟩<;>cases(show b=false from hb)
  ·exact Answers.of_false_none (by decide+kernel) F.isi_meta_tuple (by rw[isSubtype_type];kernel_rfl)
  ·exact Answers.of_false_none (by decide+kernel) F.isi_meta_list (by rw[isSubtype_type];kernel_rfl)
 |bl k=>
  cases ru
  refine fin "bool" (PySem.typeIs_bool s k) (all _ ?_)
  rintro T b ⟨rfl|rfl,hb⟩<;>cases(show b=false from hb)
  ·exact Answers.of_false_bool (by decide+kernel) F.isi_meta_tuple (by rw[isSubtype_type];kernel_rfl)
  ·exact Answers.of_false_bool (by decide+kernel) F.isi_meta_list (by rw[isSubtype_type];kernel_rfl)
 |int k=>
  obtain⟨t,rfl⟩:=ru
  refine fin "int" (typeIs_int s k t) (all _ ?_)
  rintro T b ⟨rfl|rfl,hb⟩<;>cases(show b=false from hb)
  ·exact Answers.of_false_int (by decide+kernel) F.isi_meta_tuple F.sub_int_tuple
  ·exact Answers.of_false_int (by decide+kernel) F.isi_meta_list (by rw[isSubtype_type];kernel_rfl)
 |str k=>
  obtain⟨t,rfl⟩:=ru
  refine fin "str" (typeIs_str s k t) (all _ ?_)
  rintro T b ⟨rfl|rfl,hb⟩<;>cases(show b=false from hb)
  ·exact Answers.of_false_str (by decide+kernel) F.isi_meta_tuple (by rw[isSubtype_type];kernel_rfl)
  ·exact Answers.of_false_str (by decide+kernel) F.isi_meta_list (by rw[isSubtype_type];kernel_rfl)
 |ref a=>
  cases ru
  by_cases hT: ∃ys,SqT X.K H a ys
  ·obtain⟨ys,hT⟩:=hT
   obtain⟨its,rv,ht,_⟩:=I.tuple hT
   refine fin "tuple" ht.typeIs (all _ ?_)
   have nl: ∀ys,¬SqL X.K H a ys:=fun ys q=>by
    obtain⟨its',rv',⟨o',n',e',c',_,_⟩,_⟩:=I.list q
    obtain⟨o,e,c,_⟩:=ht
    rw[e] at e';cases e'
    rw[c] at c';injection c' with c';exact absurd c' (by decide)
   rintro T b ⟨rfl|rfl,hb⟩
   ·rcases hb with⟨_,_,hb⟩|⟨ys,hb,_⟩
    ·cases(show b=true from hb)
     exact Answers.of_true F.isi_meta_tuple (by rw[isSubtype_type];kernel_rfl)
    ·exact absurd hb (nl ys)
   ·rcases hb with⟨_,_,hb⟩|⟨ys,hb,_⟩
    ·cases(show b=false from hb)
     exact Answers.of_false_tuple (by decide+kernel) F.isi_meta_list (by rw[isSubtype_type];kernel_rfl)
    ·exact absurd hb (nl ys)
  ·by_cases hL: ∃ys,SqL X.K H a ys
   ·obtain⟨ys,hL⟩:=hL
    obtain⟨its,rv,ht,_⟩:=I.list hL
    refine fin "list" ht.isList.typeIs (all _ ?_)
    rintro T b ⟨rfl|rfl,hb⟩
    ·rcases hb with⟨ys,hb,_⟩|⟨ys,_,hb⟩
     ·exact absurd ⟨ys,hb⟩ hT
     ·cases(show b=false from hb)
      exact Answers.of_false_list (by decide+kernel) F.isi_meta_tuple (by rw[isSubtype_type];kernel_rfl)
    ·rcases hb with⟨ys,hb,_⟩|⟨ys,_,hb⟩
     ·exact absurd ⟨ys,hb⟩ hT
     ·cases(show b=true from hb)
      exact Answers.of_true F.isi_meta_list (by rw[isSubtype_type];kernel_rfl)
   ·obtain⟨T,b,_,h⟩:=some1
    rcases h with⟨ys,h,_⟩|⟨ys,h,_⟩
    ·exact absurd ⟨ys,h⟩ hT
    ·exact absurd ⟨ys,h⟩ hL
 |byt _=>obtain⟨T,b,_,h⟩:=some1;exact h.elim
 |flt _=>obtain⟨T,b,_,h⟩:=some1;exact h.elim
 |ty _=>obtain⟨T,b,_,h⟩:=some1;exact h.elim
noncomputable def isiAny(Ts:List String)(d:D):Option Bool:=match Ts with
 |[]=>some false
 |T::r=>match isiD T d,isiAny r d with
  |some b,some c=>some (b||c)
  |_,_=>none
noncomputable def z5X(Ts:List String)(m:M D):M D:=bd m fun d=>match isiAny Ts d with|some b=>rt (.bool b)|none=>fl
theorem z5B{ρ:Nat->Addr}{H:Hp}{t:D}{v:V}(h:RD G ρ H t v): ∀{Ts:List String} {b:Bool},isiAny Ts t=some b->(∀T∈Ts,T= "tuple" \/T= "list")->∃bs,Paired (fun T b=>(T= "tuple" \/T= "list")/\isiV G.K H T b v) Ts bs/\bs.any id=b
 |[],b,e,_=>by simp only[isiAny,Option.some.injEq] at e;subst e;exact⟨[], .nil,rfl⟩
 |T::Ts,b,e,hT=>by
  simp only[isiAny] at e
  cases e1:isiD T t with
  |none=>simp only[e1] at e;cases e
  |some b1=>
   cases e2:isiAny Ts t with
   |none=>simp only[e1,e2] at e;cases e
   |some b2=>
    simp only[e1,e2,Option.some.injEq] at e
    subst e
    obtain⟨bs,q1,q2⟩:=z5B h e2 fun T h=>hT T (List.mem_cons_of_mem _ h)
    exact⟨b1::bs, .cons ⟨hT T (List.mem_cons_self ..),za9 h e1⟩ q1,by simp[q2]⟩
theorem z9y{K:W.Frag}{H H':Hp}{T:String}{b:Bool}{v:V}(sm:Same H H')(h:isiV K H T b v):isiV K H' T b v:=by
 cases v with
 |ref a=>
  rcases h with⟨xs,q,e⟩|⟨xs,q,e⟩
  ·exact .inl ⟨xs,sm.ts.tup q,e⟩
  ·exact .inr ⟨xs,sm.lst q,e⟩
 |_=>exact h
theorem se_isiT{p:Pos}{x y:Expr}{Ts:List String}{m:M D}(hk:X.K=G.K)(hT: ∀T∈Ts,T= "tuple" \/T= "list")(hne:Ts≠[])(hgl:Gl X "isinstance")(hm:X.mg "isinstance" =none)(ha:SE X G F x m)(hy:PE X y (tTys Ts))
 (he:starEach [x,y] X.env=(false,eval x X.env)::starEach [y] X.env:=by rfl) (he2:starEach [y] X.env=(false,eval y X.env)::starEach [] X.env:=by rfl) (hpl:(backTo pos (starEach [y] X.env)).any (·.1)=false:=by rfl):SE X G F (.Call (.Name "isinstance" p) [x,y] [] pos) (z5X Ts m):=by
 refine PE.imp hk (z2G (z8h (Ts:=Ts)) hgl hm PyProof.Rows.Boot.«isinstance» (z08 ha (z08 hy z27 he2) he) (by decide) (by decide) he hpl) fun σ H Q ⟨tv,h⟩=>⟨tv,(z3q h).mono fun v H1 ⟨ρ1,s1,t,M1,W⟩=> ?_⟩
 cases e:isiAny Ts t with
 |none=>simp only[e] at W;exact False.elim W
 |some b=>
  simp only[e] at W
  intro p hp
  have sm:=Same.new (tyO p Ts) hp
  rw[hk]
  obtain⟨bs,q1,q2⟩:=z5B M1.rd1 e hT
  refine⟨v,p,bs,rfl,hne,z09,Paired.mapP q1 fun T b q=>⟨q.1,z9y sm q.2⟩,fun k=> ?_⟩
  rw[q2]
  exact W.flat (M1.m.same sm k) rfl
end
end Mi
namespace Mi
open PySem L2
theorem z4S{P:Program}{w:World}{K:W.Frag}{mg:Str->Option Value}{base:Heap}{CX:CXT}{k:Nat}{fa:Addr}{fd:FuncData}{ps:List Str}{G:Gx}{np:Nat}:FnOk P w K mg base CX k fa fd ps (spM G np fun _ _=> .no):=
 ⟨fun vs H Q E h=>by obtain⟨_,_,_,_,_,_,_,_,_,h⟩:=h;exact h.elim,fun A outer s H args us vs Q E _ _ _ _ h=>by obtain⟨_,_,_,_,_,_,_,_,_,h⟩:=h;exact h.elim⟩
section
variable{X:Cx}{G:Gx}{F:Fy}{e o:Expr}{es:List Expr}{apos cpos:Pos}
theorem se_cl{name:Str}{id:String}{mo:M D}{ms:List (M D)}{g:D->List D->M D}(hk:X.K=G.K)(slot:Slot "list" name id)(hty:typeOf (.builtin id)=pure (.type "method_descriptor"))(hm:Cl X G F id g)(ho:SE X G F o mo)(ha:SA X G F (e::es) (z02 ms))
 (hbase:attributeBase o name X.env (eval o X.env)=eval o X.env:=by rfl)
 (hfew:((backTo cpos (starEach (e::es) X.env)).all (fun x=> !x.1)&&(backToKw cpos (keywordEach [] X.env)).all (fun x=>x.1.isSome)
  &&decide ((e::es).length+([]:List Keyword).length+(if([]:List Keyword).isEmpty then 0 else 1)<30))=true:=by rfl)
 (hline:(apos.endLine==cpos.line)=true:=by rfl) (hs:starEach (e::es) X.env=(false,eval e X.env)::starEach es X.env:=by rfl) (hplain:(backTo cpos (starEach es X.env)).any (·.1)=false:=by rfl):SE X G F (.Call (.Attribute o name apos) (e::es) [] cpos) (z0X mo ms g):=by
 obtain⟨r,h1,h2⟩:=hm.h
 exact zbf hk slot hty h1 h2 ho ha hbase hfew hline hs hplain
theorem se_cl0{name:Str}{id:String}{mo:M D}{g:D->List D->M D}(hk:X.K=G.K)(slot:Slot "list" name id)(hty:typeOf (.builtin id)=pure (.type "method_descriptor"))(hm:Cl X G F id g)(ho:SE X G F o mo)
 (hbase:attributeBase o name X.env (eval o X.env)=eval o X.env:=by rfl) (hline:(apos.endLine==cpos.line)=true:=by rfl):SE X G F (.Call (.Attribute o name apos) [] [] cpos) (z0X mo [] g):=by
 obtain⟨r,h1,h2⟩:=hm.h
 exact z9v hk slot hty h1 h2 ho hbase hline
end
inductive SEs(X:Cx)(G:Gx)(F:Fy):List Expr->List (M D)->Prop
 |nil:SEs X G F [] []
 |cons {e:Expr} {m:M D} {es:List Expr} {ms:List (M D)}:SE X G F e m->nst e=true->SEs X G F es ms->SEs X G F (e::es) (m::ms)
theorem sa_of{X:Cx}{G:Gx}{F:Fy}{es:List Expr}{ms:List (M D)}(hk:X.K=G.K)(h:SEs X G F es ms):SA X G F es (z02 ms):=by
 induction h with
 |nil=>exact zcR hk
 |cons h1 h2 _ ih=>exact zb5 hk h1 ih h2
section
variable{X:Cx}{G:Gx}{F:Fy}{a b tg:Expr}{pos:Pos}
noncomputable def zdm(i:Nat):List (Option D)->Option (Option D)
 |some c::_=>(lstD c).map fun ds=>(ds[i]?).map fun d=> .tup [.int i,d]
 |_=>none
noncomputable def kEnm:ItK:=⟨1,zdm,z6s⟩
theorem z6z{a:Addr}:ItOK G (Ite G.K a) kEnm [some (.ref a)]:=by
 intro F ρ H σv tvp tv s i M
 dsimp only[kEnm]
 cases e:s.tm.drop tvp.length with
 |nil=>trivial
 |cons o r=>
  cases o with
  |none=>trivial
  |some c=>
   simp only[zdm]
   obtain⟨h,lb⟩:=MR.head (s:=s.popn tvp.length) M.popn e
   cases e1:lstD c with
   |none=>trivial
   |some ds=>
    simp only[Option.map_some]
    obtain⟨a',xs,ea,sq,rr,sub⟩:=h.lstq e1
    cases ea
    cases e2:ds[i]? with
    |none=>
     simp only[Option.map_none]
     refine⟨xs,sq, ?_⟩
     rw[<-rr.length]
     exact List.getElem?_eq_none_iff.mp e2
    |some d=>
     simp only[Option.map_some]
     obtain⟨x,ex,rx⟩:=rr.get i d e2
     refine⟨⟨xs,x,sq,ex⟩, ?_⟩
     rintro x' H' ⟨p,y,hp,rfl,rfl,hx,kd⟩
     rw[hx xs sq] at ex
     cases ex
     have sm:=Same.new (.tup [.int i,x]) hp
     refine⟨M.same sm kd,RDs.one ?_,fun l hl=>lb l (sub l (labsL_mem (List.mem_of_getElem? e2) l (by simpa only[labsL,labs,List.append_nil,List.nil_append] using hl)))⟩
     simp only[RD]
     refine⟨p,_,rfl,z09, ?_⟩
     have r1:=(RDs.one rx).same sm
     simp only[RDs] at r1⊢
     obtain⟨x,r,e,h1,h2⟩:=r1
     cases e
     exact⟨_,_,rfl,by simp only[RD],_,_,rfl,h1,rfl⟩
noncomputable def zad(i:Nat):List (Option D)->Option (Option D)
 |some (.tup ds)::_=>some ((ds[i]?).map fun d=> .tup [.int i,d])
 |_=>none
noncomputable def zbi:ItK:=⟨1,zad,z6s⟩
theorem z8i{a:Addr}:ItOK G (Itet G.K a) zbi [some (.ref a)]:=by
 intro F ρ H σv tvp tv s i M
 dsimp only[zbi]
 cases e:s.tm.drop tvp.length with
 |nil=>trivial
 |cons o r=>
  cases o with
  |none=>trivial
  |some c=>
   obtain⟨h,lb⟩:=MR.head (s:=s.popn tvp.length) M.popn e
   cases c with
   |tup ds=>
    simp only[zad]
    obtain⟨a',xs,ea,sq,rr⟩:=h.tupq
    cases ea
    cases e2:ds[i]? with
    |none=>
     simp only[Option.map_none]
     refine⟨xs,sq, ?_⟩
     rw[<-rr.length]
     exact List.getElem?_eq_none_iff.mp e2
    |some d=>
     simp only[Option.map_some]
     obtain⟨x,ex,rx⟩:=rr.get i d e2
     refine⟨⟨xs,x,sq,ex⟩, ?_⟩
     rintro x' H' ⟨p,y,hp,rfl,rfl,hx,kd⟩
     rw[hx xs sq] at ex
     cases ex
     have sm:=Same.new (.tup [.int i,x]) hp
     refine⟨M.same sm kd,RDs.one ?_,fun l hl=>lb l (by simp only[labs];exact labsL_mem (List.mem_of_getElem? e2) l (by simpa only[labsL,labs,List.append_nil,List.nil_append] using hl))⟩
     simp only[RD]
     refine⟨p,_,rfl,z09, ?_⟩
     have r1:=(RDs.one rx).same sm
     simp only[RDs] at r1⊢
     obtain⟨x,r,e,h1,h2⟩:=r1
     cases e
     exact⟨_,_,rfl,by simp only[RD],_,_,rfl,h1,rfl⟩
   |_=>trivial
noncomputable def enmI(ts:List D):M ItK:=fun s=>match ts with
 |[.lst l ds]=> .ok kEnm (s.psh (.lst l ds))
 |[.ro ds]=> .ok kEnm (s.psh (.ro ds))
 |[.tup ds]=> .ok zbi (s.psh (.tup ds))
 |_=> .no
noncomputable def mEnm(ms:List (M D)):M ItK:=bd (z02 ms) enmI
theorem si_enm{p tpos:Pos}{elts:List Expr}{x1:Nat}{ms:List (M D)}(hk:X.K=G.K)(hg:Gl X "enumerate")(hm:X.mg "enumerate" =none)(ha:SA X G F [a] (z02 ms))(hs:starEach [a] X.env=[(false,eval a X.env)]:=by rfl):SI X G F (.Tuple elts x1 tpos) (.Call (.Name "enumerate" p) [a] [] pos) (mEnm ms):=by
 refine PI.imp0 (z9p hg hm ha hs) fun σ H R ⟨tv,hs,ρ,s,M,W⟩=>⟨tv,hs,ρ,s,M, ?_⟩
 unfold mEnm bd at W
 cases e:z02 ms s with
 |ex d s1=>rw[e] at W;exact W
 |no=>rw[e] at W;exact W
 |ok ts s1=>
  rw[e] at W
  intro ρ1 vs H1 M1
  rw[hk]
  unfold enmI at W
  dsimp only at W
  split at W
  ·rename_i ts' K s' hh
   split at hh
   ·cases hh
    obtain⟨v,rfl,h,_⟩:=M1.one
    obtain⟨a,xs,rfl,sq,r,_⟩:=h.lstq (ds:=_) rfl
    exact⟨a,rfl, .inl ⟨⟨xs,sq⟩,W ρ1 H1 [some (.ref a)] _ rfl M1.push z6z⟩⟩
   ·cases hh
    obtain⟨v,rfl,h,_⟩:=M1.one
    obtain⟨a,xs,rfl,sq,r,_⟩:=h.lstq (ds:=_) rfl
    exact⟨a,rfl, .inl ⟨⟨xs,sq⟩,W ρ1 H1 [some (.ref a)] _ rfl M1.push z6z⟩⟩
   ·cases hh
    obtain⟨v,rfl,h,_⟩:=M1.one
    obtain⟨a,xs,rfl,sq,r⟩:=h.tupq
    exact⟨a,rfl, .inr ⟨⟨xs,sq⟩,W ρ1 H1 [some (.ref a)] _ rfl M1.push z8i⟩⟩
   ·cases hh
  ·rename_i hh
   split at hh<;>cases hh
  ·exact False.elim W
noncomputable def z8j(lo:Int)(n:Nat):List D:=(List.range n).map fun(k:Nat)=>D.int (lo+(k:Int))
theorem z8k{ρ:Nat->Addr}{H:Hp}(lo:Int): ∀ks:List Nat,RDs G ρ H (ks.map fun(k:Nat)=>D.int (lo+(k:Int))) (ks.map fun(k:Nat)=>V.int (lo+(k:Int)))
 |[]=>by simp only[List.map_nil,RDs]
 |k::ks=>by
  simp only[List.map_cons,RDs]
  exact⟨_,_,rfl,by simp only[RD],z8k lo ks⟩
theorem z6A(lo:Int): ∀ks:List Nat,labsL (ks.map fun(k:Nat)=>D.int (lo+(k:Int)))=[]
 |[]=>by simp only[List.map_nil,labsL]
 |k::ks=>by simp only[List.map_cons,labsL,labs,z6A lo ks,List.nil_append]
mutual
theorem z3J: ∀t:D,(er t).hasDict=false
 | .non| .bool _| .int _| .str _| .dct _ _ _| .obj _ _ _ _| .exc _| .fn _| .fdc _ _=>by simp only[er,PyData.hasDict]
 | .tup ds=>by simp only[er,PyData.hasDict];exact erL_noDict ds
 | .ro ds=>by simp only[er,PyData.hasDict];exact erL_noDict ds
 | .lst _ ds=>by simp only[er,PyData.hasDict];exact erL_noDict ds
theorem erL_noDict: ∀ts:List D,PyData.hasDictAll (erL ts)=false
 |[]=>by simp only[erL,PyData.hasDictAll]
 |t::ts=>by simp only[erL,PyData.hasDictAll,z3J t,erL_noDict ts,Bool.or_self]
end
noncomputable def strC(ds:List D):Bool:=plainL ds&&(er (.tup ds)).showable&&decide ((er (.tup ds)).depth<=60)&&decide ((er (.tup ds)).shown.length<=sizeLine)
noncomputable def strD:List D->M D
 |[.tup ds]=>if strC ds=true then rt (.str (er (.tup ds)).shown) else fl
 |_=>fl
theorem zdn:z1r G F (rStr G.K) strD:=by
 intro ρ s ts vs H σv tv Q M W
 unfold strD at W
 split at W
 ·rename_i ds
  split at W
  ·rename_i hc
   simp only[strC,Bool.and_eq_true,decide_eq_true_eq] at hc
   obtain⟨⟨⟨c1,c2⟩,c3⟩,c4⟩:=hc
   obtain⟨v,rfl,h,_⟩:=M.one
   obtain⟨p,xs,rfl,s1,r1⟩:=id h.tupq
   exact⟨p,er (.tup ds),rfl,RD.dp _ _ h (by simp only[plain];exact c1),z3J _,c2,c3,c4,fun _=>W.flat M.m rfl⟩
  ·exact wfl W
 ·exact wfl W
noncomputable def eqS:D->D->M D
 | .str i, .str j=>rt (.bool (i==j))
 |_,_=>fl
theorem zdo:z2u G F (fun x y H Q=> ∃i j,x= .str i/\y= .str j/\Q (.bl (i==j)) H) eqS:=by
 intro ρ s t t' v u H σv tv Q M W
 unfold eqS at W
 split at W
 ·obtain⟨h1,h2⟩:=M.rd2
  simp only[RD] at h1 h2
  exact⟨_,_,h1,h2,W.flat M.m rfl⟩
 ·exact wfl W
theorem zdp:Cm X G F .Eq eqS:=⟨_,zd7,zdo⟩
theorem ss_par{i j:Nat}{x y:Str}{px py pt:Pos}{kt k2 pt2}{ms:List (M D)}(hc:X.calm=true)(hN:X.N.Nodup)(hi:X.N[i]? =some x)(hj:X.N[j]? =some y)(hij:i≠j)
 (hx:X.env.scope.names.lookup x=some .local) (hy:X.env.scope.names.lookup y=some .local) (ha:SA X G F [a,b] (z02 ms))
 (hw:swappedStores [.Tuple [.Name x px, .Name y py] kt pt] (.Tuple [a,b] k2 pt2) X.env=pure (some [x,y]):=by rfl)
 (hs:swapsWithSole [.Tuple [.Name x px, .Name y py] kt pt] (.Tuple [a,b] k2 pt2) pos.line X.env=pure false:=by rfl):
 SS X G F (.Assign [.Tuple [.Name x px, .Name y py] kt pt] (.Tuple [a,b] k2 pt2) pos) (sAsg (.tp [.nm i, .nm j]) (mCB ms tupD)):=by
 refine PS.imp0 (zco hc hN hi hj hij hx hy ha hw hs) fun Dd σ H ⟨tv,hs,ρ,s,M,W⟩=>⟨tv,hs,ρ,s,M, ?_⟩
 unfold sAsg lift mCB bd at W
 cases e:z02 ms s with
 |ex d s1=>rw[e] at W;exact W
 |no=>rw[e] at W;exact W
 |ok ts s1=>
  rw[e] at W
  intro ρ1 vs H1 M1
  by_cases hz:ts.length<=sizeLine
  ·have e2:tupD ts s1= .ok (.tup ts) s1:=by unfold tupD;rw[if_pos hz];rfl
   dsimp only at W
   rw[e2] at W
   dsimp only at W
   match ts,W with
   |[],W=>simp only[asg,asgL] at W;exact False.elim W
   |[_],W=>simp only[asg,asgL] at W;exact False.elim W
   |[t,t'],W=>
    obtain⟨v,u,rfl,h,h'⟩:=M1.two
    simp only[asg,asgL] at W
    exact⟨v,u,rfl,W ρ1 _ H1 ((M1.setS i).setS j).m⟩
   |_::_::_::_,W=>simp only[asg,asgL] at W;exact False.elim W
  ·have e2:tupD ts s1= .no:=by unfold tupD;rw[if_neg hz];rfl
   dsimp only at W
   rw[e2] at W
   exact False.elim W
end
end Mi
namespace L2
open PySem PySem.Spec PyProof.Rows
section
variable{P:Program}{w:World}{H H':Hp}{h h':Heap}{a:Addr}{o:HO}
theorem z25.here(x:z25 P w H h a o): ∃u,h.get? a=some u:=by
 cases o with
 |lst xs=>obtain⟨_,_,_,_,e⟩:=x;exact⟨_,e⟩
 |tup xs=>obtain⟨_,_,_,ob,e,_⟩:=x;exact⟨_,e⟩
 |dK kvs=>obtain⟨_,_,_,_,o,_,_,e,_⟩:=x;exact⟨_,e⟩
 |dT kvs=>obtain⟨_,_,_,_,o,_,_,e,_⟩:=x;exact⟨_,e⟩
 |set S n=>obtain⟨o,_,_,_,e,_⟩:=x;exact⟨_,e⟩
 |ins C dx fs=>obtain⟨_,_,_,e,_⟩:=x;exact⟨_,e⟩
 |own y=>obtain⟨_,e⟩:=x;exact⟨_,e⟩
 |xd fs=>obtain⟨_,⟨_,_,_,e,_⟩,_⟩:=x;exact⟨_,e⟩
 |rng lo hi=>obtain⟨_,_,_,e⟩:=x;exact⟨_,e⟩
 |frz o u=>exact⟨_,x.1⟩
 |tbl ps=>exact⟨_,x⟩
 |met f y=>exact⟨_,x⟩
 |ext φ=>obtain⟨_,⟨_,e⟩,_⟩:=x;exact⟨_,e⟩
theorem HOk.none_of(x:HOk P w H h)(e:h.get? a=none):H a=none:=by
 cases q:H a with
 |none=>rfl
 |some u=>obtain⟨v,z⟩:=(x a u q).here;rw[e] at z;cases z
end
structure Fly(P:Program)(w:World)(outer:List Env)(H:Hp)(s:Shared)(H':Hp)(C:Value)(e:Addr)(s':Shared):Prop where
 os:s'.os=s.os
 bare:AllBare s'.gens
 un:Un (frs outer) [] H H' s.heap s'.heap
 hok:HOk P w H' s'.heap
 he:H' e=none
 se:s.heap.get? e=none
 tr: ∃oe vs a0 T oT ts,s'.heap.get? e=some oe/\(oe.cls=C/\vs[0]? =some a0)/\oe.data= .fields vs/\vs[1]? =some (.ref T)/\T≠e/\s'.heap.get? T=some oT/\oT.data= .fields ts/\ts[3]? =some .none/\H' T=none/\s.heap.get? T=none
noncomputable def CX1(P:Program)(w:World):CXT:=fun outer H s E e s'=> ∃a C H',e= .ref a/\Fly P w outer H s H' C a s'/\E C none H'
section
variable{X:Cx}{pins:List (Addr×Obj)}{σ:St}{H:Hp}{s:Shared}{h':Heap}
theorem Inv.frmem(I:Inv X pins σ H s): ∀env∈X.stack,∀a,env.frame=some a->a∈frs X.stack:=fun env he a e=>List.mem_filterMap.mpr ⟨env,he,e⟩
theorem z6B{ex:List Addr}(I:Inv X pins σ H s)(hx: ∀x∈ex,H x=none)(st:(W.hideAll s.heap (frs X.stack++ex)).StaysIn h'): ∀b u o,H b=some u->s.heap.get? b=some o->h'.get? b=some o:=fun b u o e q=>
 st b o (W.hideAll_get _ q fun hm=>by
  rcases List.mem_append.mp hm with z|z
  ·rw[I.stkFree b z] at e;cases e
  ·rw[hx b z] at e;cases e)
theorem z5Y{ex:List Addr}(I:Inv X pins σ H s)(hx: ∀x∈ex,H x=none)(st:(W.hideAll s.heap (frs X.stack++ex)).StaysIn h'):HOk X.prog X.w H h':=fun a o e=>
 (I.hok a o e).stay (fun b u hb q=>by
  rcases hb with rfl|hb
  ·exact z6B I hx st _ _ _ e q
  ·exact z6B I hx st _ _ _ hb q) (fun _ q=>q) fun _ _ q=>q
theorem z5Z{ex:List Addr}(I:Inv X pins σ H s)(hex:X.ex=[])(hx: ∀x∈ex,H x=none)(hx0: ∀x∈ex,X.s₀.heap.get? x=none)(st:(W.hideAll s.heap (frs X.stack++ex)).StaysIn h')(up:s.heap.UpToSlots h'):Un (frs X.outer) [] X.H₀ H X.s₀.heap h':=by
 have nx: ∀b:Addr,b∉X.ex:=fun b z=>by rw[hex] at z;cases z
 have nst: ∀b o,X.s₀.heap.get? b=some o->b∉frs X.outer->b∉frs X.stack++ex:=fun b o q hb hm=>by
  rcases List.mem_append.mp hm with z|z
  ·rcases List.mem_cons.mp (I.stkSub b z) with z|z
   ·subst z;exact absurd (Heap.lt_size q) (Nat.not_lt.mpr I.ok.above)
   ·exact hb z
  ·rw[hx0 b z] at q;cases q
 have sl: ∀b o,X.s₀.heap.get? b=some o->b∈frs X.outer->∃sl,h'.get? b=some {o with slots:=sl}:=fun b o q hb=>by
  obtain⟨sl,z⟩:=I.base.slot b o q (I.ok.frf b hb) hb (nx b)
  obtain⟨_,o',ho',hd⟩:=I.ok.funs.mem hb
  rw[q] at ho';cases ho'
  obtain⟨sl2,z2⟩:=up b {o with slots:=sl} z hd
  exact⟨sl2,z2⟩
 refine⟨fun b o q n hb _=> ?_,fun b o q n hb _=>sl b o q hb,fun b o q n _=>I.base.free b o q n (nx b),fun b o q _=> ?_,I.base.tups,I.base.frzs,I.base.tbls⟩
 ·exact st b o (W.hideAll_get _ (I.base.keep b o q n hb (nx b)) (nst b o q hb))
 ·by_cases hb:b∈frs X.outer
  ·obtain⟨sl,z⟩:=sl b o q hb;exact⟨_,z⟩
  ·obtain⟨o',z⟩:=I.base.there b o q (nx b)
   exact⟨o',st b o' (W.hideAll_get _ z (nst b o q hb))⟩
theorem z3K(I:Inv X pins σ H s)(hex:X.ex=[]){b:Addr}(e:s.heap.get? b=none):X.s₀.heap.get? b=none:=by
 cases q:X.s₀.heap.get? b with
 |none=>rfl
 |some o=>obtain⟨o',z⟩:=I.base.there b o q (by rw[hex];simp);rw[e] at z;cases z
theorem z6C{ex:List Addr}{e:Addr}{cls a0:Value}(I:Inv X pins σ H s)(hex:X.ex=[])(hx: ∀x∈ex,H x=none)(hx0: ∀x∈ex,X.s₀.heap.get? x=none)(up:s.heap.UpToSlots h')(tr:h'.TracedW (W.hideAll s.heap (frs X.stack++ex)) e cls a0):
 ∃oe vs a0 T oT ts,h'.get? e=some oe/\(oe.cls=cls/\vs[0]? =some a0)/\oe.data= .fields vs/\vs[1]? =some (.ref T)/\T≠e/\h'.get? T=some oT/\oT.data= .fields ts/\ts[3]? =some .none/\H T=none/\X.s₀.heap.get? T=none:=by
 obtain⟨oe,vs,T,oT,ts,h1,h2,h3,h4,h5,h6,h7,h8,h9⟩:=tr
 have nm: ∀o,s.heap.get? T=some o->T∈ex:=fun o q=>by
  by_cases hm:T∈frs X.stack++ex
  ·rcases List.mem_append.mp hm with z|z
   ·obtain⟨_,o',ho',hd⟩:=I.stack.mem z
    obtain⟨sl,z'⟩:=up T o' ho' hd
    rw[h7] at z';cases z'
    exact absurd h8 (hd ts)
   ·exact z
  ·rw[W.hideAll_get _ q hm] at h5;cases h5
 have hT:H T=none:=by
  cases q:s.heap.get? T with
  |none=>exact I.hok.none_of q
  |some o=>exact hx T (nm o q)
 have hS:X.s₀.heap.get? T=none:=by
  cases q:s.heap.get? T with
  |none=>exact z3K I hex q
  |some o=>exact hx0 T (nm o q)
 exact⟨oe,vs,a0,T,oT,ts,h1,h2,h3,h4,h6,h7,h8,h9,hT,hS⟩
end
section
variable{P:Program}{w:World}{K:W.Frag}{mg:Str->Option Value}{base:Heap}{N:List Str}{qual:Str}{scope:Scope}{f:Addr}{cd:Value}{A:Around}{outer:List Env}{s:Shared}{H:Hp}{E:XK}
theorem z60:z0G (CX1 P w) (cxOf (CX1 P w) P w K mg base N qual scope f cd A outer s H E) E:=by
 intro pins σ H1 s1 e s2 I ⟨a,C,H2,e1,F,hE⟩
 subst e1
 have I2:Inv (cxOf (CX1 P w) P w K mg base N qual scope f cd A outer s H E) pins σ H2 s2:=I.call' (ch:=[]) F.os F.un F.hok F.bare (fun b z=>absurd z (by simp))
 obtain⟨oe,vs,a0,T,oT,ts,h1,h2,h3,h4,h5,h6,h7,h8,h9,h10⟩:=F.tr
 have hx: ∀x∈[a,T],H2 x=none:=fun x hx=>by
  rcases List.mem_cons.mp hx with rfl|hx
  ·exact F.he
  ·rcases List.mem_cons.mp hx with rfl|hx
   ·exact h9
   ·cases hx
 have hx0: ∀x∈[a,T],s.heap.get? x=none:=fun x hx=>by
  rcases List.mem_cons.mp hx with rfl|hx
  ·exact z3K I rfl F.se
  ·rcases List.mem_cons.mp hx with rfl|hx
   ·exact z3K I rfl h10
   ·cases hx
 refine wpAny_leaves_onW (base:=W.hideAll s2.heap (frs (cxOf (CX1 P w) P w K mg base N qual scope f cd A outer s H E).stack++[a,T])) (L:=s.heap.objs.size) (cls:=C) (a0:=a0) I2.ok.frames rfl ⟨fun b o q=>W.of_hideAll _ q,W.hideAll_none _ (by simp),W.funFrames_hide I2.stack fun env he b hb=>List.mem_append_left _ (I2.frmem env he b hb),oe,vs,T,oT,ts,h1,h2,h3,h4,W.hideAll_none _ (by simp),h5,h6,h7,h8⟩ fun h' fl up=> ?_
 obtain⟨k1,k2,k3,k4⟩:=fl
 exact⟨a,C,H2,rfl,⟨F.os.trans I.os,F.bare,z5Z I2 rfl hx hx0 k1 up,z5Y I2 hx k1,F.he,hx0 a (by simp),z6C I2 rfl hx hx0 up k4⟩,hE⟩
theorem zdq{pins:List (Addr×Obj)}{σ:St}{H1:Hp}{s1:Shared}{h':Heap}{e:Addr}{C:Value}{args:List Value}(I:Inv (cxOf (CX1 P w) P w K mg base N qual scope f cd A outer s H E) pins σ H1 s1)(hx:Heap.MadeExcOf s1.heap h' e C args)(hE:E C none H1):
 (cxOf (CX1 P w) P w K mg base N qual scope f cd A outer s H E).xe (.ref e) {s1 with heap:=h'}:=by
 have nn: ∀x∈([]:List Addr),H1 x=none:=fun x z=>absurd z (by simp)
 have nn0: ∀x∈([]:List Addr),s.heap.get? x=none:=fun x z=>absurd z (by simp)
 refine wpAny_leaves_madeW (base:=W.hideAll s1.heap (frs (cxOf (CX1 P w) P w K mg base N qual scope f cd A outer s H E).stack++[])) (h:=s1.heap) (L:=s.heap.objs.size) I.ok.frames rfl (fun b o q=>W.of_hideAll _ q) (W.funFrames_hide I.stack fun env he b hb=>List.mem_append_left _ (I.frmem env he b hb)) hx fun h2 t fl tp bt up=> ?_
 obtain⟨k1,k2,k3,k4⟩:=fl
 have up2:s1.heap.UpToSlots h2:=(Heap.UpToSlots.of_keeps hx.keeps).trans up
 exact⟨e,C,H1,rfl,⟨I.os,I.bare,z5Z I rfl nn nn0 k1 up2,z5Y I nn k1,I.hok.none_of hx.new,z3K I rfl hx.new,z6C I rfl nn nn0 up2 k4⟩,hE⟩
end
section
variable{X:Cx}{pins:List (Addr×Obj)}{σ:St}{H:Hp}{s:Shared}{h':Heap}
theorem z8l{ex:List Addr}{t':Nat}(I:Inv X pins σ H s)(hex:X.ex=[])(hx: ∀x∈ex,H x=none)(hx0: ∀x∈ex,X.s₀.heap.get? x=none)(hxp: ∀p∈X.pn++pins,p.1∉ex)(st:(W.hideAll s.heap (frs X.stack++ex)).StaysIn h')(up:s.heap.UpToSlots h'):Inv X pins σ H {s with heap:=h',toks:=t'}:=by
 have cellK: ∀c v,s.heap.IsCell c v->h'.IsCell c v:=fun c v ⟨o,ho,hd⟩=>by
  obtain⟨sl,q⟩:=up c o ho (fun vs z=>by rw[hd] at z;cases z)
  exact⟨_,q,hd⟩
 have un:=z5Z I hex hx hx0 st up
 refine⟨I.ok,I.os,I.bare,by rw[hex];exact un, ?_,fun y c e=> ?_,I.free,I.freeC,fun p hp=> ?_,z5Y I hx st,I.len⟩
 ·obtain⟨m,hn,hl⟩:=I.loc
  refine⟨m,up.ns hn,fun i x v e1 e2 e3=> ?_⟩
  obtain⟨u,r,l⟩:=hl i x v e1 e2 e3
  refine⟨u,r, ?_⟩
  rcases l with l|⟨k,c,e,z⟩
  ·exact .inl l
  ·exact .inr ⟨k,c,e,cellK c _ z⟩
 ·obtain⟨v,z⟩:=I.cell y c e
  exact⟨v,cellK c v z⟩
 ·obtain⟨e,n,ne,nf,d⟩:=I.pin p hp
  refine⟨st p.1 p.2 (W.hideAll_get _ e fun hm=> ?_),n,ne,nf,d⟩
  rcases List.mem_append.mp hm with z|z
  ·rcases List.mem_cons.mp (I.stkSub p.1 z) with z|z
   ·exact ne z
   ·exact nf z
  ·exact hxp p hp z
theorem Inv.track{a:Addr}{o:HO}(I:Inv X pins σ H s)(hn:H a=none)(h0:X.s₀.heap.get? a=none)(hL:a≠X.env.locals)(hC: ∀x c,X.env.cells.lookup x=some c->c≠a)(hp: ∀p∈X.pn++pins,p.1≠a)(ok:z25 X.prog X.w (upd H a o) s.heap a o):Inv X pins σ (upd H a o) s:=by
 have ne: ∀b u,H b=some u->upd H a o b=some u:=fun b u e=>by
  by_cases hb:b=a
  ·subst hb;rw[hn] at e;cases e
  ·rw[z04 hb];exact e
 refine⟨I.ok,I.os,I.bare,⟨I.base.keep,I.base.slot,fun b ob q n hx=> ?_,I.base.there,fun b xs e=>ne _ _ (I.base.tups b xs e),fun b u xs e=>ne _ _ (I.base.frzs b u xs e),fun b ps e=> ?_⟩,I.loc,I.cell, ?_,fun x c e=> ?_,fun p q=> ?_,fun b u e=> ?_,I.len⟩
 ·rw[z04 (fun z=>by rw[z,h0] at q;cases q)];exact I.base.free b ob q n hx
 ·obtain⟨m,z⟩:=I.base.tbls b ps e
  exact⟨m,ne _ _ z⟩
 ·rw[z04 (Ne.symm hL)];exact I.free
 ·rw[z04 (hC x c e)];exact I.freeC x c e
 ·obtain⟨e,n,r⟩:=I.pin p q
  exact⟨e,by rw[z04 (hp p q)];exact n,r⟩
 ·by_cases hb:b=a
  ·subst hb;rw[z09] at e;cases e;exact ok
  ·rw[z04 hb] at e
   exact(I.hok b u e).stay (fun _ _ _ q=>q) (fun c q=>ne _ _ q) fun c xs q=>ne _ _ q
noncomputable def zbj(N:List Str):St:=List.replicate N.length none
theorem Inv.forget{m':Str->Option Value}{t':Nat}(I:Inv X pins σ H s)(hn:h'.Ns X.env.locals m')(hs:Heap.SameBut X.env.locals s.heap h'):Inv X pins (zbj X.N) H {s with heap:=h',toks:=t'}:=by
 have neL: ∀b o,X.s₀.heap.get? b=some o->b≠X.env.locals:=fun b o e=>Nat.ne_of_lt (Nat.lt_of_lt_of_le (Heap.lt_size e) I.ok.above)
 refine⟨I.ok,I.os,I.bare,⟨fun b o e n hb hx=> ?_,fun b o e n hb hx=> ?_,I.base.free,fun b o e hx=> ?_,I.base.tups,I.base.frzs,I.base.tbls⟩,⟨m',hn,fun i x v _ e=> ?_⟩,fun y c e=> ?_,I.free,I.freeC,fun p hp=> ?_,fun b ob e=> ?_,by simp[zbj]⟩
 ·exact(hs.2 b (neL b o e)).trans (I.base.keep b o e n hb hx)
 ·obtain⟨sl,e1⟩:=I.base.slot b o e n hb hx
  exact⟨sl,(hs.2 b (neL b o e)).trans e1⟩
 ·obtain⟨o',e1⟩:=I.base.there b o e hx
  exact⟨o',(hs.2 b (neL b o e)).trans e1⟩
 ·unfold zbj at e
  rw[List.getElem?_replicate] at e
  split at e<;>cases e
 ·obtain⟨w',z⟩:=I.cell y c e
  exact⟨w',z.sameBut hs (I.cne y c e)⟩
 ·obtain⟨e,n,ne,nf,d⟩:=I.pin p hp
  exact⟨(hs.2 p.1 ne).trans e,n,ne,nf,d⟩
 ·refine(I.hok b ob e).stay (fun c w' hc q=>(hs.2 c ?_).trans q) (fun _ q=>q) fun _ _ q=>q
  rintro rfl
  rcases hc with rfl|hc
  ·rw[I.free] at e;cases e
  ·rw[I.free] at hc;cases hc
end
noncomputable def bmV:List Value:=[.type "ValueError", .type "Exception", .type "BaseException", .type "object"]
theorem zdr{K:W.Frag}{h:Heap}{C:Addr}{bmB:List Value}{newId:String}(X:K.In h)(q:W.excIn K C bmB newId=true):
 ∃bm N nm qn bs hd sn sub ab col dd k0 k1 k2 k3 k5 mN,h.get? C=some (excClassObj nm qn C N bs bm hd sn sub ab col dd k0 k1 k2 k3 k5 newId)/\h.Ns N mN/\mN "__init__" =none/\OwnTail h bmB bm:=by
 unfold W.excIn at q
 split at q
 ·rename_i dd cd sl ho
  split at q
  ·rename_i C' bm k0 k1 k2 k3 n k5 hm hs
   simp only[Bool.and_eq_true,beq_iff_eq,Bool.not_eq_true'] at q
   obtain⟨⟨⟨⟨⟨rfl,rfl⟩,hdel⟩,ht⟩,hok⟩,hni⟩:=q
   obtain⟨nm,bs,mro,ns,qn,hd,sn,sub,ab,col,del⟩:=cd
   dsimp only at hm hdel hok hni
   subst hm hdel
   have hsl:sl= #[k0,k1,k2,k3,some (.builtin n),k5]:=by
    obtain⟨l⟩:=sl
    simp only at hs
    rw[hs]
   subst hsl
   exact⟨bm,ns,nm,qn,bs,hd,sn,sub,ab,col,dd,k0,k1,k2,k3,k5,_,X _ _ ho, .of_isNs (W.isNs_of_in X hok),W.nsMap_none_of_in X hok hni,W.tail_of_in X ht⟩
  ·cases q
 ·cases q
noncomputable def z3L(X:Cx)(E:St->XK):Prop:= ∀(pins:List (Addr×Obj)) (σ:St) (H:Hp) (s:Shared) (h':Heap) (e:Addr) (C:Value) (args:List Value),Inv X pins σ H s->Heap.MadeExcOf s.heap h' e C args->E σ C none H->X.xe (.ref e) {s with heap:=h'}
noncomputable def zbk(X:Cx)(E:St->XK):Prop:= ∀(pins:List (Addr×Obj)) (σ:St) (H:Hp) (s:Shared) (e:Value) (s':Shared),Inv X pins σ H s->CX1 X.prog X.w X.stack H s (E σ) e s'->X.xe e s'
section
variable{X:Cx}{C:Addr}{x y:Str}{np cpos pos p:Pos}{j:Nat}{E:St->XK}
noncomputable def zds(C:Addr)(E:St->XK):TS:=fun _ σ H=>E σ (.ref C) none H
theorem z9z(hh:X.A.handled=none)(hx:z3L X E)(hg:Gl X x)(hm:X.mg x=some (.ref C))(hq:W.excIn X.K C bmV "ValueError.__new__" =true)(hd:(x==("__debug__" :Str))=false:=by decide):
 PS X (.Raise (some (.Call (.Name x np) [.Constant (.str y) j p] [] cpos)) none pos) (zds C E):=by
 intro pins s σ H D I h
 obtain⟨bm,N,nm,qn,bs,hdc,sn,sub,ab,col,dd,k0,k1,k2,k3,k5,mN,hC,hN,hni,T⟩:=zdr I.ok.mod.kin hq
 refine wpAny_Raise_call_subU (C:=C) (nm:=nm) (q:=qn) (N:=N) (bs:=bs) (bm:=bm) (hdct:=hdc) (sn:=sn) (sub:=sub) (ab:=ab) (col:=col) (dd:=dd) (k0:=k0) (k1:=k1) (k2:=k2) (k3:=k3) (k5:=k5)
  F.excBase_ValueError (by decide+kernel) F.excBase_ValueError (mN:=mN) (T.hasType (by decide+kernel)) hh rfl hni (z31 I hg hm ⟨rfl, ?_⟩ hd)
 have he:starEach [Expr.Constant (.str y) j p] X.env=(false,eval (.Constant (.str y) j p) X.env)::starEach [] X.env:=by rfl
 rw[he]
 refine Calls.evalArgs_plain ?_
 have ha:PA X [Expr.Constant (.str y) j p] _:=z08 z7E z27 he
 have hp:=ha cpos pins s σ H (fun vs H1=>vs.length<=sizeLine/\H1=H) I ⟨by show 1<=sizeLine;decide,rfl⟩
 rw[he] at hp
 refine wpAny_mono hp (fun us s2 ⟨vs,H1,I1,r,hl,e1⟩=> ?_) fun _ _ z=>z
 subst e1
 exact⟨rfl,by rw[<-r.length];exact hl,I1.bk _ _ hC,hN.keeps I1.bk,T.keeps I1.bk,fun h' e hm=>hx pins σ H1 s2 h' e (.ref C) us I1 hm h⟩
end
noncomputable abbrev Xt(X:Cx)(pl:List (Addr×Obj))(E:Value->Shared->Prop):Cx:={X with pn:=pl,xe:=E}
theorem Cx.Ok.xt{X:Cx}(ok:X.Ok)(pl:List (Addr×Obj))(E:Value->Shared->Prop):(Xt X pl E).Ok:=
 ⟨ok.mod,ok.kind,ok.glob,ok.blt,ok.above,ok.inj,ok.has,ok.cab,ok.hd,ok.frames,ok.stk,ok.exf,ok.bs,ok.bsz,ok.noex,ok.exfs,ok.funs,ok.frf⟩
theorem Cx.Ok.unxt{X:Cx}{pl:List (Addr×Obj)}{E:Value->Shared->Prop}(ok:(Xt X pl E).Ok):X.Ok:=
 ⟨ok.mod,ok.kind,ok.glob,ok.blt,ok.above,ok.inj,ok.has,ok.cab,ok.hd,ok.frames,ok.stk,ok.exf,ok.bs,ok.bsz,ok.noex,ok.exfs,ok.funs,ok.frf⟩
theorem Inv.xt{X:Cx}{pins:List (Addr×Obj)}{σ:St}{H:Hp}{s:Shared}{E:Value->Shared->Prop}(I:Inv X pins σ H s):Inv (Xt X (X.pn++pins) E) [] σ H s:=⟨I.ok.xt _ _,I.os,I.bare,I.base,I.loc,I.cell,I.free,I.freeC,fun p hp=>I.pin p (by rw[List.append_nil] at hp;exact hp),I.hok,I.len⟩
theorem Inv.unxt{X:Cx}{pins pins':List (Addr×Obj)}{σ:St}{H:Hp}{s:Shared}{E:Value->Shared->Prop}(I:Inv (Xt X (X.pn++pins) E) pins' σ H s):Inv X pins σ H s:=⟨I.ok.unxt,I.os,I.bare,I.base,I.loc,I.cell,I.free,I.freeC,fun p hp=>I.pin p (List.mem_append_left _ hp),I.hok,I.len⟩
noncomputable abbrev Xm(X:Cx)(a:Addr):Cx:={X with A:=X.A.mark (some (.ref a)),calm:=false,xe:=fun _ _=>False}
theorem Cx.Ok.xm{X:Cx}(ok:X.Ok)(a:Addr):(Xm X a).Ok:=
 ⟨ok.mod,ok.kind,ok.glob,ok.blt,ok.above,ok.inj,ok.has,ok.cab,fun z=>Bool.noConfusion z,ok.frames,ok.stk,ok.exf,ok.bs,ok.bsz,ok.noex,ok.exfs,ok.funs,ok.frf⟩
section
variable{X:Cx}{pins:List (Addr×Obj)}{σ:St}{H:Hp}{s s':Shared}
theorem Inv.xm(I:Inv X pins σ H s)(a:Addr):Inv (Xm X a) pins σ H s:=⟨I.ok.xm a,I.os,I.bare,I.base,I.loc,I.cell,I.free,I.freeC,I.pin,I.hok,I.len⟩
theorem Inv.unxm{a:Addr}(ok:X.Ok)(I:Inv (Xm X a) pins σ H s):Inv X pins σ H s:=⟨ok,I.os,I.bare,I.base,I.loc,I.cell,I.free,I.freeC,I.pin,I.hok,I.len⟩
noncomputable def z5C(o:Obj):HO:= .frz o (.ext fun _=>True)
noncomputable def zdt(K:W.Frag)(CB:Addr)(ie:Nat)(th:TS)(D:Ends):St->XK:=fun σ C _ H=>W.exmOne K C (.ref CB)=some true/\∀a o,H a=none->K.lookup a=none->o.cls=C->(∃vs,o.data= .fields vs)->th {nx:=fun _ _=>False,rt:=D.rt} (σ.set ie (some (.ref a))) (upd H a (z5C o))
noncomputable def z9A(X:Cx)(hs:List ExceptHandler)(Q:Flow->Shared->Prop):Value->Shared->Prop:=fun e s₁=>
 wpAny (model X.prog X.w) X.A (noteFrame e X.env) (fun _ s₂=>wpAny (model X.prog X.w) X.A (setFlight e none) (fun _ s₃=>wpAny (model X.prog X.w) X.A (handleBy e X.env hs) Q X.xe s₃) X.xe s₂) X.xe s₁
theorem z9B{CB:Addr}{x n:Str}{ie:Nat}{np hpos:Pos}{b₀:Stmt}{suite:List Stmt}{th:TS}{D:Ends}(hst:X.stack=X.env::X.outer)(hfr:X.env.frame=some X.env.locals)(hex:X.ex=[])(hg:Gl X x)(hm:X.mg x=some (.ref CB))(hN:X.N.Nodup)(hi:X.N[ie]? =some n)(hloc:X.env.scope.names.lookup n=some .local)
 (hb: ∀a,PSs (Xm X a) (b₀::suite) th) (hd:(x==("__debug__" :Str))=false:=by decide) {e:Value} (I:Inv X pins σ H s) (hc:CX1 X.prog X.w X.stack H s (zdt X.K CB ie th D σ) e s'):
 z9A X [.ExceptHandler (some (.Name x np)) (some n) (b₀::suite) hpos] (SP X pins D) e s':=by
 obtain⟨a,C,H2,e1,F,hE⟩:=hc
 subst e1
 have I2:Inv X pins σ H2 s':=I.call' (ch:=[]) F.os F.un F.hok F.bare (fun b z=>absurd z (by simp))
 obtain⟨oe,vs,a0,T,oT,ts,h1,h2,h3,h4,h5,h6,h7,h8,h9,h10⟩:=F.tr
 have hx: ∀x∈[a,T],H2 x=none:=fun x hx=>by
  rcases List.mem_cons.mp hx with rfl|hx
  ·exact F.he
  ·rcases List.mem_cons.mp hx with rfl|hx
   ·exact h9
   ·cases hx
 have hs0: ∀x∈[a,T],s.heap.get? x=none:=fun x hx=>by
  rcases List.mem_cons.mp hx with rfl|hx
  ·exact F.se
  ·rcases List.mem_cons.mp hx with rfl|hx
   ·exact h10
   ·cases hx
 have hx0: ∀x∈[a,T],X.s₀.heap.get? x=none:=fun x hx=>z3K I hex (hs0 x hx)
 have hxp: ∀p∈X.pn++pins,p.1∉[a,T]:=fun p hp z=>by
  have:=(I.pin p hp).1
  rw[hs0 _ z] at this;cases this
 have aL:a≠X.env.locals:=fun z=>by
  obtain⟨m,⟨o,_,_,ho,_⟩,_⟩:=I.loc
  have:=F.se
  rw[z,ho] at this;cases this
 have aC: ∀x c,X.env.cells.lookup x=some c->c≠a:=fun x c e z=>by
  obtain⟨v,o,ho,_⟩:=I.cell x c e
  have:=F.se
  rw[<-z,ho] at this;cases this
 have fl0:Heap.FlyingW (W.hideAll s'.heap (frs X.stack++[a,T])) (X.env::X.outer) a C a0 s'.heap:=⟨fun b o q=>W.of_hideAll _ q,W.hideAll_none _ (by simp),by rw[<-hst];exact W.funFrames_hide I2.stack fun env he b hb=>List.mem_append_left _ (I2.frmem env he b hb),oe,vs,T,oT,ts,h1,h2,h3,h4,W.hideAll_none _ (by simp),h5,h6,h7,h8⟩
 unfold z9A
 refine wpAny_looks_onW (by rw[<-hst];exact I2.ok.frames) hfr fl0 fun h4' held up4=> ?_
 refine wpAny_landsW held fun h5' fl5 up5=> ?_
 have up:=up4.trans up5
 have I5:Inv X pins σ H2 {s' with heap:=h5'}:=z8l (t':=s'.toks) I2 hex hx hx0 hxp fl5.1 up
 obtain⟨ob,hob,hobc⟩:=fl5.there
 refine wpAny_handleBy_cons (codeAny_handlers_test (z31 (X:=Xm X a) (I5.xm a) hg hm ?_ hd)) (by intro q;cases q)
 have LT:W.Looks (model X.prog X.w) h5' (typeOf (.ref a)) C:=hobc▸(W.Looks.ld hob).andThen .now
 refine(W.exm_one I5.kIn LT hE.1).here ?_
 refine codeAny_handlers_suite_as ?_
 refine lands_againW fl5 fun h6' fl6 up6=> ?_
 have I6:Inv X pins σ H2 {s' with heap:=h6'}:=z8l (t':=s'.toks) I2 hex hx hx0 hxp fl6.1 (up.trans up6)
 obtain⟨oe6,vs6,hoe6,hoec6,hoed6,_⟩:=fl6.first
 have I7:Inv X pins σ (upd H2 a (z5C oe6)) {s' with heap:=h6'}:=I6.track F.he (hx0 a (by simp)) aL aC (fun p hp z=>hxp p hp (by rw[z];simp)) ⟨hoe6,trivial,⟨_,hoe6⟩,fun _ _ _ _=>trivial⟩
 refine z2F (X:=Xm X a) (I7.xm a) hN hi (.inl hloc) (v:= .ref a) rfl (fun s8 I8=> ?_) (.inr hloc)
 refine wpAny_mono (hb a pins s8 _ _ _ I8 (hE.2 a oe6 F.he (by cases q:X.K.lookup a with|none=>rfl|some u=>have z:=I.kIn _ _ q;rw[F.se] at z;cases z) hoec6 ⟨_,hoed6⟩)) (fun fl s9 hq=> ?_) fun _ _ z=>z.elim
 have hkn:X.env.kindOf n=some .local:=hloc
 cases fl with
 |ret u=>
  obtain⟨v,σ',H',I9,r,q⟩:=hq
  have J:=I9.unxm I.ok
  obtain⟨m,hn,_⟩:=id J.loc
  refine wpAny_nameGoes hkn hn (by rw[I.ok.kind];rfl) fun h10 m' hn' hs=> ?_
  exact⟨v,_,H',J.forget (t':=s9.toks+1) hn' hs,r,q⟩
 |next=>obtain⟨_,_,_,q⟩:=hq;exact q.elim
 |brk=>obtain⟨_,_,_,q⟩:=hq;exact q.elim
 |cont=>obtain⟨_,_,_,q⟩:=hq;exact q.elim
end
end L2
namespace L2
open PySem PySem.Spec PySem.Calls PyProof.Rows Builtin Builtin.ObjectAttr Builtin.Getset_descriptor
section
variable{prog:Program}{w:World}{A:Around}{E:Value->Shared->Prop}{h:Heap}{g:Array GenState}{d:Drawn}{t:Nat}{os:OsState}{a C:Addr}{K:W.Frag}
theorem zdu{R:Result->Shared->Prop}{tp:Value}(X:K.In h)(L0:W.Looks (model prog w) h (typeOf (.ref a)) (.ref C))(hm:W.mroIn K C (.type "object")=some true)(hq:R (.ok (.ret (.ref C))) ⟨h,g,d,t,os⟩):
 codeAny (model prog w) A (.call (.builtin "getset_descriptor.__get__") ⟨[.builtin "object.__class__", .ref a,tp],[]⟩) R ⟨h,g,d,t,os⟩:=by
 have L1:=W.looks_mroIn (M:=model prog w) X hm
 refine codeAny_call_builtin W.KF.slot_gs.plain W.KF.entry_gs (W.KF.slot_gs.check _ _ _ _ _ _ _ _ W.KF.type_class (W.KF.args_gs _ _ _) ?_)
 unfold Builtin.«getset_descriptor.__get__» descrGet
 rw[W.dga_obj]
 refine wpAny_bind (wpAny_pure ?_)
 unfold descrGetter descrCheckInstance descrNameAndClass isInstance
 simp only[W.KF.owner_class]
 repeat lk
 refine⟨Code.quiet_builtin _ (by decide+kernel),codeAny_builtin W.KF.entry_class ?_⟩
 unfold Builtin.«object.__class__» shownTypeOf
 repeat lk
 exact hq
theorem z9C{tk:Tok}{Q:Fin->Shared->Prop}(X:K.In h)(L0:W.Looks (model prog w) h (typeOf (.ref a)) (.ref C))(hm:W.mroIn K C (.type "object")=some true)(f3:W.findIn K (.ref C) "__class__" =some (some (.builtin "object.__class__")))(hq:Q (.done (.ret (.ref C))) ⟨h,g,d,t,os⟩):
 wpAny (model prog w) A (Builtin.«object.__getattribute__» ⟨[.ref a, .str "__class__" tk],[]⟩) Q E ⟨h,g,d,t,os⟩:=by
 have L3:=W.looks_findIn (M:=model prog w) X f3
 have hT5:(⟨h,g,d,t,os⟩:Shared).TypeIs (.builtin "object.__class__") "getset_descriptor" :=F.typeOf_object_class
 have f5:=F.typeOf_object_class
 have f6:=F.slot_gs_get.lookup
 have f7:=F.slot_gs_set.lookup
 repeat (any_goals (first|assumption|with_reducible refine L0.at ?_|with_reducible refine L3.at ?_|wp_step))
 refine zdu X L0 hm ?_
 repeat (any_goals (first|assumption|wp_step))
theorem z9D{M:Model}{nameV:Value}{Q:Unit->Shared->Prop}(X:K.In h)(L0:W.Looks M h (typeOf (.ref a)) (.ref C))(hm:W.mroIn K C (.type "BaseException")=some true)(hq:Q () ⟨h,g,d,t,os⟩):
 wpAny M A (checkBuiltinCall "BaseException.__getattribute__" ⟨[.ref a,nameV],[]⟩) Q E ⟨h,g,d,t,os⟩:=by
 have hk:builtinKind "BaseException.__getattribute__" =some .slot:=by decide+kernel
 have hsplit:splitId "BaseException.__getattribute__" =some ("BaseException", "__getattribute__"):=by decide+kernel
 have ha:=F.args_bexc_ga (.ref a) nameV
 have L1:=W.looks_mroIn (M:=M) X hm
 simp only[checkBuiltinCall,hk,hsplit]
 refine wpAny_bind ?_
 ·unfold isInstance
  repeat (first|with_reducible refine L0.at ?_|with_reducible refine L1.at ?_|wp_step)
  exact hq
theorem zbl{tk:Tok}{R:Result->Shared->Prop}(X:K.In h)(L0:W.Looks (model prog w) h (typeOf (.ref a)) (.ref C))(hm:W.mroIn K C (.type "object")=some true)(hb:W.mroIn K C (.type "BaseException")=some true)(f3:W.findIn K (.ref C) "__class__" =some (some (.builtin "object.__class__")))(hq:R (.ok (.ret (.ref C))) ⟨h,g,d,t,os⟩):
 codeAny (model prog w) A (.call (.builtin "BaseException.__getattribute__") ⟨[.ref a, .str "__class__" tk],[]⟩) R ⟨h,g,d,t,os⟩:=
 codeAny_call_builtin F.excAttr_ValueError.ga.plain F.entry_bexc_ga (z9D X L0 hb (z9C X L0 hm f3 hq))
theorem zf0{tk:Tok}{fill expr:Bool}{Q:Value->Shared->Prop}(X:K.In h)(L0:W.Looks (model prog w) h (typeOf (.ref a)) (.ref C))(hm:W.mroIn K C (.type "object")=some true)(hb:W.mroIn K C (.type "BaseException")=some true)(f1:W.findIn K (.ref C) "__getattribute__" =some (some (.builtin "BaseException.__getattribute__")))(f2:W.findIn K (.ref C) "__getattr__" =some none)(f3:W.findIn K (.ref C) "__class__" =some (some (.builtin "object.__class__")))(hq:Q (.ref C) ⟨h,g,d,t,os⟩):
 wpAny (model prog w) A (getAttrBy (.ref a) (.str "__class__" tk) fill expr) Q E ⟨h,g,d,t,os⟩:=by
 have L1:=W.looks_findIn (M:=model prog w) X f1
 have L2:=W.looks_findIn (M:=model prog w) X f2
 have f3':=F.excAttr_ValueError.ga.bind (.ref a)
 have hx0:(expr&&onTheHeap (Value.builtin "BaseException.__getattribute__"))=false:=by cases expr<;>rfl
 have hx2:(Value.builtin "BaseException.__getattribute__" ==Value.builtin "object.__getattribute__")=false:=by decide+kernel
 have hx1:(onTheHeap (Value.ref C)&&Value.builtin "BaseException.__getattribute__" ==Value.builtin "object.__getattribute__")=false:=by rw[hx2];rfl
 repeat (any_goals (first|assumption|with_reducible refine L0.at ?_|with_reducible refine L1.at ?_|with_reducible refine L2.at ?_|wp_step))
 refine zbl X L0 hm hb f3 ?_
 repeat (any_goals (first|assumption|wp_step))
theorem zbm{Q:Option Value->Shared->Prop}(X:K.In h)(L0:W.Looks (model prog w) h (typeOf (.ref a)) (.ref C))(hm:W.mroIn K C (.type "object")=some true)(hb:W.mroIn K C (.type "BaseException")=some true)(f1:W.findIn K (.ref C) "__getattribute__" =some (some (.builtin "BaseException.__getattribute__")))(f2:W.findIn K (.ref C) "__getattr__" =some none)(f3:W.findIn K (.ref C) "__class__" =some (some (.builtin "object.__class__")))(hq:Q (some (.ref C)) ⟨h,g,d,t+1,os⟩):
 wpAny (model prog w) A (getAttr? (.ref a) "__class__") Q E ⟨h,g,d,t,os⟩:=by
 unfold getAttr? getAttrBy?
 repeat (any_goals (first|assumption|with_reducible apply zf0 X L0 hm hb f1 f2 f3|wp_step))
end
structure XCls(K:W.Frag)(C:Addr):Prop where
 ob:W.mroIn K C (.type "object")=some true
 ba:W.mroIn K C (.type "BaseException")=some true
 f1:W.findIn K (.ref C) "__getattribute__" =some (some (.builtin "BaseException.__getattribute__"))
 f2:W.findIn K (.ref C) "__getattr__" =some none
 f3:W.findIn K (.ref C) "__class__" =some (some (.builtin "object.__class__"))
theorem z6D{K:W.Frag}{a C:Addr}(Z:XCls K C):W.KitX K (.ref a) (.ref C) (fun h=> ∃o,h.get? a=some o/\o.cls= .ref C) where
 ty:=fun M h _ ⟨o,e,c⟩=>c▸(W.Looks.ld e).andThen .now
 it:=fun M h X _=>by
  obtain⟨cd,hc,_⟩:=Option.bind_eq_some_iff.mp Z.ob
  unfold W.clsIn at hc
  split at hc
  ·rename_i c' d' cd' sl' ho
   intro A' Q' E' s' k q
   unfold isType loadHead
   exact wpAny_bind (wpAny_loadPart (k _ _ (X _ _ ho)) (wpAny_pure q))
  ·cases hc
 ne:=fun h tp dd its n sl X htp=>by
  obtain⟨cd,hc,_⟩:=Option.bind_eq_some_iff.mp Z.ob
  refine Bool.eq_false_iff.mpr fun q=> ?_
  have e:C=tp:=Value.ref.inj (beq_iff_eq.mp q)
  subst e
  unfold W.clsIn at hc
  split at hc
  ·rename_i c' d' cd' sl' ho
   have z:=(X _ _ ho).symm.trans htp
   cases z
  ·cases hc
 ca:=fun{prog w A E Q s} X ⟨o,e,c⟩ k=>by
  obtain⟨hh,g,d,t,os⟩:=s
  exact zbm X (c▸(W.Looks.ld e).andThen .now) Z.ob Z.ba Z.f1 Z.f2 Z.f3 k
end L2
namespace L2
open PySem PySem.Spec PySem.Calls PyProof.Rows
noncomputable def cvV:V->Value
 | .ref a=> .ref a| .ty n=> .type n|_=> .none
noncomputable def clsV:V->Bool
 | .ref _=>true| .ty _=>true|_=>false
theorem z4T: ∀{cs:List V} {us:List Value},(∀c∈cs,clsV c=true)->Vals cs us->us=cs.map cvV
 |[],_,_, .nil=>rfl
 |c::cs,_,h, .cons r rs=>by
  rw[List.map_cons,<-z4T (fun x hx=>h x (List.mem_cons_of_mem _ hx)) rs]
  have hc:=h c (List.mem_cons_self ..)
  cases c<;>first|(cases hc;done)|(have r:_=_:=r;rw[r];rfl)
noncomputable def clO(p:Addr)(us:List Value):HO:= .ext fun h=>h.get? p=some {cls:= .type "tuple",data:= .seq us.toArray}
section
variable{X:Cx}{pos:Pos}
noncomputable def tCls(us:List Value):TE:=fun _ H Q=> ∀p,H p=none->Q (.ref p) (upd H p (clO p us))
theorem z4U{es:List Expr}{k}{cs:List V}{t:TA}(h:PA X es t)(ht: ∀σ H Q,Q cs H->t σ H Q)(hca:cs.all clsV=true)(hl:Nat.ble cs.length 40=true):PE X (.Tuple es k pos) (tCls (cs.map cvV)):=by
 have hc: ∀c∈cs,clsV c=true:=List.all_eq_true.mp hca
 have hl:cs.length<=40:=Nat.le_of_ble_eq_true hl
 intro pins s σ H Q I hq
 refine wpAny_Tuple_spliced (thn (h pos pins s σ H (fun vs H1=>vs=cs/\H1=H) I (ht _ _ _ ⟨rfl,rfl⟩)) fun us s1 ⟨xs,H1,I1,r,e1,e2⟩=>⟨?_, ?_⟩)
 ·rw[<-r.length,e1,sizeLine_eq];lia
 ·subst e1 e2
  have hu:=z4T hc r
  subst hu
  have hf:H1 s1.heap.objs.size=none:=I1.hok.fresh (Nat.le_refl _)
  refine⟨.ref s1.heap.objs.size,upd H1 s1.heap.objs.size (clO s1.heap.objs.size (xs.map cvV)),I1.laid (t':=s1.toks) (fun b u e=>Heap.get?_push_of_some _ e) (Nat.le_refl _) ?_,rfl,hq _ hf⟩
  exact⟨Heap.get?_push_size _ rfl,⟨_,Heap.get?_push_size _ rfl⟩,fun h1 h2 q k=>k _ q⟩
noncomputable def zf1(K:W.Frag)(c:V):List V->Hp->VK->Prop:=fun xs H Q=> ∃a o C b,xs=[.ref a,c]/\H a=some (z5C o)/\o.cls= .ref C/\XCls K C/\W.kitOne K (.ref C) (cvV c)=some b/\Q (.bl b) H
theorem z8m{c:V}(hc:clsV c=true):CallR X (.builtin "isinstance") (zf1 X.K c):=by
 intro pins s σ H xs us Q I r ⟨a,o,C,b,e,hx,ho,Z,hk,q⟩
 subst e
 cases r with
 |cons r1 r2=>
  cases r2 with
  |cons r2 r3=>
   cases r3
   have e1:_=Value.ref a:=r1
   subst e1
   have e2:=z4T (cs:=[c]) (fun x hx=>by cases hx with|head=>exact hc|tail _ h=>cases h) (.cons r2 .nil)
   cases e2
   have hob:s.heap.get? a=some o:=(I.hok a _ hx).1
   exact W.kia_one (z6D Z) I.kIn ⟨o,hob,ho⟩ hk (by intro z;cases z) fun tk=>⟨.bl b,H,I.tok tk,rfl,q⟩
noncomputable def zf2(K:W.Frag)(us:List Value):List V->Hp->VK->Prop:=fun xs H Q=> ∃a o C p b,xs=[.ref a, .ref p]/\H a=some (z5C o)/\o.cls= .ref C/\XCls K C/\H p=some (clO p us)/\W.kitAny K (.ref C) us=some b/\Q (.bl b) H
theorem z8n{us:List Value}:CallR X (.builtin "isinstance") (zf2 X.K us):=by
 intro pins s σ H xs vs Q I r ⟨a,o,C,p,b,e,hx,ho,Z,hp,hk,q⟩
 subst e
 cases r with
 |cons r1 r2=>
  cases r2 with
  |cons r2 r3=>
   cases r3
   have e1:_=Value.ref a:=r1
   subst e1
   have e2:_=Value.ref p:=r2
   subst e2
   have hob:s.heap.get? a=some o:=(I.hok a _ hx).1
   have htp:s.heap.get? p=some {cls:= .type "tuple",data:= .seq us.toArray}:=(I.hok p _ hp).1
   exact W.kia_tup (z6D Z) I.kIn ⟨o,hob,ho⟩ htp hk (by intro z;cases z) fun tk=>⟨.bl b,H,I.tok tk,rfl,q⟩
end
end L2
namespace L2
open PySem PySem.Spec PySem.SeqAt PySem.Calls PyProof.Rows
end L2
namespace L2
open PySem PySem.Spec PySem.Calls PyProof.Rows
structure z1O(k:Nat)(A:Around):Prop where
 dp:A.depth+3*k+5<recursionLimit
 un:A.units+16*k+200<cLine
 gd:A.guards=some []
theorem z1O.mono{j k:Nat}{A:Around}(r:z1O k A)(h:j<=k):z1O j A:=⟨by have:=r.dp;lia,by have:=r.un;lia,r.gd⟩
theorem z1O.deeper{k:Nat}{A:Around}(r:z1O (k+1) A)(env:Env):z1O k (A.deeper env):=
 ⟨by have:=r.dp;show A.depth+1+3*k+5<_;lia,by have:=r.un;show A.units+3+16*k+200<_;lia,r.gd⟩
theorem Room.h{k:Nat}{A:Around}(r:Room k A)(o:Option Value):z1O k (A.mark o):=⟨r.dp,r.un,r.gd⟩
theorem z1O.depth{k:Nat}{A:Around}(r:z1O k A):A.depth<recursionLimit:=by have:=r.dp;lia
noncomputable abbrev cxH(CX:CXT)(P:Program)(w:World)(K:W.Frag)(mg:Str->Option Value)(base:Heap)(N:List Str)(qual:Str)(scope:Scope)(f:Addr)(cd:Value)(A:Around)(outer:List Env)(s:Shared)(H:Hp)(E:XK):Cx:=
 {cxOf CX P w K mg base N qual scope f cd A outer s H E with calm:=false}
structure z3a(P:Program)(w:World)(K:W.Frag)(mg:Str->Option Value)(base:Heap)(CX:CXT)(k:Nat)(f:Addr)(fd:FuncData)(ps:List Str)(sp:Sp):Prop where
 len: ∀vs H Q E,sp vs H Q E->vs.length=ps.length
 run: ∀(A:Around) (outer:List Env) (s:Shared) (H:Hp) (args:Args) (us:List Value) (vs:List V) (Q:VK) (E:XK),z1O k A->Env0 P w K mg base A outer s H->BindsTo s fd args (ps.zip us)->Vals vs us->sp vs H Q E->
  codeAny (model P w) A (.call (.ref f) args) (CR CX outer P w H s Q E) s
theorem z3a.mono{P:Program}{w:World}{K:W.Frag}{mg:Str->Option Value}{base:Heap}{CX:CXT}{j k:Nat}{f:Addr}{fd:FuncData}{ps:List Str}{sp:Sp}(F:z3a P w K mg base CX j f fd ps sp)(h:j<=k):
 z3a P w K mg base CX k f fd ps sp:=⟨F.len,fun A outer s H args us vs Q E hr=>F.run A outer s H args us vs Q E (hr.mono h)⟩
theorem Env0.nohd{P:Program}{w:World}{K:W.Frag}{mg:Str->Option Value}{base:Heap}{A:Around}{outer:List Env}{s:Shared}{H:Hp}(e:Env0 P w K mg base A outer s H):
 Env0 P w K mg base {A with handled:=none} outer s H:=⟨e.frames,e.mod,e.bs,e.bsz,e.funs,e.frf,e.hok,e.bare⟩
theorem z7q{CX:CXT}{P:Program}{w:World}{K:W.Frag}{mg:Str->Option Value}{base:Heap}{N ps:List Str}{qual:Str}{scope:Scope}{f:Addr}{cd:Value}{A:Around}{outer:List Env}{s s1:Shared}{H:Hp}{E:XK}{us:List Value}{vs:List V}
 (S:z05 N ps scope) (e0:Env0 P w K mg base A outer s H) (hl:vs.length=ps.length) (r:Vals vs us)
 (x:InCallC s s.heap.objs.size (bindL (envOfC qual scope s.heap.objs.size f cd).kindOf (ps.zip us) fun _=>none) (cellsFrom (s.heap.objs.size+1) scope.names []) (bindC (envOfC qual scope s.heap.objs.size f cd).kindOf (ps.zip us) fun _=>none) s1):
 Inv (cxH CX P w K mg base N qual scope f cd A outer s H E) [] (z33 N vs) H s1:=by
 have I:=z5o (A:={A with handled:=none}) (CX:=CX) (E:=E) S rfl e0.nohd hl r x
 have ok:=I.ok
 exact⟨⟨ok.mod,ok.kind,ok.glob,ok.blt,ok.above,ok.inj,ok.has,ok.cab,fun z=>Bool.noConfusion z,Around.frames_deeper e0.frames,ok.stk,ok.exf,ok.bs,ok.bsz,ok.noex,ok.exfs,ok.funs,ok.frf⟩,I.os,I.bare,I.base,I.loc,I.cell,I.free,I.freeC,I.pin,I.hok,I.len⟩
theorem zdv{CX:CXT}{P:Program}{w:World}{K:W.Frag}{mg:Str->Option Value}{base:Heap}{k:Nat}{f:Addr}{name qual:Str}{params:Arguments}{body:List Stmt}{scope:Scope}{dV kV doc pm cdv ct oc:Value}{an od:Option Addr}
 {osl:Array (Option Value)} {N ps:List Str} {sp:Sp} (lk:K.lookup f=some ⟨oc,od, .func (W.fnOf name qual params body scope dV kV doc pm an cdv ct),osl⟩) (hcd:W.codeIn K cdv qual=true) (S:z05 N ps scope)
 (len: ∀vs H Q E,sp vs H Q E->vs.length=ps.length)
 (hbody: ∀(A:Around) (outer:List Env) (s:Shared) (H:Hp) (vs:List V) (Q:VK) (E:XK),z1O k (A.deeper (envOfC qual scope s.heap.objs.size f cdv))->sp vs H Q E->
  ∃t,PSs (cxH CX P w K mg base N qual scope f cdv A outer s H E) body t/\t {nx:=fun _ H'=>Q .non H',rt:=Q} (z33 N vs) H):
 z3a P w K mg base CX (k+1) f (W.fnOf name qual params body scope dV kV doc pm an cdv ct) ps sp:=by
 refine⟨len,fun A outer s H args us vs Q E hr e0 hb r hsp=> ?_⟩
 have hl:=len _ _ _ _ hsp
 have KX:K.In s.heap:=e0.mod.kin.keeps fun b o e=>(e0.bs b o e).1
 have lim:s.heap.NoLimit:=e0.mod.nolimit.keeps fun b o e=>(e0.bs b o e).1
 have hkind: ∀y∈ps.zip us,scope.names.lookup y.1=some .local\/(scope.names.lookup y.1=some .cell/\((cellsFrom (s.heap.objs.size+1) scope.names []).lookup y.1).isSome=true):=fun⟨n,v⟩ hy=>by
  rcases S.par n (List.of_mem_zip hy).1 with q|q
  ·exact .inl q
  ·exact .inr ⟨q,W.cellsFrom_some _ _ _ (.inl q)⟩
 refine codeAny_call_function hr.depth (KX _ _ lk) rfl S.co S.gen rfl (W.codeRec_of KX hcd) (hb _ _ _ _ ?_)
 refine wpAny_newFunctionEnv_cells S.kind hkind fun env he s1 x=> ?_
 subst he
 refine⟨lim.keeps x.toInCall.keep,codeAny_func ?_⟩
 obtain⟨t,ht,hq⟩:=hbody A outer s H vs Q E (hr.deeper _) hsp
 have I:Inv (cxH CX P w K mg base N qual scope f cdv A outer s H E) [] (z33 N vs) H s1:=z7q S e0 hl r x
 refine wpAny_mono (ht [] s1 (z33 N vs) H _ I hq) (fun fl s' hs=> ?_) fun e s' hs=>hs
 have fin: ∀{σ':St} {H':Hp} {v:V} {u:Value},Inv (cxH CX P w K mg base N qual scope f cdv A outer s H E) [] σ' H' s'->RelV v u->Q v H'->CE outer P w H s Q u s':=
  fun{σ' H' v u} J rv q=>⟨v,H',J.os,J.bare,J.base,J.hok,rv,q⟩
 cases fl with
 |ret u=>
  obtain⟨v,σ',H',J,rv,q⟩:=hs
  exact fin J rv q
 |next=>
  obtain⟨σ',H',J,q⟩:=hs
  exact fin (v:=V.non) (u:=Value.none) J rfl q
 |brk=>
  obtain⟨_,_,_,q⟩:=hs
  exact False.elim q
 |cont=>
  obtain⟨_,_,_,q⟩:=hs
  exact False.elim q
section
variable{P:Program}{w:World}{K:W.Frag}{mg:Str->Option Value}{base:Heap}
theorem Fun.okH{x qual:Str}{st:Stmt}{f:Addr}{fd:FuncData}{N ps:List Str}{k:Nat}{sp:Sp}(F:Fun K x qual st f fd)(S:z05 N ps (z00 st))(len: ∀vs H Q E,sp vs H Q E->vs.length=ps.length)
 (hbody: ∀(cdv:Value) (A:Around) (outer:List Env) (s:Shared) (H:Hp) (vs:List V) (Q:VK) (E:XK),z1O k (A.deeper (envOfC qual (z00 st) s.heap.objs.size f cdv))->sp vs H Q E->
  ∃t,PSs (cxH CX0 P w K mg base N qual (z00 st) f cdv A outer s H E).nox (z0p st) t/\t {nx:=fun _ H'=>Q .non H',rt:=Q} (z33 N vs) H):z3a P w K mg base CX0 (k+1) f fd ps sp:=by
 obtain⟨oc,od,kV,doc,pm,an,cdv,ct,osl,rfl,lk,hcd⟩:=F.ex
 refine zdv lk hcd S len fun A outer s H vs Q E hr hsp=> ?_
 obtain⟨t,h,q⟩:=hbody cdv A outer s H vs Q E hr hsp
 exact⟨t,h.nox,q⟩
end
section
variable{X:Cx}{CX:CXT}{k:Nat}{f C:Addr}{fd:FuncData}{ps:List Str}{sp:Sp}{dvs:List V}{ds:List Value}{E:XK}{x m:Str}{p pos apos:Pos}{e o:Expr}{es:List Expr}{ta:TE}{t:TA}
theorem zbn{pins:List (Addr×Obj)}{σ:St}{H:Hp}{s:Shared}{Q:VK}{us:List Value}{vs:List V}(F:z3a X.prog X.w X.K X.mg X.base CX k f fd ps sp)(hr:z1O k X.A)(hb:z0U X.K fd ps ds)(hd:Vals dvs ds)(hx:z0G CX X E)
 (I:Inv X pins σ H s) (r:Vals vs us) (h:sp (vs++dvs) H Q E):wpAny (model X.prog X.w) X.A (call (.ref f) us) (EP X pins σ Q) X.xe s:=by
 have r2:Vals (vs++dvs) (us++ds):=r.append hd
 have hl:(us++ds).length=ps.length:=by rw[<-r2.length];exact F.len _ _ _ _ h
 refine wpAny_call (codeAny_mono (F.run X.A X.stack s H ⟨us,[]⟩ (us++ds) (vs++dvs) Q E hr I.env0 (hb s us I.kIn hl) r2 h) fun r s' hq=> ?_)
 cases r with
 |error e=>exact hx pins σ H s e s' I hq
 |ok fl=>
  cases fl with
  |ret u=>exact I.after hq
  |next=>exact False.elim hq
  |brk=>exact False.elim hq
  |cont=>exact False.elim hq
theorem z9E(F:z3a X.prog X.w X.K X.mg X.base CX k f fd ps sp)(hr:z1O k X.A)(hg:Gl X x)(hm:X.mg x=some (.ref f))(hk:W.keepIn X.K (.ref f)=true)(hb:z0U X.K fd ps ds)(hd:Vals dvs ds)(hx:z0G CX X E)
 (ha:PA X (e::es) t) (hdb:(x==("__debug__" :Str))=false:=by decide) (he:starEach (e::es) X.env=(false,eval e X.env)::starEach es X.env:=by rfl) (hpl:(backTo pos (starEach es X.env)).any (·.1)=false:=by rfl):
 PE X (.Call (.Name x p) (e::es) [] pos) (zcD sp dvs E t):=by
 intro pins s σ H Q I h
 refine wpAny_Call_Name_kw (z31 I hg hm ?_ hdb)
 refine W.callWith_K (h₀:=X.base) I.ok.mod.kin hk (thn (ha pos pins s σ H _ I h) fun us s1 ⟨vs,H1,I1,r,q⟩=>⟨I1.kIn, ?_⟩) he hpl
 exact zbn F hr hb hd hx I1 r q
end
end L2
namespace L2
open PySem PySem.Spec PyProof.Rows
end L2
namespace Mi
open PySem L2 PySem.Spec
open PyProof.Rows (envOfC)
structure XP(X:Cx)(G:Gx)(F:Fy)(E:L2.St->XK):Prop where
 ps:zbk X E
 xw: ∀c s',F.xw (.exc c) s'->∀ρ σv tv H C,F.tv0<:+tv->MR G F.toFx ρ H σv tv s'->G.cl c=some C->E σv (.ref C) none H
 no: ∀d s',F.xw d s'->∃c,d= .exc c
noncomputable def z6E(c:Str):MS:=fun s=> .ex (.exc c) s
section
variable{X:Cx}{G:Gx}{F:Fy}{E:L2.St->XK}{C:Addr}{x y:Str}{np cpos pos p:Pos}{j:Nat}
theorem ss_raise(hh:X.A.handled=none)(hx:XP X G F E)(hr:z3L X E)(hcl:G.cl x=some C)(hg:Gl X x)(hm:X.mg x=some (.ref C))(hq:W.excIn X.K C bmV "ValueError.__new__" =true)(hd:(x==("__debug__" :Str))=false:=by decide):
 SS X G F (.Raise (some (.Call (.Name x np) [.Constant (.str y) j p] [] cpos)) none pos) (z6E x):=
 PS.imp0 (z9z hh hr hg hm hq hd) fun D σ H ⟨tv,hs,ρ,s,M,W⟩=>hx.xw x s W ρ σ tv H C hs M hcl
end
open Classical in
noncomputable def z3M(r:RF)(ts:List D):M D:=fun s=>match r with
 | .ok t ts' n'=>if ts'=ts then .ok t {s with n:=n'} else
  if ∀l∈z0H s,l∈labsL ts->(findL l ts').isSome=true then .ok t {σ:=rpO (fun l=>findL l ts') s.σ,tm:=rpO (fun l=>findL l ts') s.tm,n:=n'} else .no
 | .ex d ts' n'=>if ts'=ts then .ex d {s with n:=n'} else
  if ∀l∈z0H s,l∈labsL ts->(findL l ts').isSome=true then .ex d {σ:=rpO (fun l=>findL l ts') s.σ,tm:=rpO (fun l=>findL l ts') s.tm,n:=n'} else .no
 | .no=> .no
noncomputable def spX(G:Gx)(np:Nat)(f:FM):Sp:=fun vs H Q E=>vs.length=np/\∃ρ n ts,RDs G ρ H ts vs/\(∀i j,i<n->j<n->ρ i=ρ j->i=j)/\(∀l,l<n->∃o,H (ρ l)=some o)/\(∀l∈labsL ts,l<n)/\KD G.K H/\match f ts n with
 | .ok t ts' n'=> ∀ρ' v H',z4R G ρ n ts vs H ρ' n' ts' H'->RD G ρ' H' t v->(∀l∈labs t,l<n'/\(l<n->l∈labsL ts))->Q v H'
 | .ex d ts' n'=> ∃c,d= .exc c/\∀ρ' H' C,z4R G ρ n ts vs H ρ' n' ts' H'->G.cl c=some C->E (.ref C) none H'
 | .no=>False
section
variable{X:Cx}{G:Gx}{F:Fy}{E:L2.St->XK}{ρ:Nat->Addr}{H:Hp}{σv tv:List (Option V)}{s:Stt}{np:Nat}
theorem z7r{ts:List D}{vs:List V}{f:FM}{Q:VK}(hx:XP X G F E)(hs:F.tv0<:+tv)(hl:vs.length=np)(M:MRL G F.toFx ρ H σv tv s ts vs)(W:wM G F σv tv (z3M (f ts s.n) ts s) Q):spX G np f vs H Q (E σv):=by
 refine⟨hl,ρ,s.n,ts,M.rd,M.m.inj,M.m.dom,fun l h=>(M.lb l h).1,M.m.kd, ?_⟩
 cases e:f ts s.n with
 |no=>rw[e] at W;exact W
 |ex d ts' n'=>
  rw[e] at W
  unfold z3M at W
  dsimp only at W
  split at W
  ·rename_i et
   subst et
   obtain⟨c,rfl⟩:=hx.no _ _ W
   exact⟨c,rfl,fun ρ' H' C P hc=>hx.xw c _ W ρ' σv tv H' C hs (M.m.call0 M.rd M.lb P) hc⟩
  ·split at W
   ·rename_i hc
    obtain⟨c,rfl⟩:=hx.no _ _ W
    exact⟨c,rfl,fun ρ' H' C P hcl=>hx.xw c _ W ρ' σv tv H' C hs (M.m.call M.rd M.lb P hc) hcl⟩
   ·exact False.elim W
 |ok t ts' n'=>
  rw[e] at W
  intro ρ' v H' P rd lbt
  have own: ∀l∈labs t,F.A0 (ρ' l)\/F.H0 (ρ' l)=none:=fun l h=>by
   obtain⟨b1,b2⟩:=lbt l h
   by_cases hn:l<s.n
   ·rw[P.old l hn];exact(M.lb l (b2 hn)).2
   ·exact .inr (M.m.fresh0 (P.new l (Nat.not_lt.mp hn) b1))
  unfold z3M at W
  dsimp only at W
  split at W
  ·rename_i et
   subst et
   exact W.out (M.m.call0 M.rd M.lb P) rd fun l h=>⟨(lbt l h).1,own l h⟩
  ·split at W
   ·rename_i hc
    exact W.out (M.m.call M.rd M.lb P hc) rd fun l h=>⟨(lbt l h).1,own l h⟩
   ·exact False.elim W
end
noncomputable def z26(k:Nat)(tm:List (Option D)):List (Option D):=tm.drop (tm.length -k)
noncomputable def runX(nl:Nat)(mb:MS):FM:=fun ts n=>match mb {σ:=ts.map some++List.replicate (nl -ts.length) none,tm:=ts.map some,n:=n} with
 | .nx s'=>match z03 s'.tm with|some ts'=> .ok .non ts' s'.n|none=> .no
 | .rt t s'=>match z03 s'.tm with|some ts'=> .ok t ts' s'.n|none=> .no
 | .ex d s'=>match z03 (z26 ts.length s'.tm) with|some ts'=> .ex d ts' s'.n|none=> .no
 |_=> .no
noncomputable def zdw(G:Gx)(ρ:Nat->Addr)(n:Nat)(ts:List D)(vs:List V)(H:Hp)(lb: ∀l∈labsL ts,l<n)(dom: ∀l,l<n->∃o,H (ρ l)=some o)(E:XK):Fy:=
 {(z5W G ρ n ts vs H lb dom) with xw:=fun d s'=> ∃c ts',d= .exc c/\z03 (z26 ts.length s'.tm)=some ts'/\∀ρ' H' C,z4R G ρ n ts vs H ρ' s'.n ts' H'->G.cl c=some C->E (.ref C) none H'}
theorem MR.last{G:Gx}{F:Fx}{ρ:Nat->Addr}{H:Hp}{σv tv t0:List (Option V)}{s:Stt}(M:MR G F ρ H σv tv s)(h:t0<:+tv):MR G F ρ H σv t0 {s with tm:=z26 t0.length s.tm}:=by
 obtain⟨t1,rfl⟩:=h
 have hl:=M.tm.length
 have e:z26 t0.length s.tm=s.tm.drop t1.length:=by
  unfold z26
  rw[hl,List.length_append]
  congr 1
  lia
 have sub: ∀l∈z06 (s.tm.drop t1.length),l∈z06 s.tm:=fun l hm=>by
  rw[<-List.take_append_drop t1.length s.tm,z0c]
  exact List.mem_append_right _ hm
 rw[e]
 refine⟨M.sl,(Sl.split t1 M.tm).2,M.inj,M.dom,fun l h=>M.lab l ?_,fun l h=>M.own l ?_,M.frm,M.kd,M.frb,M.bas⟩
 ·rcases List.mem_append.mp h with h|h
  ·exact List.mem_append_left _ h
  ·exact List.mem_append_right _ (sub l h)
 ·rcases List.mem_append.mp h with h|h
  ·exact List.mem_append_left _ h
  ·exact List.mem_append_right _ (sub l h)
theorem fn_X{G:Gx}{P:Program}{w:World}{K:W.Frag}{mg:Str->Option Value}{base:Heap}{x qual:Str}{st:Stmt}{fa:Addr}{fd:FuncData}{N ps:List Str}{k:Nat}{mb:MS}(Fn:Fun K x qual st fa fd)(S:z05 N ps (z00 st))(hG:G.K=K)
 (hb: ∀(cdv:Value) (A:Around) (outer:List Env) (s:Shared) (H:Hp) (E:XK) (F:Fy),Room k (A.deeper (envOfC qual (z00 st) s.heap.objs.size fa cdv))->XP (cxOf (CX1 P w) P w K mg base N qual (z00 st) fa cdv A outer s H E) G F (fun _=>E)->z3L (cxOf (CX1 P w) P w K mg base N qual (z00 st) fa cdv A outer s H E) (fun _=>E)->SSs (cxOf (CX1 P w) P w K mg base N qual (z00 st) fa cdv A outer s H E) G F (z0p st) mb):
 FnOk P w K mg base (CX1 P w) (k+1) fa fd ps (spX G ps.length (runX N.length mb)):=by
 obtain⟨oc,od,kV,doc,pm,an,cdv,ct,osl,rfl,lk,hcd⟩:=Fn.ex
 refine zcF lk hcd S (fun vs H Q E h=>h.1) fun A outer s H vs Q E hr h=> ?_
 obtain⟨hl,ρ,n,ts,r,inj,dom,lb,kd,W⟩:=h
 have hlen:=r.length
 have hX:XP (cxOf (CX1 P w) P w K mg base N qual (z00 st) fa cdv A outer s H E) G (zdw G ρ n ts vs H lb dom E) (fun _=>E):=by
  refine⟨fun pins σ H1 s1 e s2 I h=>z60 pins σ H1 s1 e s2 I h,fun c s' ⟨c',ts',e1,e2,q⟩ ρ' σv tv H' C hs M hc=> ?_,fun d s' ⟨c,ts',e1,_⟩=>⟨c,e1⟩⟩
  cases e1
  have M2:MR G (z5W G ρ n ts vs H lb dom).toFx ρ' H' σv (vs.map some) {s' with tm:=z26 ts.length s'.tm}:=by
   have:=MR.last (t0:=vs.map some) M hs
   rw[List.length_map,<-hlen] at this
   exact this
  obtain⟨P,_⟩:=z1N inj M2 e2
  exact q ρ' H' C P hc
 have hR:z3L (cxOf (CX1 P w) P w K mg base N qual (z00 st) fa cdv A outer s H E) (fun _=>E):=fun pins σ H1 s1 h' e C args I hm hE=>zdq I hm hE
 refine⟨_,hb cdv A outer s H E (zdw G ρ n ts vs H lb dom E) hr hX hR,vs.map some,List.suffix_refl _,ρ,{σ:=ts.map some++List.replicate (N.length -ts.length) none,tm:=ts.map some,n:=n}, ?_, ?_⟩
 ·obtain⟨r1,r2⟩:=RDs.sl r
  have sub: ∀l∈z0H {σ:=ts.map some++List.replicate (N.length -ts.length) none,tm:=ts.map some,n:=n},l∈labsL ts:=fun l h=>by
   rcases List.mem_append.mp h with h|h
   ·have h:l∈z06 (ts.map some++List.replicate (N.length -ts.length) none):=h
    rw[z0c] at h
    rcases List.mem_append.mp h with h|h
    ·rw[<-r2];exact h
    ·exact absurd h (z29 _)
   ·rw[<-r2];exact h
  refine⟨?_,r1,inj,dom,fun l h=>lb l (sub l h),fun l h=> .inl ⟨l,sub l h,rfl⟩,fun a o e=>⟨⟨o,e⟩,fun _=>e⟩,kd,fun l hl z=>z.2 l hl rfl,⟨Nat.le_refl _,fun l _=>rfl⟩⟩
  show Sl G ρ H _ (vs.map some++List.replicate (N.length -vs.length) none)
  rw[<-hlen]
  exact r1.append (Sl.none_map _)
 ·unfold runX at W
  cases e:mb {σ:=ts.map some++List.replicate (N.length -ts.length) none,tm:=ts.map some,n:=n} with
  |nx s'=>
   simp only[e] at W
   cases ea:z03 s'.tm with
   |none=>simp only[ea] at W
   |some ts'=>
    simp only[ea] at W
    intro ρ' σv' H' M
    obtain⟨P,_⟩:=z1N (lb:=lb) (dom:=dom) inj M ea
    exact W ρ' .non H' P (by simp only[RD]) fun l h=>by simp[labs] at h
  |rt t s'=>
   simp only[e] at W
   cases ea:z03 s'.tm with
   |none=>simp only[ea] at W
   |some ts'=>
    simp only[ea] at W
    intro ρ' σv' v H' M
    obtain⟨P,own⟩:=z1N (lb:=lb) (dom:=dom) inj M.m ea
    exact W ρ' v H' P M.rd1 fun l h=>⟨(M.lb1 l h).1,own l (M.lb1 l h).1 (M.lb1 l h).2⟩
  |bk s'=>simp only[e] at W
  |ct s'=>simp only[e] at W
  |ex d s'=>
   simp only[e] at W
   cases ea:z03 (z26 ts.length s'.tm) with
   |none=>simp only[ea] at W
   |some ts'=>
    simp only[ea] at W
    obtain⟨c,e1,q⟩:=W
    exact⟨c,ts',e1,ea,q⟩
  |no=>simp only[e] at W
noncomputable def sTry(k:Str->Bool)(ie:Nat)(mb mh:MS):MS:=fun s=>match mb s with
 | .ex (.exc c) s'=>if k c then(match mh {σ:=s'.σ.set ie (some (.exc c)),tm:=z26 s.tm.length s'.tm,n:=s'.n} with
  | .rt d s''=> .rt d s''
  |_=> .no) else .no
 | .ex _ _=> .no
 |r=>r
noncomputable def tryF(G:Gx)(F:Fy)(k:Str->Bool)(ie:Nat)(mh:MS)(tv:List (Option V))(D:Ends):Fy:=
 {F with tv0:=tv,xw:=fun d s'=> ∃c,d= .exc c/\k c=true/\wS G F tv (match mh {σ:=s'.σ.set ie (some (.exc c)),tm:=z26 tv.length s'.tm,n:=s'.n} with| .rt d s''=> .rt d s''|_=> .no) D}
section
variable{X:Cx}{G:Gx}{F:Fy}{np hpos pos:Pos}{b₀:Stmt}{suite body:List Stmt}{x n:Str}{ie:Nat}{CB:Addr}{mb mh:MS}{k:Str->Bool}
theorem ss_try(hst:X.stack=X.env::X.outer)(hfr:X.env.frame=some X.env.locals)(hex:X.ex=[])(hK:X.K=G.K)(hg:Gl X x)(hm:X.mg x=some (.ref CB))(hN:X.N.Nodup)(hi:X.N[ie]? =some n)(hloc:X.env.scope.names.lookup n=some .local)
 (hk: ∀c C,G.cl c=some C->k c=true->W.exmOne X.K (.ref C) (.ref CB)=some true)
 (hb: ∀(pl:List (Addr×Obj)) (E':Value->Shared->Prop) (F':Fy) (E:L2.St->XK),XP (Xt X pl E') G F' E->SSs (Xt X pl E') G F' body mb) (hh: ∀a,SSs (Xm X a) G F (b₀::suite) mh) (hd:(x==("__debug__" :Str))=false:=by decide):
 SS X G F (.Try body [.ExceptHandler (some (.Name x np)) (some n) (b₀::suite) hpos] [] [] pos) (sTry k ie mb mh):=by
 intro pins s σ H D I ⟨tv,hs,ρ,ms,M,W⟩
 refine wpAny_Try_except ?_
 have hlt:ms.tm.length=tv.length:=M.tm.length
 have hX:XP (Xt X (X.pn++pins) (z9A X [.ExceptHandler (some (.Name x np)) (some n) (b₀::suite) hpos] (SP X pins D))) G (tryF G F k ie mh tv D) (zdt X.K CB ie (tS G F mh) D):=by
  refine⟨fun pins' σ' H' s' e s2 I' h=> ?_,fun c s' ⟨c',e1,hkc,q⟩ ρ' σv tv' H' C hs' M' hc=> ?_,fun d s' ⟨c,e1,_⟩=>⟨c,e1⟩⟩
  ·exact z9B hst hfr hex hg hm hN hi hloc hh hd I'.unxt h
  ·cases e1
   refine⟨hk c C hc hkc,fun a o hn hKn ho hf=>⟨tv,hs,ρ',{σ:=s'.σ.set ie (some (.exc c)),tm:=z26 tv.length s'.tm,n:=s'.n}, ?_, ?_⟩⟩
   ·have M1:MR G F.toFx ρ' H' σv tv {s' with tm:=z26 tv.length s'.tm}:=MR.last (t0:=tv) M' hs'
    have kd:KD G.K (upd H' a (z5C o)):=fun b ob q=>by
     by_cases hb:b=a
     ·subst hb;rw[<-hK,hKn] at q;cases q
     ·rw[z04 hb];exact M1.kd b ob q
    have M2:=M1.same (Same.new (z5C o) hn) kd
    have rd:RD G ρ' (upd H' a (z5C o)) (.exc c) (.ref a):=by
     simp only[RD]
     exact⟨a,o,C,rfl,hc,ho,hf,z09⟩
    have M3:=MRL.setS ie (⟨M2,RDs.one rd,fun l hl=>by simp[labsL,labs] at hl⟩:MRL G F.toFx ρ' (upd H' a (z5C o)) σv tv {s' with tm:=z26 tv.length s'.tm} [.exc c] [.ref a])
    exact M3.m
   ·revert q
    cases mh {σ:=s'.σ.set ie (some (.exc c)),tm:=z26 tv.length s'.tm,n:=s'.n} with
    |rt d s''=>exact fun q=>q
    |nx s''=>exact fun q=>q.elim
    |bk s''=>exact fun q=>q.elim
    |ct s''=>exact fun q=>q.elim
    |ex d s''=>exact fun q=>q.elim
    |no=>exact fun q=>q.elim
 have W':wS G (tryF G F k ie mh tv D) tv (mb ms) D:=by
  unfold sTry at W
  cases e:mb ms with
  |nx s'=>rw[e] at W;exact W
  |rt d s'=>rw[e] at W;exact W
  |bk s'=>rw[e] at W;exact W
  |ct s'=>rw[e] at W;exact W
  |no=>rw[e] at W;exact W
  |ex d s'=>
   rw[e] at W
   cases d with
   |exc c=>
    dsimp only at W
    by_cases hkc:k c=true
    ·rw[if_pos hkc,hlt] at W;exact⟨c,rfl,hkc,W⟩
    ·rw[if_neg hkc] at W;exact False.elim W
   |_=>exact False.elim W
 refine wpAny_mono (hb (X.pn++pins) (z9A X [.ExceptHandler (some (.Name x np)) (some n) (b₀::suite) hpos] (SP X pins D)) (tryF G F k ie mh tv D) _ hX [] s σ H D I.xt ⟨tv,List.suffix_refl _,ρ,ms,M,W'⟩) (fun f s1 q=> ?_) fun _ _ z=>z
 cases f with
 |next=>obtain⟨σ',H',I',q⟩:=q;exact wpAny_execs_nil ⟨σ',H',I'.unxt,q⟩
 |brk=>obtain⟨σ',H',I',q⟩:=q;exact⟨σ',H',I'.unxt,q⟩
 |cont=>obtain⟨σ',H',I',q⟩:=q;exact⟨σ',H',I'.unxt,q⟩
 |ret u=>obtain⟨v,σ',H',I',r,q⟩:=q;exact⟨v,σ',H',I'.unxt,r,q⟩
noncomputable def mIsX(tb:Str->Option Bool)(m:M D):M D:=bd m fun d=>match d with
 | .exc c=>(match tb c with|some b=>rt (.bool b)|none=>fl)
 |_=>fl
theorem se_isX1{p:Pos}{x y:Expr}{m:M D}{c:V}{tb:Str->Option Bool}(hK:X.K=G.K)(hc:clsV c=true)(ht: ∀r C b,G.cl r=some C->tb r=some b->XCls X.K C/\W.kitOne X.K (.ref C) (cvV c)=some b)(hgl:Gl X "isinstance")(hm:X.mg "isinstance" =none)(ha:SE X G F x m)(hy:PE X y (tC c))
 (he:starEach [x,y] X.env=(false,eval x X.env)::starEach [y] X.env:=by rfl) (he2:starEach [y] X.env=(false,eval y X.env)::starEach [] X.env:=by rfl) (hpl:(backTo pos (starEach [y] X.env)).any (·.1)=false:=by rfl):SE X G F (.Call (.Name "isinstance" p) [x,y] [] pos) (mIsX tb m):=by
 refine PE.imp hK (z2G (z8m (c:=c) hc) hgl hm PyProof.Rows.Boot.«isinstance» (z08 ha (z08 hy z27 he2) he) (by decide) (by decide) he hpl) fun σ H Q ⟨tv,h⟩=>⟨tv,(z3q h).mono fun v H1 ⟨ρ1,s1,t,M1,W⟩=> ?_⟩
 cases t with
 |exc r=>
  have h1:=M1.rd1
  simp only[RD] at h1
  obtain⟨a,o,C,e,hcl,ho,hf,hH⟩:=h1
  cases e
  cases eb:tb r with
  |none=>simp only[eb] at W;exact False.elim W
  |some b=>
   simp only[eb] at W
   obtain⟨z1,z2⟩:=ht r C b hcl eb
   exact⟨a,o,C,b,rfl,hH,ho,z1,z2,fun _=>W.flat M1.m rfl⟩
 |_=>exact False.elim W
theorem se_isXT{p:Pos}{x y:Expr}{m:M D}{us:List Value}{tb:Str->Option Bool}(hK:X.K=G.K)(ht: ∀r C b,G.cl r=some C->tb r=some b->XCls X.K C/\W.kitAny X.K (.ref C) us=some b)(hgl:Gl X "isinstance")(hm:X.mg "isinstance" =none)(ha:SE X G F x m)(hy:PE X y (tCls us))
 (he:starEach [x,y] X.env=(false,eval x X.env)::starEach [y] X.env:=by rfl) (he2:starEach [y] X.env=(false,eval y X.env)::starEach [] X.env:=by rfl) (hpl:(backTo pos (starEach [y] X.env)).any (·.1)=false:=by rfl):SE X G F (.Call (.Name "isinstance" p) [x,y] [] pos) (mIsX tb m):=by
 refine PE.imp hK (z2G (z8n (us:=us)) hgl hm PyProof.Rows.Boot.«isinstance» (z08 ha (z08 hy z27 he2) he) (by decide) (by decide) he hpl) fun σ H Q ⟨tv,h⟩=>⟨tv,(z3q h).mono fun v H1 ⟨ρ1,s1,t,M1,W⟩=> ?_⟩
 cases t with
 |exc r=>
  have h1:=M1.rd1
  simp only[RD] at h1
  obtain⟨a,o,C,e,hcl,ho,hf,hH⟩:=h1
  cases e
  cases eb:tb r with
  |none=>simp only[eb] at W;exact False.elim W
  |some b=>
   simp only[eb] at W
   obtain⟨z1,z2⟩:=ht r C b hcl eb
   intro q hq
   have sm:=Same.new (clO q us) hq
   exact⟨a,o,C,q,b,rfl,sm _ _ hH,ho,z1,z09,z2,fun k=>W.flat (M1.m.same sm k) rfl⟩
 |_=>exact False.elim W
end
end Mi
namespace Mi
open PySem L2 PySem.Spec
inductive Al(Φ:Addr->Prop):List (Str×Addr)->Prop
 |nil:Al Φ []
 |cons {c:Str} {a:Addr} {l:List (Str×Addr)}:Φ a->Al Φ l->Al Φ ((c,a)::l)
theorem Al.at{Φ:Addr->Prop}{l:List (Str×Addr)}(h:Al Φ l){c:Str}{a:Addr}(e:l.lookup c=some a):Φ a:=by
 induction h with
 |nil=>cases e
 | @cons c' a' l h _ ih=>
  rw[List.lookup_cons] at e
  cases q:c==c' with
  |true=>rw[q] at e;cases e;exact h
  |false=>rw[q] at e;exact ih e
inductive Al2{β:Type}(Φ:Addr->β->Prop):List (Str×Addr)->List (Str×β)->Prop
 |nil:Al2 Φ [] []
 |cons {c:Str} {a:Addr} {b:β} {l:List (Str×Addr)} {r:List (Str×β)}:Φ a b->Al2 Φ l r->Al2 Φ ((c,a)::l) ((c,b)::r)
 |skip {c:Str} {a:Addr} {l:List (Str×Addr)} {r:List (Str×β)}:r.lookup c=none->Al2 Φ l r->Al2 Φ ((c,a)::l) r
theorem Al2.at{β:Type}{Φ:Addr->β->Prop}{l:List (Str×Addr)}{r:List (Str×β)}(h:Al2 Φ l r): ∀{c:Str} {a:Addr} {b:β},l.lookup c=some a->r.lookup c=some b->Φ a b:=by
 induction h with
 |nil=>intro c a b e;cases e
 | @cons c' a' b' l r h _ ih=>
  intro c a b e e2
  rw[List.lookup_cons] at e e2
  cases q:c==c' with
  |true=>rw[q] at e e2;cases e;cases e2;exact h
  |false=>rw[q] at e e2;exact ih e e2
 | @skip c' a' l r hn _ ih=>
  intro c a b e e2
  rw[List.lookup_cons] at e
  cases q:c==c' with
  |true=>rw[beq_iff_eq] at q;subst q;rw[hn] at e2;cases e2
  |false=>rw[q] at e;exact ih e e2
theorem z3b: ∀{l:List (Str×Addr)} {c:Str} {a:Addr},l.lookup c=some a->a∈l.map (·.2)
 |(c',a')::l,c,a,e=>by
  rw[List.lookup_cons] at e
  cases q:c==c' with
  |true=>rw[q] at e;cases e;exact List.mem_cons_self ..
  |false=>rw[q] at e;exact List.mem_cons_of_mem _ (z3b e)
theorem z4u: ∀{l:List (Str×Addr)},(l.map (·.2)).Nodup->∀{c c':Str} {a:Addr},l.lookup c=some a->l.lookup c'=some a->c=c'
 |(k,v)::l,nd,c,c',a,e,e'=>by
  rw[List.map_cons,List.nodup_cons] at nd
  rw[List.lookup_cons] at e e'
  cases q:c==k with
  |true=>
   rw[q] at e;cases e
   cases q':c'==k with
   |true=>rw[beq_iff_eq] at q q';rw[q,q']
   |false=>rw[q'] at e';exact absurd (z3b e') nd.1
  |false=>
   rw[q] at e
   cases q':c'==k with
   |true=>rw[q'] at e';cases e';exact absurd (z3b e) nd.1
   |false=>rw[q'] at e';exact z4u nd.2 e e'
noncomputable def NSq(K:W.Frag)(a:Addr):Prop:= ∃o,K.lookup a=some o/\∀its n,o.data≠ .seq its n
theorem zbo{K:W.Frag}{C:Addr}{bm:List Value}{i:String}(q:W.excIn K C bm i=true):NSq K C:=by
 unfold W.excIn at q
 split at q
 ·rename_i dd cd sl ho
  exact⟨_,ho,fun its n z=>by cases z⟩
 ·cases q
noncomputable def mkG(K:W.Frag)(l:List (Str×Addr))(nd:(l.map (·.2)).Nodup)(ok:Al (NSq K) l):Gx:=⟨K,fun c=>l.lookup c,fun _ _ _ h h'=>z4u nd h h',fun _ _ h=>ok.at h⟩
section
variable{X:Cx}{G:Gx}{F:Fy}{E:L2.St->XK}
structure FnV(X:Cx)(G:Gx)(np:Nat)(a:Addr)(f:FM):Prop where
 ex: ∃k fd ps,ps.length=np/\FnOk X.prog X.w X.K X.mg X.base (CX1 X.prog X.w) k a fd ps (spX G np f)/\Room k X.A/\W.keepIn X.K (.ref a)=true/\z0U X.K fd ps []
end
end Mi
namespace Mi
open PySem L2 PySem.Spec
open PyProof.Rows (envOfC)
section
variable{G:Gx}{ρ ρ':Nat->Addr}{H H':Hp}
variable{F:Fy}{σv tv:List (Option V)}{s:Stt}{np:Nat}
theorem se_callH{X:Cx}{e:Expr}{es:List Expr}{pos p:Pos}{CX:CXT}{k:Nat}{fa:Addr}{fd:FuncData}{ps:List Str}{x:Str}{E:XK}{f:FM}{ms:List (M D)}(hk:X.K=G.K)(Fn:z3a X.prog X.w X.K X.mg X.base CX k fa fd ps (spM G ps.length f))(hr:z1O k X.A)(hg:Gl X x)(hm:X.mg x=some (.ref fa))(hkp:W.keepIn X.K (.ref fa)=true)(hb:z0U X.K fd ps [])(hx:z0G CX X E)
 (ha:SA X G F (e::es) (z02 ms)) (hln:ms.length=ps.length) (hdb:(x==("__debug__" :Str))=false:=by decide) (he:starEach (e::es) X.env=(false,eval e X.env)::starEach es X.env:=by rfl) (hpl:(backTo pos (starEach es X.env)).any (·.1)=false:=by rfl):
 SE X G F (.Call (.Name x p) (e::es) [] pos) (z0d f ms):=by
 refine PE.imp0 (z9E Fn hr hg hm hkp hb .nil hx ha hdb he hpl) fun σ H Q ⟨tv,hs,ρ,s,M,W⟩=>⟨tv,hs,ρ,s,M, ?_⟩
 unfold z0d bd at W
 cases e1:z02 ms s with
 |ex d s1=>rw[e1] at W;exact W
 |no=>rw[e1] at W;exact W
 |ok ts s1=>
  rw[e1] at W
  intro ρ1 vs H1 M1
  rw[List.append_nil]
  exact z2N (by rw[<-M1.rd.length,z2b ms s ts s1 e1,hln]) M1 W
theorem fn_H{P:Program}{w:World}{K:W.Frag}{mg:Str->Option Value}{base:Heap}{x qual:Str}{st:Stmt}{fa:Addr}{fd:FuncData}{N ps:List Str}{k:Nat}{mb:MS}(Fn:Fun K x qual st fa fd)(S:z05 N ps (z00 st))(hG:G.K=K)
 (hb: ∀(cdv:Value) (A:Around) (outer:List Env) (s:Shared) (H:Hp) (E:XK) (F:Fy),z1O k (A.deeper (envOfC qual (z00 st) s.heap.objs.size fa cdv))->SSs (cxH CX0 P w K mg base N qual (z00 st) fa cdv A outer s H E).nox G F (z0p st) mb):
 z3a P w K mg base CX0 (k+1) fa fd ps (spM G ps.length (runF N.length mb)):=by
 refine Fn.okH S (fun vs H Q E h=>h.1) fun cdv A outer s H vs Q E hr h=> ?_
 obtain⟨hl,ρ,n,ts,r,inj,dom,lb,kd,W⟩:=h
 refine⟨_,hb cdv A outer s H E (z5W G ρ n ts vs H lb dom) hr,vs.map some,List.suffix_refl _,ρ,{σ:=ts.map some++List.replicate (N.length -ts.length) none,tm:=ts.map some,n:=n}, ?_, ?_⟩
 ·obtain⟨r1,r2⟩:=RDs.sl r
  have hlen:=r.length
  have sub: ∀l∈z0H {σ:=ts.map some++List.replicate (N.length -ts.length) none,tm:=ts.map some,n:=n},l∈labsL ts:=fun l h=>by
   rcases List.mem_append.mp h with h|h
   ·have h:l∈z06 (ts.map some++List.replicate (N.length -ts.length) none):=h
    rw[z0c] at h
    rcases List.mem_append.mp h with h|h
    ·rw[<-r2];exact h
    ·exact absurd h (z29 _)
   ·rw[<-r2];exact h
  refine⟨?_,r1,inj,dom,fun l h=>lb l (sub l h),fun l h=> .inl ⟨l,sub l h,rfl⟩,fun a o e=>⟨⟨o,e⟩,fun _=>e⟩,kd,fun l hl z=>z.2 l hl rfl,⟨Nat.le_refl _,fun l _=>rfl⟩⟩
  show Sl G ρ H _ (vs.map some++List.replicate (N.length -vs.length) none)
  rw[<-hlen]
  exact r1.append (Sl.none_map _)
 ·unfold runF at W
  cases e:mb {σ:=ts.map some++List.replicate (N.length -ts.length) none,tm:=ts.map some,n:=n} with
  |nx s'=>
   simp only[e] at W
   cases ea:z03 s'.tm with
   |none=>simp only[ea] at W
   |some ts'=>
    simp only[ea] at W
    intro ρ' σv' H' M
    obtain⟨P,_⟩:=z1N inj M ea
    exact W ρ' .non H' P (by simp only[RD]) fun l h=>by simp[labs] at h
  |rt t s'=>
   simp only[e] at W
   cases ea:z03 s'.tm with
   |none=>simp only[ea] at W
   |some ts'=>
    simp only[ea] at W
    intro ρ' σv' v H' M
    obtain⟨P,own⟩:=z1N inj M.m ea
    exact W ρ' v H' P M.rd1 fun l h=>⟨(M.lb1 l h).1,own l (M.lb1 l h).1 (M.lb1 l h).2⟩
  |bk s'=>simp only[e] at W
  |ct s'=>simp only[e] at W
  |ex d s'=>
   simp only[e] at W
   cases ea:z03 s'.tm with
   |none=>simp only[ea] at W
   |some ts'=>simp only[ea] at W
  |no=>simp only[e] at W
end
end Mi
namespace Mi
open PySem L2 PySem.Spec
end Mi
namespace Mi
open PySem L2
end Mi
namespace PySem
end PySem
namespace L2
open PySem PySem.Spec PyProof.Rows
end L2
namespace Mi
open PySem L2 PySem.Spec
section
variable{X:Cx}{G:Gx}{F:Fy}{a b e:Expr}{ma mb:M D}{pos:Pos}
theorem ss_setN{i:Nat}{x:Str}{p:Pos}{m:M D}(hN:X.N.Nodup)(hi:X.N[i]? =some x)(hx:Loc X.env.scope x)(hf:X.fn x=true\/X.env.scope.names.lookup x=some .local)(he:SE X G F e m)(hs:swapsWith e (some (.Name x p)) pos.line X.env=pure false:=by rfl):SS X G F (.Assign [.Name x p] e pos) (sAsg (.nm i) m):=
 ss_set (fun{te} h=>za4 hN hi hx h hs hf) he
end
section
variable{G:Gx}{ρ:Nat->Addr}{H:Hp}
noncomputable def fndN:List Str->List D->Str->Option D
 |n::ns,v::vs,f=>if n=f then some v else fndN ns vs f
 |_,_,_=>none
theorem z8o{f:Str}: ∀{fs:List (Str×V)} {vs:List D} {d:D},RDs G ρ H vs (fs.map (·.2))->fndN (fs.map (·.1)) vs f=some d->∃v,fs.lookup f=some v/\RD G ρ H d v/\d∈vs
 |[],vs,d,_,e=>by cases vs<;>simp[fndN] at e
 |(g,x)::fs,[],d,_,e=>by simp[fndN] at e
 |(g,x)::fs,w::vs,d,r,e=>by
  simp only[List.map_cons,RDs] at r
  obtain⟨y,q,e1,h1,h2⟩:=r
  cases e1
  simp only[List.map_cons,fndN] at e
  by_cases hg:g=f
  ·rw[if_pos hg] at e;cases e
   exact⟨x,by simp[List.lookup,hg],h1,List.mem_cons_self ..⟩
  ·rw[if_neg hg] at e
   obtain⟨v,a,b,c⟩:=z8o h2 e
   refine⟨v, ?_,b,List.mem_cons_of_mem _ c⟩
   have:(f==g)=false:=by simpa using fun z:f=g=>hg z.symm
   simp[List.lookup,this,a]
noncomputable def putN:List Str->List D->Str->D->List Str×List D
 |n::ns,v::vs,f,d=>if n=f then(n::ns,d::vs) else((n::(putN ns vs f d).1),(v::(putN ns vs f d).2))
 |_,_,f,d=>([f],[d])
theorem z8p{f:Str}{d:D}{v:V}(hd:RD G ρ H d v): ∀{fs:List (Str×V)} {vs:List D},RDs G ρ H vs (fs.map (·.2))->(putN (fs.map (·.1)) vs f d).1=(putF f v fs).map (·.1)/\RDs G ρ H (putN (fs.map (·.1)) vs f d).2 ((putF f v fs).map (·.2))
 |[],vs,r=>by
  simp only[List.map_nil,putN,putF,List.map_cons,true_and]
  exact RDs.one hd
 |(g,x)::fs,[],r=>by simp only[List.map_cons,RDs] at r;cases r
 |(g,x)::fs,w::vs,r=>by
  simp only[List.map_cons,RDs] at r
  obtain⟨y,q,e1,h1,h2⟩:=r
  cases e1
  simp only[List.map_cons,putN,putF]
  by_cases hg:g=f
  ·rw[if_pos hg,if_pos hg]
   exact⟨rfl,by simp only[List.map_cons,RDs];exact⟨_,_,rfl,hd,h2⟩⟩
  ·rw[if_neg hg,if_neg hg]
   obtain⟨a,b⟩:=z8p (f:=f) hd h2
   exact⟨by simp only[List.map_cons,a],by simp only[List.map_cons,RDs];exact⟨_,_,rfl,h1,b⟩⟩
theorem z6F{f:Str}{d:D}: ∀{ns:List Str} {vs:List D} {e:D},e∈(putN ns vs f d).2->e∈vs\/e=d
 |[],vs,e,h=>by simp only[putN,List.mem_singleton] at h;exact .inr h
 |n::ns,[],e,h=>by simp only[putN,List.mem_singleton] at h;exact .inr h
 |n::ns,v::vs,e,h=>by
  simp only[putN] at h
  split at h
  ·rcases List.mem_cons.mp h with z|z
   ·exact .inr z
   ·exact .inl (List.mem_cons_of_mem _ z)
  ·rcases List.mem_cons.mp h with z|z
   ·exact .inl (z▸List.mem_cons_self ..)
   ·rcases z6F z with z|z
    ·exact .inl (List.mem_cons_of_mem _ z)
    ·exact .inr z
end
noncomputable def fldD(f:Str)(ok:Str->Bool):D->M D
 | .obj _ c ns vs=>fun s=>if ok c then(match fndN ns vs f with|some d=> .ok d s|none=> .no) else .no
 |_=>fl
noncomputable def mFld(m:M D)(f:Str)(ok:Str->Bool):M D:=bd m (fldD f ok)
section
variable{X:Cx}{G:Gx}{F:Fy}{e o value:Expr}{pos:Pos}
theorem se_fld{f:Str}{ok:Str->Bool}{m:M D}(he:SE X G F e m)(hc: ∀c C,G.cl c=some C->ok c=true->Cls X.K C/\z0t X.K C f)(hb:attributeBase e f X.env (eval e X.env)=eval e X.env:=by rfl):SE X G F (.Attribute e f pos) (mFld m f ok):=by
 refine PE.imp0 (zcz he hb) fun σ H Q ⟨tv,h⟩=>⟨tv,(z3q h).mono fun v H1 ⟨ρ1,s1,t,M1,W⟩=> ?_⟩
 have hr:=M1.rd1
 cases t with
 |obj l c ns vs=>
  simp only[fldD] at W
  split at W
  ·rename_i hok
   simp only[RD] at hr
   obtain⟨rfl,C,dx,fs,hC,hH,rfl,r⟩:=hr
   cases ef:fndN (fs.map (·.1)) vs f with
   |none=>simp only[ef] at W;exact False.elim W
   |some d=>
    simp only[ef] at W
    obtain⟨v,lk,rd,mem⟩:=z8o r ef
    refine⟨_,C,dx,fs,v,rfl,hH,(hc c C hC hok).1,(hc c C hC hok).2,lk,W.out M1.m rd fun j hj=>M1.lb j ?_⟩
    simp only[labsL,labs,List.append_nil]
    exact List.mem_cons_of_mem _ (labsL_mem mem j hj)
  ·exact False.elim W
 |_=>exact False.elim W
end
section
variable{G:Gx}{F:Fy}{ρ:Nat->Addr}{H:Hp}{σv tv:List (Option V)}{s:Stt}{es:List D}{v:V}{l:Nat}{c:Str}{ns:List Str}{C dx:Addr}{fs fs':List (Str×V)}
theorem z9F{ds:List D}(M:MR G F.toFx ρ H σv tv s)(h:RD G ρ H (.obj l c ns ds) v)(lb: ∀j∈labs (.obj l c ns ds),j<s.n):l∉labsL ds:=fun hl=>by
 have h0:=h
 simp only[RD] at h0
 obtain⟨rfl,C,dx,fs,_,_,_,r⟩:=h0
 have:=findL_some l ds _ r hl
 cases e:findL l ds with
 |none=>rw[e] at this;cases this
 |some d=>
  obtain⟨q1,q2⟩:=findL_rd l ds _ d r e
  have e2:=RD.uniq M.kd M.inj _ _ _ q1 h (fun j hj=>lb j (by simp only[labs];exact List.mem_cons_of_mem _ (q2 j hj))) lb
  have e3:=findL_sz l ds d e
  rw[e2] at e3
  simp only[sz] at e3
  lia
theorem z4v{o':HO}{a:Addr}(e:H a=some (.ins C dx fs)):z1c H (upd H a o'):=
 ⟨fun b ys q=>by rw[z04 (z6X q e (by intro z;cases z))];exact q,fun b o u q=>by rw[z04 (z6X q e (by intro z;cases z))];exact q⟩
theorem MR.putO(M:MR G F.toFx ρ H σv tv s)(hl:H (ρ l)=some (.ins C dx fs))(hC:G.cl c=some C)(ln:l<s.n)(ow:F.A0 (ρ l)\/F.H0 (ρ l)=none)(en:ns=fs'.map (·.1))(r:RDs G ρ H es (fs'.map (·.2)))(lb:LB F.toFx ρ s.n (labsL es))(ne:l∉labsL es):
 MR G F.toFx ρ (upd H (ρ l) (.ins C dx fs')) σv tv (s.put l (.obj l c ns es)):=by
 refine M.put2 ln ow (z4v hl) (zab M.kd hl) ?_ fun j hj=> ?_
 ·simp only[RD]
  exact⟨trivial,C,dx,fs',hC,z09,en,RDs.upd (a:=0) (z4v hl) M.inj ln r fun j hj=>⟨(lb j hj).1,fun z=>ne (z▸hj)⟩⟩
 ·simp only[labs] at hj
  rcases List.mem_cons.mp hj with q|q
  ·rw[q];exact⟨ln,ow⟩
  ·exact lb j q
end
noncomputable def z4k(f:Str)(ok:Str->Bool)(o v:D):MS:=fun s=>match o with
 | .obj l c ns vs=>if ok c=true/\ns.length<1000/\l∉labs v then .nx (s.put l (.obj l c (putN ns vs f v).1 (putN ns vs f v).2)) else .no
 |_=> .no
noncomputable def z5D(me mo:M D)(f:Str)(ok:Str->Bool):MS:=lift me fun v=>lift (psh v) fun _=>lift mo fun o=>lift pop fun v'=>z4k f ok o v'
section
variable{X:Cx}{G:Gx}{F:Fy}{e o value:Expr}{pos pos':Pos}
theorem ss_fld{f:Str}{ok:Str->Bool}{me mo:M D}(ho:SE X G F o mo)(he:SE X G F value me)(hc: ∀c C,G.cl c=some C->ok c=true->Cls X.K C/\z0t X.K C f)(hs:swapsWith value (some (.Attribute o f pos')) pos.line X.env=pure false:=by rfl):SS X G F (.Assign [.Attribute o f pos'] value pos) (z5D me mo f ok):=by
 refine PS.imp0 (zcA ho he hs) fun Dd σ H ⟨tv,h⟩=>⟨tv,(z2K h).mono fun v H1 ⟨ρ1,s1,t,M1,W⟩=> ?_⟩
 refine⟨some v::tv,suf1 h.1,ρ1,s1.psh t,M1.push, ?_⟩
 simp only[lift,psh] at W
 cases e1:mo (s1.psh t) with
 |ex d s2=>simp only[e1] at W;exact W
 |no=>simp only[e1] at W;exact W
 |ok ob s2=>
  simp only[e1,pop] at W
  intro ρ2 u H2 M2
  cases e3:s2.tm with
  |nil=>simp only[e3] at W;exact False.elim W
  |cons o3 r3=>
   cases o3 with
   |none=>simp only[e3] at W;exact False.elim W
   |some x3=>
    simp only[e3] at W
    have M4:=M2.down e3
    have h:=M4.rd
    simp only[RDs] at h
    obtain⟨_,_,e,h1,_,_,e2,h2,_⟩:=h
    cases e;cases e2
    have b1:LB F.toFx ρ2 s2.n (labs x3):=fun l h=>M4.lb l (by simp only[labsL];exact List.mem_append_left _ h)
    have b2:LB F.toFx ρ2 s2.n (labs ob):=fun l h=>M4.lb l (by simp only[labsL,List.append_nil];exact List.mem_append_right _ h)
    cases ob with
    |obj l c ns vs=>
     simp only[z4k] at W
     split at W
     ·rename_i hq
      have h2':=h2
      simp only[RD] at h2
      obtain⟨rfl,C,dx,fs,hC,hH,rfl,r⟩:=h2
      have ns:=z9F M4.m h2' fun j hj=>(b2 j hj).1
      have bl:=b2 l (by simp only[labs];exact List.mem_cons_self ..)
      obtain⟨p1,p2⟩:=z8p (f:=f) h1 r
      have mm: ∀q,q∈labsL (putN (fs.map (·.1)) vs f x3).2->q∈labsL vs\/q∈labs x3:=fun q hq=>by
       obtain⟨d,h1,h2⟩:=z0O hq
       rcases z6F h1 with z|z
       ·exact .inl (labsL_mem z q h2)
       ·subst z;exact .inr h2
      refine⟨_,C,dx,fs,rfl,hH,(hc c C hC hq.1).1,(hc c C hC hq.1).2,by simpa using hq.2.1,W ρ2 σ _ (M4.m.putO hH hC bl.1 bl.2 p1 p2 (fun q hq=> ?_) fun z=> ?_)⟩
      ·rcases mm q hq with z|z
       ·exact b2 q (by simp only[labs];exact List.mem_cons_of_mem _ z)
       ·exact b1 q z
      ·rcases mm l z with z|z
       ·exact ns z
       ·exact hq.2.2 z
     ·exact False.elim W
    |_=>exact False.elim W
end
noncomputable def objC(cn m:Str):D->Bool
 | .obj _ c ns _=>c==cn&& !(ns.contains m)
 |_=>false
noncomputable def z9G(f:FM)(ms:List (M D))(x:D):M D:=bd (psh x) fun _=>bd (z02 ms) fun ys=>bd pop fun x' s=>z2a (f (x'::ys) s.n) (x'::ys) s
noncomputable def mMth(cn m:Str)(f:FM)(mo:M D)(ms:List (M D)):M D:=bd mo fun x=>if objC cn m x then z9G f ms x else fl
theorem z3N{m:Str}: ∀{fs:List (Str×V)},(fs.map (·.1)).contains m=false->fs.lookup m=none
 |[],_=>rfl
 |(g,x)::fs,h=>by
  simp only[List.map_cons,List.contains_cons,Bool.or_eq_false_iff] at h
  simp only[List.lookup,h.1]
  exact z3N h.2
section
variable{X:Cx}{G:Gx}{F:Fy}{CX:CXT}{k:Nat}{fa C:Addr}{fd:FuncData}{ps:List Str}{E:XK}{f:FM}{cn m:Str}{mo:M D}{ms:List (M D)}{o e:Expr}{es:List Expr}{pos apos:Pos}{pl:Sem Bool}
theorem z8q{σ:L2.St}{H:Hp}{Q:VK}(hC:G.cl cn=some C)(hln:ms.length+1=ps.length)(h:tM G F (mMth cn m f mo ms) σ H Q):
 zaL C m (spM G ps.length f) [] E (tM G F mo) (tML G F (z02 ms)) σ H Q:=by
 obtain⟨tv,h⟩:=h
 refine⟨tv,(z3q h).mono fun v H1 ⟨ρ1,s1,t,M1,W⟩=> ?_⟩
 have hr:=M1.rd1
 cases t with
 |obj l c ns vs=>
  split at W
  ·rename_i hq
   simp only[objC,Bool.and_eq_true,beq_iff_eq,Bool.not_eq_true'] at hq
   simp only[RD] at hr
   obtain⟨rfl,C',dx,fs,hC',hH,rfl,r⟩:=hr
   have eC:C'=C:=by rw[hq.1,hC] at hC';exact(Option.some.inj hC').symm
   subst eC
   refine⟨_,dx,fs,rfl,hH,z3N hq.2,some (.ref (ρ1 l))::tv,suf1 h.1,ρ1,s1.psh _,M1.push, ?_⟩
   simp only[z9G,bd,psh] at W
   cases e2:z02 ms (s1.psh (.obj l c (fs.map (·.1)) vs)) with
   |ex d s2=>simp only[e2] at W;exact W
   |no=>simp only[e2] at W;exact W
   |ok ys s2=>
    simp only[e2,pop] at W
    intro ρ2 us H2 M2
    cases e3:s2.tm with
    |nil=>simp only[e3] at W;exact False.elim W
    |cons o3 r3=>
     cases o3 with
     |none=>simp only[e3] at W;exact False.elim W
     |some x3=>
      simp only[e3] at W
      rw[List.append_nil]
      refine z2N ?_ (M2.down e3) W
      rw[List.length_cons,<-M2.rd.length,z2b ms _ ys s2 e2,hln]
  ·exact wfl W
 |_=>exact False.elim W
theorem se_mth(hC:G.cl cn=some C)(c:Cls X.K C)(hm:Meth X.K C m fa)(Fn:FnOk X.prog X.w X.K X.mg X.base CX k fa fd ps (spM G ps.length f))(hr:Room k X.A)(hb:z0U X.K fd ps [])(hx:z0G CX X E)(ho:SE X G F o mo)(ha:SA X G F (e::es) (z02 ms))(hln:ms.length+1=ps.length)
 (hst:starEach (e::es) X.env=(false,eval e X.env)::starEach es X.env:=by rfl) (hpl:(backTo pos (starEach es X.env)).any (·.1)=false:=by rfl)
 (ht:eval (.Call (.Attribute o m apos) (e::es) [] pos) X.env=(do
  let ov<-eval o X.env
  standAt apos.atName
  let(f,first)<-holding [ov] (getMethod ov m pl)
  callWith pos f first (backTo pos (starEach (e::es) X.env)) (backToKw pos (keywordEach [] X.env))):=by rfl):SE X G F (.Call (.Attribute o m apos) (e::es) [] pos) (mMth cn m f mo ms):=
 PE.imp0 (zaN ho c hm Fn hr hb .nil hx ha hst hpl ht) fun σ H Q h=>z8q hC hln h
theorem se_mth0(hC:G.cl cn=some C)(c:Cls X.K C)(hm:Meth X.K C m fa)(Fn:FnOk X.prog X.w X.K X.mg X.base CX k fa fd ps (spM G ps.length f))(hr:Room k X.A)(hb:z0U X.K fd ps [])(hx:z0G CX X E)(ho:SE X G F o mo)(hln:1=ps.length)
 (ht:eval (.Call (.Attribute o m apos) [] [] pos) X.env=(do
  let ov<-eval o X.env
  standAt apos.atName
  let(f,first)<-holding [ov] (getMethod ov m pl)
  callWith pos f first (backTo pos (starEach [] X.env)) (backToKw pos (keywordEach [] X.env))):=by rfl):SE X G F (.Call (.Attribute o m apos) [] [] pos) (mMth cn m f mo []):=
 PE.imp0 (z9b ho c hm Fn hr hb .nil hx ht) fun σ H Q h=>by
  obtain⟨tv,h⟩:=z8q (ps:=ps) (E:=E) hC (by simpa using hln) h
  refine⟨tv,h.mono fun v H1 ⟨a,dx,fs,e1,e2,e3,tv1,hs,ρ1,s1,M1,W⟩=>⟨a,dx,fs,e1,e2,e3, ?_⟩⟩
  exact W ρ1 [] H1 ⟨M1,rfl,fun l h=>by simp[labsL] at h⟩
end
noncomputable def spKd(K:W.Frag)(np:Nat)(sp:Sp):Sp:=fun vs H Q E=>vs.length=np/\(KD K H->sp vs H Q E)
theorem zf3{P:Program}{w:World}{K:W.Frag}{mg:Str->Option Value}{base:Heap}{CX:CXT}{k:Nat}{fa:Addr}{fd:FuncData}{ps:List Str}{sp:Sp}(F:FnOk P w K mg base CX k fa fd ps sp):FnOk P w K mg base CX k fa fd ps (spKd K ps.length sp):=
 ⟨fun _ _ _ _ h=>h.1,fun A outer s H args us vs Q E hr e0 hb hv h=>F.run A outer s H args us vs Q E hr e0 hb hv (h.2 fun a o e=>(e0.bs a o (e0.mod.kin a o e)).2)⟩
noncomputable def mkK(cn:Str)(f:FM)(ys:List D):M D:=fun s=>bd (fun s'=>z2a (f (.obj s.n cn [] []::ys) s'.n) (.obj s.n cn [] []::ys) s') (fun t=>match t with| .non=>pop|_=>fl) (s.nxt.psh (.obj s.n cn [] []))
noncomputable def z61(cn:Str)(f:FM)(ms:List (M D)):M D:=bd (z02 ms) (mkK cn f)
section
variable{X:Cx}{G:Gx}{F:Fy}{CX:CXT}{k:Nat}{fa C:Addr}{fd:FuncData}{ps:List Str}{E:XK}{f:FM}{cn x:Str}{ms:List (M D)}{e:Expr}{es:List Expr}{pos p:Pos}
theorem z9H{σ:L2.St}{H:Hp}{Q:VK}(hC:G.cl cn=some C)(hln:ms.length+1=ps.length)(h:tM G F (z61 cn f ms) σ H Q):
 zcE C (spKd G.K ps.length (spM G ps.length f)) [] E (tML G F (z02 ms)) σ H Q:=by
 obtain⟨tv,hs,ρ,s,M,W⟩:=h
 refine⟨tv,hs,ρ,s,M, ?_⟩
 unfold z61 bd at W
 cases e1:z02 ms s with
 |ex d s1=>rw[e1] at W;exact W
 |no=>rw[e1] at W;exact W
 |ok ys s1=>
  rw[e1] at W
  intro ρ1 vs H1 M1 a dx ha hdx hne
  rw[List.append_nil]
  have hl:(V.ref a::vs).length=ps.length:=by rw[List.length_cons,<-M1.rd.length,z2b ms s ys s1 e1,hln]
  refine⟨hl,fun kd=> ?_⟩
  have sm:Same H1 (upd H1 dx (.own a)):=Same.new _ hdx
  have ha':upd H1 dx (.own a) a=none:=by rw[z04 (fun z=>hne z.symm)];exact ha
  have sm2:Same (upd H1 dx (.own a)) (upd (upd H1 dx (.own a)) a (.ins C dx [])):=Same.new _ ha'
  have kd1:KD G.K (upd H1 dx (.own a)):=fun b ob q=>by
   have:=kd b ob q
   by_cases z:b=a
   ·subst z;rw[z09] at this;cases this
   ·rw[z04 z] at this;exact this
  have ho:RD G (ext ρ1 s1.n a) (upd (upd H1 dx (.own a)) a (.ins C dx [])) (.obj s1.n cn [] []) (.ref a):=by
   simp only[RD]
   exact⟨by rw[z0F],C,dx,[],hC,by rw[z0F];exact z09,rfl,by simp only[List.map_nil,RDs]⟩
  have M2:=(M1.m.same sm kd1).newPush (t:= .obj s1.n cn [] []) ha' kd ho fun l hl=>by simp only[labs,labsL,List.mem_singleton] at hl;exact .inr hl
  have ML:MRL G F.toFx (ext ρ1 s1.n a) (upd (upd H1 dx (.own a)) a (.ins C dx [])) σ (some (.ref a)::tv) (s1.nxt.psh (.obj s1.n cn [] [])) (.obj s1.n cn [] []::ys) (.ref a::vs):=by
   refine⟨M2, ?_,fun l hl=> ?_⟩
   ·simp only[RDs]
    exact⟨_,_,rfl,ho,RDs.stay (z1c.of fun b o q=>sm2 b o (sm b o q)) ys vs M1.rd fun l hl=>⟨z0k (M1.lb l hl).1,fun o q=>sm2 _ o (sm _ o q)⟩⟩
   ·simp only[labsL,labs,List.cons_append,List.nil_append,List.mem_cons] at hl
    rcases hl with rfl|hl
    ·exact⟨Nat.lt_succ_self _,by rw[z0F];exact .inr (M1.m.fresh0 ha)⟩
    ·refine⟨Nat.lt_succ_of_lt (M1.lb l hl).1, ?_⟩
     rw[z0k (M1.lb l hl).1];exact(M1.lb l hl).2
  refine z2N hl ML ?_
  have W:wM G F σ tv (mkK cn f ys s1) Q:=W
  unfold mkK bd at W
  dsimp only at W
  cases e2:z2a (f (.obj s1.n cn [] []::ys) (s1.nxt.psh (.obj s1.n cn [] [])).n) (.obj s1.n cn [] []::ys) (s1.nxt.psh (.obj s1.n cn [] [])) with
  |ex d s3=>rw[e2] at W;exact W
  |no=>rw[e2] at W;exact W
  |ok t s3=>
   rw[e2] at W
   intro ρ3 v H3 M3
   cases t with
   |non=>
    have hv:=M3.rd1
    simp only[RD] at hv
    refine⟨hv, ?_⟩
    dsimp only[pop] at W
    cases e3:s3.tm with
    |nil=>simp only[e3] at W;exact False.elim W
    |cons o3 r3=>
     cases o3 with
     |none=>simp only[e3] at W;exact False.elim W
     |some x3=>
      simp only[e3] at W
      have M4:=M3.down e3
      have h:=M4.rd
      simp only[RDs] at h
      obtain⟨_,_,e,h1,_⟩:=h
      cases e
      exact W.out M4.m h1 fun l hl=>M4.lb l (by simp only[labsL];exact List.mem_append_left _ hl)
   |_=>exact False.elim W
theorem se_make0(hk:X.K=G.K)(hC:G.cl cn=some C)(Mk:Mk X.K C fa)(Fn:FnOk X.prog X.w X.K X.mg X.base CX k fa fd ps (spM G ps.length f))(hr:Room (k+1) X.A)(hg:Gl X x)(hm:X.mg x=some (.ref C))(hb:z0U X.K fd ps [])(hx:z0G CX X E)
 (hln:1=ps.length) (hdb:(x==("__debug__" :Str))=false:=by decide):SE X G F (.Call (.Name x p) [] [] pos) (z61 cn f []):=
 PE.imp0 (z9d Mk (zf3 Fn) hr hg hm hb .nil hx hdb) fun σ H Q h=>by
  rw[hk]
  obtain⟨tv,hs,ρ,s,M,W⟩:=z9H (ps:=ps) (E:=E) hC (by simpa using hln) h
  exact W ρ [] H ⟨M,rfl,fun l h=>by simp[labsL] at h⟩
end
noncomputable def zae(C:Addr)(m:Str)(sp:Sp)(E:L2.St->XK)(ta:TE)(t:TA):TE:=fun σ H Q=>ta σ H fun x H1=> ∃a dx fs,x= .ref a/\H1 a=some (.ins C dx fs)/\fs.lookup m=none/\
 t σ H1 fun vs H2=>sp (x::vs) H2 Q (E σ)
section
variable{X:Cx}{k:Nat}{f C:Addr}{fd:FuncData}{ps:List Str}{sp:Sp}{E:L2.St->XK}{m:Str}{pos apos:Pos}{e o:Expr}{es:List Expr}{ta:TE}{t:TA}{pl:Sem Bool}
theorem zbp{pins:List (Addr×Obj)}{σ:L2.St}{H:Hp}{s:Shared}{Q:VK}{us:List Value}{vs:List V}(F:FnOk X.prog X.w X.K X.mg X.base (CX1 X.prog X.w) k f fd ps sp)(hr:Room k X.A)(hb:z0U X.K fd ps [])(hx:zbk X E)
 (I1:Inv X pins σ H s) (r:Vals vs us) (q:sp vs H Q (E σ)):wpAny (model X.prog X.w) X.A (call (.ref f) us) (EP X pins σ Q) X.xe s:=by
 have hl:us.length=ps.length:=by rw[<-r.length];exact F.len _ _ _ _ q
 have hb2:=hb s us I1.kIn (by rw[List.append_nil];exact hl)
 rw[List.append_nil] at hb2
 refine wpAny_call (codeAny_mono (F.run X.A X.stack s H ⟨us,[]⟩ us vs Q (E σ) hr I1.env0 hb2 r q) fun r s' hq=> ?_)
 cases r with
 |error e=>exact hx pins σ H s e s' I1 hq
 |ok fl=>
  cases fl with
  |ret u=>exact I1.after hq
  |next=>exact False.elim hq
  |brk=>exact False.elim hq
  |cont=>exact False.elim hq
theorem z9I(he:PE X o ta)(c:Cls X.K C)(hm:Meth X.K C m f)(F:FnOk X.prog X.w X.K X.mg X.base (CX1 X.prog X.w) k f fd ps sp)(hr:Room k X.A)(hb:z0U X.K fd ps [])(hx:zbk X E)(ha:PA X (e::es) t)
 (hst:starEach (e::es) X.env=(false,eval e X.env)::starEach es X.env:=by rfl) (hpl:(backTo pos (starEach es X.env)).any (·.1)=false:=by rfl)
 (ht:eval (.Call (.Attribute o m apos) (e::es) [] pos) X.env=(do
  let ov<-eval o X.env
  standAt apos.atName
  let(f,first)<-holding [ov] (getMethod ov m pl)
  callWith pos f first (backTo pos (starEach (e::es) X.env)) (backToKw pos (keywordEach [] X.env))):=by rfl):
 PE X (.Call (.Attribute o m apos) (e::es) [] pos) (zae C m sp E ta t):=by
 intro pins s σ H Q I h
 refine W.methodCall_KW (pl:=pl) (thn (he pins s σ H _ I h) fun u s1 ⟨x,H1,I1,rx,a,dx,fs,ex,ea,l,q⟩=> ?_) ht
 subst ex
 obtain rfl:u=Value.ref a:=rx
 refine z32 I1 ea c hm l ?_
 exact W.callWith_K (first:=[.ref a]) (h₀:=X.base) I.ok.mod.kin hm.kp (thn (ha pos pins s1 σ H1 _ I1 q) fun us s2 ⟨vs,H2,I2,r,q2⟩=>⟨I2.kIn,zbp (us:= .ref a::us) (vs:= .ref a::vs) F hr hb hx I2 (.cons rfl r) q2⟩) hst hpl
end
noncomputable def z6G(f:FM)(ms:List (M D))(x:D):M D:=bd (psh x) fun _=>bd (z02 ms) fun ys=>bd pop fun x' s=>z3M (f (x'::ys) s.n) (x'::ys) s
noncomputable def z7s(cn m:Str)(f:FM)(mo:M D)(ms:List (M D)):M D:=bd mo fun x=>if objC cn m x then z6G f ms x else fl
section
variable{X:Cx}{G:Gx}{F:Fy}{k:Nat}{fa C:Addr}{fd:FuncData}{ps:List Str}{E:L2.St->XK}{f:FM}{cn m:Str}{mo:M D}{ms:List (M D)}{o e:Expr}{es:List Expr}{pos apos:Pos}{pl:Sem Bool}
theorem z9J{σ:L2.St}{H:Hp}{Q:VK}(hx:XP X G F E)(hC:G.cl cn=some C)(hln:ms.length+1=ps.length)(h:tM G F (z7s cn m f mo ms) σ H Q):
 zae C m (spX G ps.length f) E (tM G F mo) (tML G F (z02 ms)) σ H Q:=by
 obtain⟨tv,h⟩:=h
 refine⟨tv,(z3q h).mono fun v H1 ⟨ρ1,s1,t,M1,W⟩=> ?_⟩
 have hr:=M1.rd1
 cases t with
 |obj l c ns vs=>
  split at W
  ·rename_i hq
   simp only[objC,Bool.and_eq_true,beq_iff_eq,Bool.not_eq_true'] at hq
   simp only[RD] at hr
   obtain⟨rfl,C',dx,fs,hC',hH,rfl,r⟩:=hr
   have eC:C'=C:=by rw[hq.1,hC] at hC';exact(Option.some.inj hC').symm
   subst eC
   refine⟨_,dx,fs,rfl,hH,z3N hq.2,some (.ref (ρ1 l))::tv,suf1 h.1,ρ1,s1.psh _,M1.push, ?_⟩
   simp only[z6G,bd,psh] at W
   cases e2:z02 ms (s1.psh (.obj l c (fs.map (·.1)) vs)) with
   |ex d s2=>simp only[e2] at W;exact W
   |no=>simp only[e2] at W;exact W
   |ok ys s2=>
    simp only[e2,pop] at W
    intro ρ2 us H2 M2
    cases e3:s2.tm with
    |nil=>simp only[e3] at W;exact False.elim W
    |cons o3 r3=>
     cases o3 with
     |none=>simp only[e3] at W;exact False.elim W
     |some x3=>
      simp only[e3] at W
      refine z7r hx h.1 ?_ (M2.down e3) W
      rw[List.length_cons,<-M2.rd.length,z2b ms _ ys s2 e2,hln]
  ·exact wfl W
 |_=>exact False.elim W
theorem se_mthX(hx:XP X G F E)(hC:G.cl cn=some C)(c:Cls X.K C)(hm:Meth X.K C m fa)(Fn:FnOk X.prog X.w X.K X.mg X.base (CX1 X.prog X.w) k fa fd ps (spX G ps.length f))(hr:Room k X.A)(hb:z0U X.K fd ps [])(ho:SE X G F o mo)(ha:SA X G F (e::es) (z02 ms))(hln:ms.length+1=ps.length)
 (hst:starEach (e::es) X.env=(false,eval e X.env)::starEach es X.env:=by rfl) (hpl:(backTo pos (starEach es X.env)).any (·.1)=false:=by rfl)
 (ht:eval (.Call (.Attribute o m apos) (e::es) [] pos) X.env=(do
  let ov<-eval o X.env
  standAt apos.atName
  let(f,first)<-holding [ov] (getMethod ov m pl)
  callWith pos f first (backTo pos (starEach (e::es) X.env)) (backToKw pos (keywordEach [] X.env))):=by rfl):SE X G F (.Call (.Attribute o m apos) (e::es) [] pos) (z7s cn m f mo ms):=
 PE.imp0 (z9I ho c hm Fn hr hb hx.ps ha hst hpl ht) fun σ H Q h=>z9J hx hC hln h
end
theorem zbq{K:W.Frag}{C:Addr}(c:Cls K C):NSq K C:=by
 have h:=c.hd
 unfold W.hasDictIn W.clsIn at h
 split at h
 ·rename_i ho
  exact⟨_,ho,fun its n z=>by cases z⟩
 ·cases h
noncomputable def stC(s:Stmt)(j:Nat):Stmt:=match s with
 | .ClassDef _ _ _ b .. =>b.getD j (.Pass ⟨0,0,0,0⟩)
 |s=>s
structure Dm(K:W.Frag)(C:Addr)(x qual:Str)(st:Stmt)(ps:List Str) where
 f:Addr
 d:FuncData
 F:Fun K x qual st f d
 b:z0U K d ps []
 h:Meth K C x f
end Mi
namespace Mi
open PySem L2 PySem.Spec PyProof.Rows
end Mi
namespace Mi
open PySem L2 PySem.Spec PySem.SeqAt PySem.Calls PyProof.Rows
end Mi
namespace Mi
open PySem L2 PySem.Spec PyProof.Rows
section
variable{X:Cx}{G:Gx}{F:Fy}
noncomputable def popD:D->List D->M D
 | .lst l ds,[.int i]=>fun s=>if 0<=i/\i<2^63 then(match ds[i.toNat]? with|some (.int y)=> .ok (.int y) (s.put l (.lst l (ds.eraseIdx i.toNat)))|_=> .no) else .no
 |_,_=>fl
theorem z3O: ∀{ds:List D} {i:Nat} {j:Nat},j∈labsL (ds.eraseIdx i)->j∈labsL ds
 |[],i,j,h=>by simpa using h
 |d::ds,0,j,h=>by simp only[labsL];exact List.mem_append_right _ h
 |d::ds,i+1,j,h=>by
  simp only[List.eraseIdx_cons_succ,labsL,List.mem_append] at h⊢
  exact h.imp id z3O
theorem RDs.erase{ρ:Nat->Addr}{H:Hp}: ∀{ds:List D} {xs:List V} (i:Nat),RDs G ρ H ds xs->RDs G ρ H (ds.eraseIdx i) (xs.eraseIdx i)
 |[],xs,i,h=>by simp only[RDs] at h;subst h;simp[RDs]
 |d::ds,xs,0,h=>by simp only[RDs] at h;obtain⟨x,q,rfl,_,h2⟩:=h;exact h2
 |d::ds,xs,i+1,h=>by
  simp only[RDs] at h
  obtain⟨x,q,rfl,h1,h2⟩:=h
  simp only[List.eraseIdx_cons_succ,RDs]
  exact⟨x,_,rfl,h1,RDs.erase i h2⟩
theorem RDs.at'{ρ:Nat->Addr}{H:Hp}: ∀{ds:List D} {xs:List V} {i:Nat} {d:D},RDs G ρ H ds xs->ds[i]? =some d->∃x,xs[i]? =some x/\RD G ρ H d x
 |[],xs,i,d,h,e=>by simp at e
 |d::ds,xs,0,d',h,e=>by simp only[RDs] at h;obtain⟨x,q,rfl,h1,_⟩:=h;simp at e;subst e;exact⟨x,rfl,h1⟩
 |d::ds,xs,i+1,d',h,e=>by
  simp only[RDs] at h
  obtain⟨x,q,rfl,h1,h2⟩:=h
  simp only[List.getElem?_cons_succ] at e⊢
  exact RDs.at' h2 e
theorem zdx:MtOK G F za7 popD:=by
 intro ρ s t ts v vs H σv tv Q M W
 obtain⟨h1,h2,b1,b2⟩:=M.hd
 unfold popD at W
 split at W
 ·rename_i l ds i
  split at W
  ·rename_i hi
   split at W
   ·rename_i y hy
    have h1':=h1
    simp only[RD] at h1
    obtain⟨rfl,xs,hx,r⟩:=h1
    simp only[RDs] at h2
    obtain⟨u,q,rfl,h2,rfl⟩:=h2
    simp only[RD] at h2
    subst h2
    obtain⟨x,ex,rx⟩:=RDs.at' r hy
    simp only[RD] at rx
    subst rx
    have ns:=z3I M.m h1' fun j hj=>(b1 j hj).1
    have bl:=b1 l (by simp only[labs];exact List.mem_cons_self ..)
    have hlt:=(List.getElem?_eq_some_iff.1 ex).1
    refine⟨_,xs,i,i.toNat, .int y,rfl,rfl,hx,by lia,hi.2, ?_,ex,fun _=>W.out (M.m.putL hx bl.1 bl.2 (RDs.erase i.toNat r) (fun j hj=>b1 j (by simp only[labs];exact List.mem_cons_of_mem _ (z3O hj))) fun hj=>ns (z3O hj)) (by simp only[RD]) fun l h=>by simp[labs] at h⟩
    unfold seqIndex?
    simp only[show ¬i<0 by lia,if_false]
    rw[if_pos (by simp;lia)]
   ·exact False.elim W
  ·exact False.elim W
 ·exact wfl W
theorem zdy:Cl X G F "list.pop" popD:=⟨_,z9h,zdx⟩
noncomputable def repD:List D->M D
 |[.tup ds]=>if strC ds=true then rt (.str (er (.tup ds)).shown) else fl
 |[.lst l ds]=>if(plainL ds&&(er (.lst l ds)).showable&&decide ((er (.lst l ds)).depth<=60)&&decide ((er (.lst l ds)).shown.length<=sizeLine))=true then rt (.str (er (.lst l ds)).shown) else fl
 |_=>fl
theorem zdz:z1r G F (rStr G.K) repD:=by
 intro ρ s ts vs H σv tv Q M W
 unfold repD at W
 split at W
 ·rename_i ds
  exact zdn ρ s [.tup ds] vs H σv tv Q M W
 ·rename_i l ds
  split at W
  ·rename_i hc
   simp only[Bool.and_eq_true,decide_eq_true_eq] at hc
   obtain⟨⟨⟨c1,c2⟩,c3⟩,c4⟩:=hc
   obtain⟨v,rfl,h,_⟩:=M.one
   obtain⟨p,xs,rfl,s1,r1,_⟩:=id (h.lstq (ds:=ds) rfl)
   exact⟨p,er (.lst l ds),rfl,RD.dp _ _ h (by simp only[plain];exact c1),z3J _,c2,c3,c4,fun _=>W.flat M.m rfl⟩
  ·exact wfl W
 ·exact wfl W
theorem z8r(hk:X.K=G.K)(hg:X.A.guards=some [])(hu:X.A.units+64<cLine):Cb X G F (.builtin "repr") repD:=⟨_,hk▸z7l hg hu,zdz⟩
end
end Mi
namespace L2
open PySem PySem.Spec PyProof.Rows
section
variable{X:Cx}
noncomputable def tLR1(ta:TA):TE:=fun σ H Q=>ta σ H fun vs H1=> ∃j:Int,vs=[.int j]/\(-(2^62)<=j/\j<2^62)/\j.toNat<=sizeLine/\∀l,H1 l=none->Q (.ref l) (upd H1 l (.lst (z7j 0 j.toNat)))
theorem z4V{b:Expr}{ta:TA}{p p2 pos pos2:Pos}(hc:X.calm=true)(hgl:Gl X "list")(hml:X.mg "list" =none)(hgr:Gl X "range")(hmr:X.mg "range" =none)(ha:PA X [b] ta)(hs2:starEach [b] X.env=[(false,eval b X.env)]:=by rfl)
 (hso:starEach [.Call (.Name "range" p2) [b] [] pos2] X.env=[(false,eval (.Call (.Name "range" p2) [b] [] pos2) X.env)]:=by rfl):
 PE X (.Call (.Name "list" p) [.Call (.Name "range" p2) [b] [] pos2] [] pos) (tLR1 ta):=by
 intro pins s σ H Q I h
 refine Call_ (z3j I hgl hml PyProof.Rows.Boot.«list» (PyProof.Rows.callWith_type1 ?_ hso rfl))
 rw[hso]
 show wpAny _ _ (spliced ((false,eval (.Call (.Name "range" p2) [b] [] pos2) X.env)::backTo pos [])) _ _ s
 refine Calls.spliced_cons ?_
 refine Call_ (z3j I hgr hmr boot_range (PyProof.Rows.callWith_type1 (thn (ha pos2 pins s σ H _ I h) fun us s1 ⟨vs,H1,I1,r1,q1⟩=> ?_) hs2 rfl))
 obtain⟨j,e,⟨q3,q4⟩,hz,q⟩:=q1
 subst e
 obtain⟨u,rfl,t',rfl⟩:=r1.one
 refine call_range_1 (Calls.spliced_nil ?_)
 have hn:Builtin.Range.rangeSize 0 j 1=(j.toNat:Nat):=by rw[rangeSize_one];split<;>lia
 have I2:Inv X pins σ H1 {s1 with heap:=s1.heap.push {cls:= .type "range",data:= .fields #[.int 0 s1.toks, .int j t', .int 1 (s1.toks+1)]},toks:=s1.toks+2}:=I1.kept fun b o e=>Heap.get?_push_of_some _ e
 refine call_list_range (I1.ok.hd hc) (IsRange.new ..) (small_one (by decide) (by decide) q3 q4) hn hz fun h' tk acc c hk hS hacc=> ?_
 have hv:Vals (z7j 0 j.toNat) acc.toList:=by
  obtain⟨hsz,hit⟩:=hacc
  refine z8b (by rw[z3G];simpa using hsz.symm) fun k v u h1 h2=> ?_
  have hk:k<j.toNat:=by
   have:=(List.getElem?_eq_some_iff.mp h1).1
   rwa [z3G] at this
  have h1:v= .int (0+(k:Int)):=by
   simp only[z7j,List.getElem?_map,List.getElem?_range hk,Option.map_some,Option.some.injEq] at h1
   exact h1.symm
  subst h1
  have h2:acc[k]? =some u:=by simpa using h2
  obtain⟨t,ht⟩:=hit k u h2
  refine⟨t, ?_⟩
  rw[ht,Int.mul_one]
 exact⟨.ref _,_,I2.laid (t':=tk) (o:= .lst (z7j 0 j.toNat)) hk (Nat.le_refl _) ⟨by rw[z3G];exact hz,acc.toList,c,hv,by simpa using hS⟩,rfl,q _ (I2.hok.fresh (Nat.le_refl _))⟩
end
end L2
namespace Mi
open PySem L2
section
variable{X:Cx}{G:Gx}{F:Fy}{a b tg:Expr}{pos:Pos}
noncomputable def lrM1(ts:List D):M D:=match ts with
 |[.int j]=>if(-(2^62)<=j/\j<2^62)/\j.toNat<=sizeLine then newL (z8j 0 j.toNat) else fl
 |_=>fl
theorem se_listRange1{p p2 pos2:Pos}{ms:List (M D)}(hk:X.K=G.K)(hc:X.calm=true)(hgl:Gl X "list")(hml:X.mg "list" =none)(hgr:Gl X "range")(hmr:X.mg "range" =none)(ha:SA X G F [b] (z02 ms))(hs2:starEach [b] X.env=[(false,eval b X.env)]:=by rfl)
 (hso:starEach [.Call (.Name "range" p2) [b] [] pos2] X.env=[(false,eval (.Call (.Name "range" p2) [b] [] pos2) X.env)]:=by rfl):SE X G F (.Call (.Name "list" p) [.Call (.Name "range" p2) [b] [] pos2] [] pos) (mCB ms lrM1):=by
 refine PE.imp hk (z4V hc hgl hml hgr hmr ha hs2 hso) fun σ H Q ⟨tv,hs,ρ,s,M,W⟩=>⟨tv,hs,ρ,s,M, ?_⟩
 unfold mCB bd at W
 cases e:z02 ms s with
 |ex d s1=>rw[e] at W;exact W
 |no=>rw[e] at W;exact W
 |ok ts s1=>
  rw[e] at W
  intro ρ1 vs H1 M1
  unfold lrM1 at W
  dsimp only at W
  split at W
  ·split at W
   ·rename_i j hc
    obtain⟨v,rfl,h,_⟩:=M1.one
    simp only[RD] at h
    subst h
    refine⟨j,rfl,hc.1,hc.2,fun l hl kd=> ?_⟩
    exact z2v W M1.m (z8k 0 _) (fun l hl=>by unfold z8j at hl;rw[z6A] at hl;cases hl) hl kd
   ·exact False.elim W
  ·exact False.elim W
end
noncomputable def sNo:MS:=fun _=> .no
section
variable{X:Cx}{G:Gx}{F:Fy}{st:Stmt}
theorem ss_no:SS X G F st sNo:=fun pins s σ H D I h=>by
 obtain⟨tv,hs,ρ,s,M,W⟩:=h
 exact False.elim W
end
end Mi
namespace Mi
open PySem L2 PySem.Spec PyProof.Rows PySem F P
end Mi
namespace My
open PySem L2 PySem.Spec PyProof.Rows Mi
@[irreducible] noncomputable def SE(X:Cx)(G:Gx)(F:Fy)(e:Expr)(m:M D):Prop:=Mi.SE X G F e m
theorem eSE(X:Cx)(G:Gx)(F:Fy)(e:Expr)(m:M D):SE X G F e m=Mi.SE X G F e m:=by unfold SE;rfl
@[irreducible] noncomputable def SA(X:Cx)(G:Gx)(F:Fy)(e:List Expr)(m:M (List D)):Prop:=Mi.SA X G F e m
theorem eSA(X:Cx)(G:Gx)(F:Fy)(e:List Expr)(m:M (List D)):SA X G F e m=Mi.SA X G F e m:=by unfold SA;rfl
@[irreducible] noncomputable def SB(X:Cx)(G:Gx)(F:Fy)(e:Expr)(m:M Bool):Prop:=Mi.SB X G F e m
theorem eSB(X:Cx)(G:Gx)(F:Fy)(e:Expr)(m:M Bool):SB X G F e m=Mi.SB X G F e m:=by unfold SB;rfl
@[irreducible] noncomputable def SW(X:Cx)(G:Gx)(F:Fy)(e:Expr)(m:M Bool):Prop:=Mi.SW X G F e m
theorem eSW(X:Cx)(G:Gx)(F:Fy)(e:Expr)(m:M Bool):SW X G F e m=Mi.SW X G F e m:=by unfold SW;rfl
@[irreducible] noncomputable def SS(X:Cx)(G:Gx)(F:Fy)(e:Stmt)(m:MS):Prop:=Mi.SS X G F e m
theorem eSS(X:Cx)(G:Gx)(F:Fy)(e:Stmt)(m:MS):SS X G F e m=Mi.SS X G F e m:=by unfold SS;rfl
@[irreducible] noncomputable def SSs(X:Cx)(G:Gx)(F:Fy)(e:List Stmt)(m:MS):Prop:=Mi.SSs X G F e m
theorem eSSs(X:Cx)(G:Gx)(F:Fy)(e:List Stmt)(m:MS):SSs X G F e m=Mi.SSs X G F e m:=by unfold SSs;rfl
@[irreducible] noncomputable def SG(X:Cx)(G:Gx)(F:Fy)(e:Expr)(m:Tg):Prop:=Mi.SG X G F e m
theorem eSG(X:Cx)(G:Gx)(F:Fy)(e:Expr)(m:Tg):SG X G F e m=Mi.SG X G F e m:=by unfold SG;rfl
@[irreducible] noncomputable def SGs(X:Cx)(G:Gx)(F:Fy)(e:List Expr)(m:List Tg):Prop:=Mi.SGs X G F e m
theorem eSGs(X:Cx)(G:Gx)(F:Fy)(e:List Expr)(m:List Tg):SGs X G F e m=Mi.SGs X G F e m:=by unfold SGs;rfl
@[irreducible] noncomputable def SI(X:Cx)(G:Gx)(F:Fy)(tg e:Expr)(m:M ItK):Prop:=Mi.SI X G F tg e m
theorem eSI(X:Cx)(G:Gx)(F:Fy)(tg e:Expr)(m:M ItK):SI X G F tg e m=Mi.SI X G F tg e m:=by unfold SI;rfl
@[irreducible] noncomputable def SO(X:Cx)(G:Gx)(F:Fy)(e:Option Expr)(m:Option (M D)):Prop:=Mi.SO X G F e m
theorem eSO(X:Cx)(G:Gx)(F:Fy)(e:Option Expr)(m:Option (M D)):SO X G F e m=Mi.SO X G F e m:=by unfold SO;rfl
@[irreducible] noncomputable def STs(X:Cx)(G:Gx)(F:Fy)(e:List Expr)(m:M Bool):Prop:=Mi.STs X G F e m
theorem eSTs(X:Cx)(G:Gx)(F:Fy)(e:List Expr)(m:M Bool):STs X G F e m=Mi.STs X G F e m:=by unfold STs;rfl
local macro_rules | `(tactic| walk_at "go") => `(tactic| (simp only [eSE, eSA, eSB, eSW, eSS, eSSs, eSG, eSGs, eSI, eSO, eSTs] at *))
section
variable{X:Cx}{G:Gx}{F:Fy}{e a b c:Expr}{pos:Pos}
theorem se_var(i:Nat){x:Str}(hk:X.K=G.K)(h:PE X (.Name x pos) (tVar i)):SE X G F (.Name x pos) (mVar i):=by
 walk_at "go"
 exact Mi.se_var i hk h
theorem se_c{d:D}{v:V}(hk:X.K=G.K)(h:PE X e (tC v))(hd:cV d=some v:=by rfl):SE X G F e (mC d):=by
 walk_at "go"
 exact Mi.se_c hk h hd
theorem so_none:SO X G F none none:=by
 walk_at "go"
 exact Mi.so_none
theorem so_some{m:M D}(h:SE X G F e m):SO X G F (some e) (some m):=by
 walk_at "go"
 exact Mi.so_some h
theorem se_slice{lo hi:Option Expr}{p2:Pos}{m:M D}{ml mh:Option (M D)}(hk:X.K=G.K)(he:SE X G F e m)(hl:SO X G F lo ml)(hh:SO X G F hi mh):SE X G F (.Subscript e (.Slice lo hi none p2) pos) (mSl m ml mh):=by
 walk_at "go"
 exact Mi.se_slice hk he hl hh
theorem se_tup{es:List Expr}{ms:List (M D)}{x1}(hk:X.K=G.K)(h:SA X G F es (z02 ms)):SE X G F (.Tuple es x1 pos) (mCB ms tupD):=by
 walk_at "go"
 exact Mi.se_tup hk h
theorem se_lst{es:List Expr}{ms:List (M D)}(hk:X.K=G.K)(h:SA X G F es (z02 ms)):SE X G F (.List es pos) (mCB ms lstM):=by
 walk_at "go"
 exact Mi.se_lst hk h
theorem sb_truth{m:M D}(hk:X.K=G.K)(ha:SE X G F a m)(he: ∀whole,isTrue a X.env whole=(do let v<-whole;standAt a.pos;holding [v] (truthy v)):=by intro _;rfl):SB X G F a (z0P m):=by
 walk_at "go"
 exact Mi.sb_truth hk ha he
theorem SW.sb{m:M Bool}(h:SW X G F e m):SB X G F e m:=by
 walk_at "go"
 exact Mi.SW.sb h
theorem sw_and1{m:M Bool}(h:SB X G F a m):SW X G F (.BoolOp .And [a] pos) m:=by
 walk_at "go"
 exact Mi.sw_and1 h
theorem sw_or1{m:M Bool}(h:SB X G F a m):SW X G F (.BoolOp .Or [a] pos) m:=by
 walk_at "go"
 exact Mi.sw_or1 h
theorem sw_and{rest:List Expr}{m m':M Bool}(ha:SB X G F a m)(hb:SW X G F (.BoolOp .And (b::rest) pos) m'):SW X G F (.BoolOp .And (a::b::rest) pos) (mAnd m m'):=by
 walk_at "go"
 exact Mi.sw_and ha hb
theorem sw_or{rest:List Expr}{m m':M Bool}(ha:SB X G F a m)(hb:SW X G F (.BoolOp .Or (b::rest) pos) m'):SW X G F (.BoolOp .Or (a::b::rest) pos) (mOr m m'):=by
 walk_at "go"
 exact Mi.sw_or ha hb
theorem sb_not{m:M Bool}(ha:SB X G F a m):SB X G F (.UnaryOp .Not a pos) (mNot m):=by
 walk_at "go"
 exact Mi.sb_not ha
theorem se_one{op}{m:M D}(h:SE X G F a m):SE X G F (.BoolOp op [a] pos) m:=by
 walk_at "go"
 exact Mi.se_one h
theorem se_and{rest:List Expr}{m m':M D}(ha:SE X G F a m)(hb:SE X G F (.BoolOp .And (b::rest) pos) m'):SE X G F (.BoolOp .And (a::b::rest) pos) (z3F m m'):=by
 walk_at "go"
 exact Mi.se_and ha hb
theorem se_or{rest:List Expr}{m m':M D}(ha:SE X G F a m)(hb:SE X G F (.BoolOp .Or (b::rest) pos) m'):SE X G F (.BoolOp .Or (a::b::rest) pos) (mOrV m m'):=by
 walk_at "go"
 exact Mi.se_or ha hb
theorem se_not{m:M D}(ha:SE X G F a m):SE X G F (.UnaryOp .Not a pos) (z4Q m):=by
 walk_at "go"
 exact Mi.se_not ha
theorem se_isi{p:Pos}{x y:Expr}{T:String}{m:M D}(hk:X.K=G.K)(hT:T= "int" \/T= "bool" \/T= "tuple" \/T= "list" \/T= "str")(hgl:Gl X "isinstance")(hm:X.mg "isinstance" =none)(ha:SE X G F x m)(hy:PE X y (tC (.ty T)))
 (he:starEach [x,y] X.env=(false,eval x X.env)::starEach [y] X.env:=by rfl) (he2:starEach [y] X.env=(false,eval y X.env)::starEach [] X.env:=by rfl) (hpl:(backTo pos (starEach [y] X.env)).any (·.1)=false:=by rfl):SE X G F (.Call (.Name "isinstance" p) [x,y] [] pos) (mIsi T m):=by
 walk_at "go"
 exact Mi.se_isi hk hT hgl hm ha hy he he2 hpl
end
section
variable{X:Cx}{G:Gx}{F:Fy}{e a b c:Expr}{st:Stmt}{sts rest:List Stmt}{pos:Pos}
theorem ss_nil:SSs X G F [] sNx:=by
 walk_at "go"
 exact Mi.ss_nil
theorem ss_cons{m m':MS}(h1:SS X G F st m)(h2:SSs X G F rest m'):SSs X G F (st::rest) (seqS m m'):=by
 walk_at "go"
 exact Mi.ss_cons h1 h2
theorem ss_one{m:MS}(h1:SS X G F st m):SSs X G F [st] m:=by
 walk_at "go"
 exact Mi.ss_one h1
theorem ss_expr{m:M D}(he:SE X G F e m)(hs:swapsWith e none pos.line X.env=pure false:=by rfl):SS X G F (.Expr e pos) (z0V m):=by
 walk_at "go"
 exact Mi.ss_expr he hs
theorem ss_ret{m:M D}(he:SE X G F e m):SS X G F (.Return (some e) pos) (sRet m):=by
 walk_at "go"
 exact Mi.ss_ret he
theorem ss_if{x y:List Stmt}{mc:M Bool}{m m':MS}(hc:SB X G F c mc)(ha:SSs X G F x m)(hb:SSs X G F y m'):SS X G F (.If c x y pos) (sIf mc m m'):=by
 walk_at "go"
 exact Mi.ss_if hc ha hb
theorem sg_name{i:Nat}{x:Str}{p:Pos}(h:PG X (.Name x p) (z6Y i)):SG X G F (.Name x p) (.nm i):=by
 walk_at "go"
 exact Mi.sg_name h
theorem sgs_nil:SGs X G F [] []:=by
 walk_at "go"
 exact Mi.sgs_nil
theorem sgs_cons{es:List Expr}{g:Tg}{gs:List Tg}(h1:SG X G F e g)(h2:SGs X G F es gs)(hs:(assignEach (e::es) X.env).map (·.2)=assign e X.env::(assignEach es X.env).map (·.2):=by rfl):SGs X G F (e::es) (g::gs):=by
 walk_at "go"
 exact Mi.sgs_cons h1 h2 hs
theorem sg_tup{es:List Expr}{k:Nat}{gs:List Tg}(hk:X.K=G.K)(hc:X.calm=true)(h:SGs X G F es gs)(hn:(assignEach es X.env).length=gs.length:=by rfl)(hst:(assignEach es X.env).findIdx? (·.1)=none:=by rfl):SG X G F (.Tuple es k pos) (.tp gs):=by
 walk_at "go"
 exact Mi.sg_tup hk hc h hn hst
theorem ss_set{i:Nat}{x:Str}{p:Pos}{m:M D}(h: ∀{te:TE},PE X e te->PS X (.Assign [.Name x p] e pos) (tAsg te (z6Y i)))(he:SE X G F e m):SS X G F (.Assign [.Name x p] e pos) (sAsg (.nm i) m):=by
 walk_at "go"
 exact Mi.ss_set h he
theorem ss_while{body:List Stmt}{mc:M Bool}{mb:MS}{fuel:Stt->Nat}(hp:PassesOwn (model X.prog X.w) X.A X.env X.xe)(hc:SB X G F c mc)(hb:SSs X G F body mb):SS X G F (.While c body [] pos) (z2L fuel mc mb):=by
 walk_at "go"
 exact Mi.ss_while hp hc hb
end
section
variable{X:Cx}{G:Gx}{F:Fy}{e a b c tg iter:Expr}{pos:Pos}
theorem si_seq{m:M D}(hk:X.K=G.K)(h:SE X G F e m):SI X G F tg e (z0W m):=by
 walk_at "go"
 exact Mi.si_seq hk h
theorem si_rng1{p:Pos}{ms:List (M D)}(hg:Gl X "range")(hm:X.mg "range" =none)(ha:SA X G F [a] (z02 ms))(hs:starEach [a] X.env=[(false,eval a X.env)]:=by rfl):SI X G F tg (.Call (.Name "range" p) [a] [] pos) (z39 ms):=by
 walk_at "go"
 exact Mi.si_rng1 hg hm ha hs
theorem si_rng2{p:Pos}{ms:List (M D)}(hg:Gl X "range")(hm:X.mg "range" =none)(ha:SA X G F [a,b] (z02 ms))(hs:starEach [a,b] X.env=[(false,eval a X.env),(false,eval b X.env)]:=by rfl)(hs2:starEach [b] X.env=[(false,eval b X.env)]:=by rfl):SI X G F tg (.Call (.Name "range" p) [a,b] [] pos) (z5z ms):=by
 walk_at "go"
 exact Mi.si_rng2 hg hm ha hs hs2
theorem ss_for{body:List Stmt}{mi:M ItK}{g:Tg}{mb:MS}(hp:PassesOwn (model X.prog X.w) X.A X.env X.xe)(hc:X.calm=true)(hi:SI X G F tg iter mi)(hg:SG X G F tg g)(hb:SSs X G F body mb)(hst: ∀x,foldedSetIterable iter X.env x=pure x:=by intro _;rfl):SS X G F (.For tg iter body [] pos) (sFor mi g mb):=by
 walk_at "go"
 exact Mi.ss_for hp hc hi hg hb hst
end
section
variable{X:Cx}{G:Gx}{F:Fy}{e a b c tg iter elt:Expr}{pos:Pos}
theorem sts_nil:STs X G F [] (rt true):=by
 walk_at "go"
 exact Mi.sts_nil
theorem sts_one{m:M Bool}(h:SB X G F c m):STs X G F [c] m:=by
 walk_at "go"
 exact Mi.sts_one h
theorem se_comp{scope:Scope}{own frees:List Str}{ix:List Nat}{ifs:List Expr}{mi:M ItK}{g:Tg}{mt:M Bool}{me:M D}(hk:X.K=G.K)(hc:X.calm=true)(S:z28 X.env.scope scope own frees X.N ix)(hi:SI X G F tg iter mi)
 (hg: ∀(F:Fy) cl C s₀ H₀ fp pn,SG (z1E X scope own frees cl C s₀ H₀ fp pn) G F tg g) (ht: ∀(F:Fy) cl C s₀ H₀ fp pn,STs (z1E X scope own frees cl C s₀ H₀ fp pn) G F ifs mt) (he: ∀(F:Fy) cl C s₀ H₀ fp pn,SE (z1E X scope own frees cl C s₀ H₀ fp pn) G F elt me)
 (hs: ∀x,foldedSetIterable iter X.env x=pure x:=by intro _;rfl):SE X G F (.ListComp elt [⟨tg,iter,ifs,0⟩] scope pos) (z1i mi g mt me own.length ix):=by
 walk_at "go"
 exact Mi.se_comp hk hc S hi hg ht he hs
end
section
variable{G:Gx}{ρ:Nat->Addr}{H:Hp}
section
variable(k:KD G.K H){n:Nat}(inj: ∀i j,i<n->j<n->ρ i=ρ j->i=j)
include k inj
end
end
section
variable{G:Gx}{ρ ρ':Nat->Addr}{H H':Hp}
section
variable(k:KD G.K H){n:Nat}(inj: ∀i j,i<n->j<n->ρ i=ρ j->i=j){ts:List D}{vs:List V}(r:RDs G ρ H ts vs)(lb: ∀l∈labsL ts,l<n)
include k inj r lb
end
variable{F:Fy}{σv tv:List (Option V)}{s:Stt}{np:Nat}
theorem se_call{X:Cx}{e:Expr}{es:List Expr}{pos p:Pos}{CX:CXT}{k:Nat}{fa:Addr}{fd:FuncData}{ps:List Str}{x:Str}{E:XK}{f:FM}{ms:List (M D)}(hk:X.K=G.K)(Fn:FnOk X.prog X.w X.K X.mg X.base CX k fa fd ps (spM G ps.length f))(hr:Room k X.A)(hg:Gl X x)(hm:X.mg x=some (.ref fa))(hkp:W.keepIn X.K (.ref fa)=true)(hb:z0U X.K fd ps [])(hx:z0G CX X E)
 (ha:SA X G F (e::es) (z02 ms)) (hln:ms.length=ps.length) (hdb:(x==("__debug__" :Str))=false:=by decide) (he:starEach (e::es) X.env=(false,eval e X.env)::starEach es X.env:=by rfl) (hpl:(backTo pos (starEach es X.env)).any (·.1)=false:=by rfl):
 SE X G F (.Call (.Name x p) (e::es) [] pos) (z0d f ms):=by
 walk_at "go"
 exact Mi.se_call hk Fn hr hg hm hkp hb hx ha hln hdb he hpl
theorem fn_M{P:Program}{w:World}{K:W.Frag}{mg:Str->Option Value}{base:Heap}{x qual:Str}{st:Stmt}{fa:Addr}{fd:FuncData}{N ps:List Str}{k:Nat}{mb:MS}(Fn:Fun K x qual st fa fd)(S:z05 N ps (z00 st))(hG:G.K=K)
 (hb: ∀(cdv:Value) (A:Around) (outer:List Env) (s:Shared) (H:Hp) (E:XK) (F:Fy),Room k (A.deeper (envOfC qual (z00 st) s.heap.objs.size fa cdv))->SSs (cxOf CX0 P w K mg base N qual (z00 st) fa cdv A outer s H E).nox G F (z0p st) mb):
 FnOk P w K mg base CX0 (k+1) fa fd ps (spM G ps.length (runF N.length mb)):=by
 walk_at "go"
 exact Mi.fn_M Fn S hG hb
end
section
variable{X:Cx}{G:Gx}{F:Fy}{e o:Expr}{es:List Expr}{apos cpos:Pos}
theorem ss_setI{ob ix:Expr}{pos tpos:Pos}{mo mi me:M D}(he:SE X G F e me)(ho:SE X G F ob mo)(hi:SE X G F ix mi)(hg: ∀{to ti:TE},PE X ob to->PE X ix ti->PG X (.Subscript ob ix tpos) (gSub to ti z9g))(hs:swapsWithSole [.Subscript ob ix tpos] e pos.line X.env=pure false:=by rfl)(hw:swappedStores [.Subscript ob ix tpos] e X.env=pure none:=by rfl)
 (h1:(assignEach [.Subscript ob ix tpos] X.env).map (·.2)=[assign (.Subscript ob ix tpos) X.env]:=by rfl):SS X G F (.Assign [.Subscript ob ix tpos] e pos) (mTri me mo mi setD):=by
 walk_at "go"
 exact Mi.ss_setI he ho hi hg hs hw h1
end
section
variable{X:Cx}{G:Gx}{F:Fy}{e a b c:Expr}{pos:Pos}{ma mb mc m:M D}
theorem se_add(hk:X.K=G.K)(ha:SE X G F a ma)(hb:SE X G F b mb):SE X G F (.BinOp a .Add b pos) (mBin ma mb addD):=by
 walk_at "go"
 exact Mi.se_add hk ha hb
theorem se_sub(hk:X.K=G.K)(ha:SE X G F a ma)(hb:SE X G F b mb):SE X G F (.BinOp a .Sub b pos) (mBin ma mb subD):=by
 walk_at "go"
 exact Mi.se_sub hk ha hb
theorem se_mul(hk:X.K=G.K)(ha:SE X G F a ma)(hb:SE X G F b mb):SE X G F (.BinOp a .Mult b pos) (mBin ma mb mulD):=by
 walk_at "go"
 exact Mi.se_mul hk ha hb
theorem se_fdiv(hk:X.K=G.K)(ha:SE X G F a ma)(hb:SE X G F b mb):SE X G F (.BinOp a .FloorDiv b pos) (mBin ma mb z5x):=by
 walk_at "go"
 exact Mi.se_fdiv hk ha hb
theorem se_mod(hk:X.K=G.K)(ha:SE X G F a ma)(hb:SE X G F b mb):SE X G F (.BinOp a .Mod b pos) (mBin ma mb modD):=by
 walk_at "go"
 exact Mi.se_mod hk ha hb
theorem se_pow(hk:X.K=G.K)(ha:SE X G F a ma)(hb:SE X G F b mb):SE X G F (.BinOp a .Pow b pos) (mBin ma mb powD):=by
 walk_at "go"
 exact Mi.se_pow hk ha hb
theorem se_neg(hk:X.K=G.K)(ha:SE X G F a ma):SE X G F (.UnaryOp .USub a pos) (bd ma negD):=by
 walk_at "go"
 exact Mi.se_neg hk ha
theorem se_cmp{op:CmpOp}{g:D->D->M D}(hc:Cm X G F op g)(ha:SE X G F a ma)(hb:SE X G F b mb)(hm:behindInMarks op b=false):SE X G F (.Compare a [op] [b] pos) (mBin ma mb g):=by
 walk_at "go"
 exact Mi.se_cmp hc ha hb hm
theorem sb_cmp{op:CmpOp}{g:D->D->M D}(hc:Cm X G F op g)(ha:SE X G F a ma)(hb:SE X G F b mb)(hm:behindInMarks op b=false):SB X G F (.Compare a [op] [b] pos) (mBoo (mBin ma mb g)):=by
 walk_at "go"
 exact Mi.sb_cmp hc ha hb hm
theorem se_cmp2{op op':CmpOp}{g g':D->D->M D}(hc:Cm X G F op g)(hc':Cm X G F op' g')(ha:SE X G F a ma)(hb:SE X G F b mb)(hcc:SE X G F c mc)(hm:lastMarks [op,op'] [b,c]=false:=by with_unfolding_all rfl):SE X G F (.Compare a [op,op'] [b,c] pos) (z4s ma mb mc g g'):=by
 walk_at "go"
 exact Mi.se_cmp2 hc hc' ha hb hcc hm
theorem se_idx(hk:X.K=G.K)(ha:SE X G F a ma)(hb:SE X G F b mb)(hs:z34 b):SE X G F (.Subscript a b pos) (mBin ma mb ixD):=by
 walk_at "go"
 exact Mi.se_idx hk ha hb hs
theorem se_cb{x:Str}{p:Pos}{es:List Expr}{ms:List (M D)}{g:List D->M D}{id:String}(hk:X.K=G.K)(hc:Cb X G F (.builtin id) g)(hgl:Gl X x)(hm:X.mg x=none)(hv:bootBuiltins x=some (.builtin id))(ha:SA X G F (e::es) (z02 ms))(hn:x≠ "__name__" :=by decide)(hdb:(x==("__debug__" :Str))=false:=by decide)
 (he:starEach (e::es) X.env=(false,eval e X.env)::starEach es X.env:=by rfl) (hpl:(backTo pos (starEach es X.env)).any (·.1)=false:=by rfl):SE X G F (.Call (.Name x p) (e::es) [] pos) (mCB ms g):=by
 walk_at "go"
 exact Mi.se_cb hk hc hgl hm hv ha hn hdb he hpl
theorem se_ct{x:Str}{p:Pos}{es:List Expr}{ms:List (M D)}{g:List D->M D}{T:String}(hk:X.K=G.K)(hc:Cb X G F (.type T) g)(hgl:Gl X x)(hm:X.mg x=none)(hv:bootBuiltins x=some (.type T))(ha:SA X G F (e::es) (z02 ms))(hn:x≠ "__name__" :=by decide)(hdb:(x==("__debug__" :Str))=false:=by decide)
 (he:starEach (e::es) X.env=(false,eval e X.env)::starEach es X.env:=by rfl) (hpl:(backTo pos (starEach es X.env)).any (·.1)=false:=by rfl):SE X G F (.Call (.Name x p) (e::es) [] pos) (mCB ms g):=by
 walk_at "go"
 exact Mi.se_ct hk hc hgl hm hv ha hn hdb he hpl
end
section
variable{X:Cx}{G:Gx}{F:Fy}{e a b c:Expr}{pos:Pos}
theorem se_isiT{p:Pos}{x y:Expr}{Ts:List String}{m:M D}(hk:X.K=G.K)(hT: ∀T∈Ts,T= "tuple" \/T= "list")(hne:Ts≠[])(hgl:Gl X "isinstance")(hm:X.mg "isinstance" =none)(ha:SE X G F x m)(hy:PE X y (tTys Ts))
 (he:starEach [x,y] X.env=(false,eval x X.env)::starEach [y] X.env:=by rfl) (he2:starEach [y] X.env=(false,eval y X.env)::starEach [] X.env:=by rfl) (hpl:(backTo pos (starEach [y] X.env)).any (·.1)=false:=by rfl):SE X G F (.Call (.Name "isinstance" p) [x,y] [] pos) (z5X Ts m):=by
 walk_at "go"
 exact Mi.se_isiT hk hT hne hgl hm ha hy he he2 hpl
end
section
variable{X:Cx}{G:Gx}{F:Fy}{e o:Expr}{es:List Expr}{apos cpos:Pos}
theorem se_cl{name:Str}{id:String}{mo:M D}{ms:List (M D)}{g:D->List D->M D}(hk:X.K=G.K)(slot:Slot "list" name id)(hty:typeOf (.builtin id)=pure (.type "method_descriptor"))(hm:Cl X G F id g)(ho:SE X G F o mo)(ha:SA X G F (e::es) (z02 ms))
 (hbase:attributeBase o name X.env (eval o X.env)=eval o X.env:=by rfl)
 (hfew:((backTo cpos (starEach (e::es) X.env)).all (fun x=> !x.1)&&(backToKw cpos (keywordEach [] X.env)).all (fun x=>x.1.isSome)
  &&decide ((e::es).length+([]:List Keyword).length+(if([]:List Keyword).isEmpty then 0 else 1)<30))=true:=by rfl)
 (hline:(apos.endLine==cpos.line)=true:=by rfl) (hs:starEach (e::es) X.env=(false,eval e X.env)::starEach es X.env:=by rfl) (hplain:(backTo cpos (starEach es X.env)).any (·.1)=false:=by rfl):SE X G F (.Call (.Attribute o name apos) (e::es) [] cpos) (z0X mo ms g):=by
 walk_at "go"
 exact Mi.se_cl hk slot hty hm ho ha hbase hfew hline hs hplain
theorem se_cl0{name:Str}{id:String}{mo:M D}{g:D->List D->M D}(hk:X.K=G.K)(slot:Slot "list" name id)(hty:typeOf (.builtin id)=pure (.type "method_descriptor"))(hm:Cl X G F id g)(ho:SE X G F o mo)
 (hbase:attributeBase o name X.env (eval o X.env)=eval o X.env:=by rfl) (hline:(apos.endLine==cpos.line)=true:=by rfl):SE X G F (.Call (.Attribute o name apos) [] [] cpos) (z0X mo [] g):=by
 walk_at "go"
 exact Mi.se_cl0 hk slot hty hm ho hbase hline
end
section
variable{X:Cx}{G:Gx}{F:Fy}{a b tg:Expr}{pos:Pos}
theorem si_enm{p tpos:Pos}{elts:List Expr}{x1:Nat}{ms:List (M D)}(hk:X.K=G.K)(hg:Gl X "enumerate")(hm:X.mg "enumerate" =none)(ha:SA X G F [a] (z02 ms))(hs:starEach [a] X.env=[(false,eval a X.env)]:=by rfl):SI X G F (.Tuple elts x1 tpos) (.Call (.Name "enumerate" p) [a] [] pos) (mEnm ms):=by
 walk_at "go"
 exact Mi.si_enm hk hg hm ha hs
theorem ss_par{i j:Nat}{x y:Str}{px py pt:Pos}{kt k2 pt2}{ms:List (M D)}(hc:X.calm=true)(hN:X.N.Nodup)(hi:X.N[i]? =some x)(hj:X.N[j]? =some y)(hij:i≠j)
 (hx:X.env.scope.names.lookup x=some .local) (hy:X.env.scope.names.lookup y=some .local) (ha:SA X G F [a,b] (z02 ms))
 (hw:swappedStores [.Tuple [.Name x px, .Name y py] kt pt] (.Tuple [a,b] k2 pt2) X.env=pure (some [x,y]):=by rfl)
 (hs:swapsWithSole [.Tuple [.Name x px, .Name y py] kt pt] (.Tuple [a,b] k2 pt2) pos.line X.env=pure false:=by rfl):
 SS X G F (.Assign [.Tuple [.Name x px, .Name y py] kt pt] (.Tuple [a,b] k2 pt2) pos) (sAsg (.tp [.nm i, .nm j]) (mCB ms tupD)):=by
 walk_at "go"
 exact Mi.ss_par hc hN hi hj hij hx hy ha hw hs
end
section
variable{X:Cx}{G:Gx}{F:Fy}{E:L2.St->XK}{C:Addr}{x y:Str}{np cpos pos p:Pos}{j:Nat}
theorem ss_raise(hh:X.A.handled=none)(hx:XP X G F E)(hr:z3L X E)(hcl:G.cl x=some C)(hg:Gl X x)(hm:X.mg x=some (.ref C))(hq:W.excIn X.K C bmV "ValueError.__new__" =true)(hd:(x==("__debug__" :Str))=false:=by decide):
 SS X G F (.Raise (some (.Call (.Name x np) [.Constant (.str y) j p] [] cpos)) none pos) (z6E x):=by
 walk_at "go"
 exact Mi.ss_raise hh hx hr hcl hg hm hq hd
end
theorem fn_X{G:Gx}{P:Program}{w:World}{K:W.Frag}{mg:Str->Option Value}{base:Heap}{x qual:Str}{st:Stmt}{fa:Addr}{fd:FuncData}{N ps:List Str}{k:Nat}{mb:MS}(Fn:Fun K x qual st fa fd)(S:z05 N ps (z00 st))(hG:G.K=K)
 (hb: ∀(cdv:Value) (A:Around) (outer:List Env) (s:Shared) (H:Hp) (E:XK) (F:Fy),Room k (A.deeper (envOfC qual (z00 st) s.heap.objs.size fa cdv))->XP (cxOf (CX1 P w) P w K mg base N qual (z00 st) fa cdv A outer s H E) G F (fun _=>E)->z3L (cxOf (CX1 P w) P w K mg base N qual (z00 st) fa cdv A outer s H E) (fun _=>E)->SSs (cxOf (CX1 P w) P w K mg base N qual (z00 st) fa cdv A outer s H E) G F (z0p st) mb):
 FnOk P w K mg base (CX1 P w) (k+1) fa fd ps (spX G ps.length (runX N.length mb)):=by
 walk_at "go"
 exact Mi.fn_X Fn S hG hb
section
variable{X:Cx}{G:Gx}{F:Fy}{np hpos pos:Pos}{b₀:Stmt}{suite body:List Stmt}{x n:Str}{ie:Nat}{CB:Addr}{mb mh:MS}{k:Str->Bool}
theorem ss_try(hst:X.stack=X.env::X.outer)(hfr:X.env.frame=some X.env.locals)(hex:X.ex=[])(hK:X.K=G.K)(hg:Gl X x)(hm:X.mg x=some (.ref CB))(hN:X.N.Nodup)(hi:X.N[ie]? =some n)(hloc:X.env.scope.names.lookup n=some .local)
 (hk: ∀c C,G.cl c=some C->k c=true->W.exmOne X.K (.ref C) (.ref CB)=some true)
 (hb: ∀(pl:List (Addr×Obj)) (E':Value->Shared->Prop) (F':Fy) (E:L2.St->XK),XP (Xt X pl E') G F' E->SSs (Xt X pl E') G F' body mb) (hh: ∀a,SSs (Xm X a) G F (b₀::suite) mh) (hd:(x==("__debug__" :Str))=false:=by decide):
 SS X G F (.Try body [.ExceptHandler (some (.Name x np)) (some n) (b₀::suite) hpos] [] [] pos) (sTry k ie mb mh):=by
 walk_at "go"
 exact Mi.ss_try hst hfr hex hK hg hm hN hi hloc hk hb hh hd
theorem se_isX1{p:Pos}{x y:Expr}{m:M D}{c:V}{tb:Str->Option Bool}(hK:X.K=G.K)(hc:clsV c=true)(ht: ∀r C b,G.cl r=some C->tb r=some b->XCls X.K C/\W.kitOne X.K (.ref C) (cvV c)=some b)(hgl:Gl X "isinstance")(hm:X.mg "isinstance" =none)(ha:SE X G F x m)(hy:PE X y (tC c))
 (he:starEach [x,y] X.env=(false,eval x X.env)::starEach [y] X.env:=by rfl) (he2:starEach [y] X.env=(false,eval y X.env)::starEach [] X.env:=by rfl) (hpl:(backTo pos (starEach [y] X.env)).any (·.1)=false:=by rfl):SE X G F (.Call (.Name "isinstance" p) [x,y] [] pos) (mIsX tb m):=by
 walk_at "go"
 exact Mi.se_isX1 hK hc ht hgl hm ha hy he he2 hpl
theorem se_isXT{p:Pos}{x y:Expr}{m:M D}{us:List Value}{tb:Str->Option Bool}(hK:X.K=G.K)(ht: ∀r C b,G.cl r=some C->tb r=some b->XCls X.K C/\W.kitAny X.K (.ref C) us=some b)(hgl:Gl X "isinstance")(hm:X.mg "isinstance" =none)(ha:SE X G F x m)(hy:PE X y (tCls us))
 (he:starEach [x,y] X.env=(false,eval x X.env)::starEach [y] X.env:=by rfl) (he2:starEach [y] X.env=(false,eval y X.env)::starEach [] X.env:=by rfl) (hpl:(backTo pos (starEach [y] X.env)).any (·.1)=false:=by rfl):SE X G F (.Call (.Name "isinstance" p) [x,y] [] pos) (mIsX tb m):=by
 walk_at "go"
 exact Mi.se_isXT hK ht hgl hm ha hy he he2 hpl
end
section
variable{G:Gx}{ρ ρ':Nat->Addr}{H H':Hp}
variable{F:Fy}{σv tv:List (Option V)}{s:Stt}{np:Nat}
theorem se_callH{X:Cx}{e:Expr}{es:List Expr}{pos p:Pos}{CX:CXT}{k:Nat}{fa:Addr}{fd:FuncData}{ps:List Str}{x:Str}{E:XK}{f:FM}{ms:List (M D)}(hk:X.K=G.K)(Fn:z3a X.prog X.w X.K X.mg X.base CX k fa fd ps (spM G ps.length f))(hr:z1O k X.A)(hg:Gl X x)(hm:X.mg x=some (.ref fa))(hkp:W.keepIn X.K (.ref fa)=true)(hb:z0U X.K fd ps [])(hx:z0G CX X E)
 (ha:SA X G F (e::es) (z02 ms)) (hln:ms.length=ps.length) (hdb:(x==("__debug__" :Str))=false:=by decide) (he:starEach (e::es) X.env=(false,eval e X.env)::starEach es X.env:=by rfl) (hpl:(backTo pos (starEach es X.env)).any (·.1)=false:=by rfl):
 SE X G F (.Call (.Name x p) (e::es) [] pos) (z0d f ms):=by
 walk_at "go"
 exact Mi.se_callH hk Fn hr hg hm hkp hb hx ha hln hdb he hpl
theorem fn_H{P:Program}{w:World}{K:W.Frag}{mg:Str->Option Value}{base:Heap}{x qual:Str}{st:Stmt}{fa:Addr}{fd:FuncData}{N ps:List Str}{k:Nat}{mb:MS}(Fn:Fun K x qual st fa fd)(S:z05 N ps (z00 st))(hG:G.K=K)
 (hb: ∀(cdv:Value) (A:Around) (outer:List Env) (s:Shared) (H:Hp) (E:XK) (F:Fy),z1O k (A.deeper (envOfC qual (z00 st) s.heap.objs.size fa cdv))->SSs (cxH CX0 P w K mg base N qual (z00 st) fa cdv A outer s H E).nox G F (z0p st) mb):
 z3a P w K mg base CX0 (k+1) fa fd ps (spM G ps.length (runF N.length mb)):=by
 walk_at "go"
 exact Mi.fn_H Fn S hG hb
end
section
variable{X:Cx}{G:Gx}{F:Fy}{a b e:Expr}{ma mb:M D}{pos:Pos}
theorem ss_setN{i:Nat}{x:Str}{p:Pos}{m:M D}(hN:X.N.Nodup)(hi:X.N[i]? =some x)(hx:Loc X.env.scope x)(hf:X.fn x=true\/X.env.scope.names.lookup x=some .local)(he:SE X G F e m)(hs:swapsWith e (some (.Name x p)) pos.line X.env=pure false:=by rfl):SS X G F (.Assign [.Name x p] e pos) (sAsg (.nm i) m):=by
 walk_at "go"
 exact Mi.ss_setN hN hi hx hf he hs
end
section
variable{X:Cx}{G:Gx}{F:Fy}{e o value:Expr}{pos:Pos}
theorem se_fld{f:Str}{ok:Str->Bool}{m:M D}(he:SE X G F e m)(hc: ∀c C,G.cl c=some C->ok c=true->Cls X.K C/\z0t X.K C f)(hb:attributeBase e f X.env (eval e X.env)=eval e X.env:=by rfl):SE X G F (.Attribute e f pos) (mFld m f ok):=by
 walk_at "go"
 exact Mi.se_fld he hc hb
end
section
variable{X:Cx}{G:Gx}{F:Fy}{e o value:Expr}{pos pos':Pos}
theorem ss_fld{f:Str}{ok:Str->Bool}{me mo:M D}(ho:SE X G F o mo)(he:SE X G F value me)(hc: ∀c C,G.cl c=some C->ok c=true->Cls X.K C/\z0t X.K C f)(hs:swapsWith value (some (.Attribute o f pos')) pos.line X.env=pure false:=by rfl):SS X G F (.Assign [.Attribute o f pos'] value pos) (z5D me mo f ok):=by
 walk_at "go"
 exact Mi.ss_fld ho he hc hs
end
section
variable{X:Cx}{G:Gx}{F:Fy}{CX:CXT}{k:Nat}{fa C:Addr}{fd:FuncData}{ps:List Str}{E:XK}{f:FM}{cn m:Str}{mo:M D}{ms:List (M D)}{o e:Expr}{es:List Expr}{pos apos:Pos}{pl:Sem Bool}
theorem se_mth(hC:G.cl cn=some C)(c:Cls X.K C)(hm:Meth X.K C m fa)(Fn:FnOk X.prog X.w X.K X.mg X.base CX k fa fd ps (spM G ps.length f))(hr:Room k X.A)(hb:z0U X.K fd ps [])(hx:z0G CX X E)(ho:SE X G F o mo)(ha:SA X G F (e::es) (z02 ms))(hln:ms.length+1=ps.length)
 (hst:starEach (e::es) X.env=(false,eval e X.env)::starEach es X.env:=by rfl) (hpl:(backTo pos (starEach es X.env)).any (·.1)=false:=by rfl)
 (ht:eval (.Call (.Attribute o m apos) (e::es) [] pos) X.env=(do
  let ov<-eval o X.env
  standAt apos.atName
  let(f,first)<-holding [ov] (getMethod ov m pl)
  callWith pos f first (backTo pos (starEach (e::es) X.env)) (backToKw pos (keywordEach [] X.env))):=by rfl):SE X G F (.Call (.Attribute o m apos) (e::es) [] pos) (mMth cn m f mo ms):=by
 walk_at "go"
 exact Mi.se_mth hC c hm Fn hr hb hx ho ha hln hst hpl ht
theorem se_mth0(hC:G.cl cn=some C)(c:Cls X.K C)(hm:Meth X.K C m fa)(Fn:FnOk X.prog X.w X.K X.mg X.base CX k fa fd ps (spM G ps.length f))(hr:Room k X.A)(hb:z0U X.K fd ps [])(hx:z0G CX X E)(ho:SE X G F o mo)(hln:1=ps.length)
 (ht:eval (.Call (.Attribute o m apos) [] [] pos) X.env=(do
  let ov<-eval o X.env
  standAt apos.atName
  let(f,first)<-holding [ov] (getMethod ov m pl)
  callWith pos f first (backTo pos (starEach [] X.env)) (backToKw pos (keywordEach [] X.env))):=by rfl):SE X G F (.Call (.Attribute o m apos) [] [] pos) (mMth cn m f mo []):=by
 walk_at "go"
 exact Mi.se_mth0 hC c hm Fn hr hb hx ho hln ht
end
section
variable{X:Cx}{G:Gx}{F:Fy}{CX:CXT}{k:Nat}{fa C:Addr}{fd:FuncData}{ps:List Str}{E:XK}{f:FM}{cn x:Str}{ms:List (M D)}{e:Expr}{es:List Expr}{pos p:Pos}
theorem se_make0(hk:X.K=G.K)(hC:G.cl cn=some C)(Mk:Mk X.K C fa)(Fn:FnOk X.prog X.w X.K X.mg X.base CX k fa fd ps (spM G ps.length f))(hr:Room (k+1) X.A)(hg:Gl X x)(hm:X.mg x=some (.ref C))(hb:z0U X.K fd ps [])(hx:z0G CX X E)
 (hln:1=ps.length) (hdb:(x==("__debug__" :Str))=false:=by decide):SE X G F (.Call (.Name x p) [] [] pos) (z61 cn f []):=by
 walk_at "go"
 exact Mi.se_make0 hk hC Mk Fn hr hg hm hb hx hln hdb
end
section
variable{X:Cx}{G:Gx}{F:Fy}{k:Nat}{fa C:Addr}{fd:FuncData}{ps:List Str}{E:L2.St->XK}{f:FM}{cn m:Str}{mo:M D}{ms:List (M D)}{o e:Expr}{es:List Expr}{pos apos:Pos}{pl:Sem Bool}
theorem se_mthX(hx:XP X G F E)(hC:G.cl cn=some C)(c:Cls X.K C)(hm:Meth X.K C m fa)(Fn:FnOk X.prog X.w X.K X.mg X.base (CX1 X.prog X.w) k fa fd ps (spX G ps.length f))(hr:Room k X.A)(hb:z0U X.K fd ps [])(ho:SE X G F o mo)(ha:SA X G F (e::es) (z02 ms))(hln:ms.length+1=ps.length)
 (hst:starEach (e::es) X.env=(false,eval e X.env)::starEach es X.env:=by rfl) (hpl:(backTo pos (starEach es X.env)).any (·.1)=false:=by rfl)
 (ht:eval (.Call (.Attribute o m apos) (e::es) [] pos) X.env=(do
  let ov<-eval o X.env
  standAt apos.atName
  let(f,first)<-holding [ov] (getMethod ov m pl)
  callWith pos f first (backTo pos (starEach (e::es) X.env)) (backToKw pos (keywordEach [] X.env))):=by rfl):SE X G F (.Call (.Attribute o m apos) (e::es) [] pos) (z7s cn m f mo ms):=by
 walk_at "go"
 exact Mi.se_mthX hx hC c hm Fn hr hb ho ha hln hst hpl ht
end
section
variable{X:Cx}{G:Gx}{F:Fy}{a b tg:Expr}{pos:Pos}
theorem se_listRange1{p p2 pos2:Pos}{ms:List (M D)}(hk:X.K=G.K)(hc:X.calm=true)(hgl:Gl X "list")(hml:X.mg "list" =none)(hgr:Gl X "range")(hmr:X.mg "range" =none)(ha:SA X G F [b] (z02 ms))(hs2:starEach [b] X.env=[(false,eval b X.env)]:=by rfl)
 (hso:starEach [.Call (.Name "range" p2) [b] [] pos2] X.env=[(false,eval (.Call (.Name "range" p2) [b] [] pos2) X.env)]:=by rfl):SE X G F (.Call (.Name "list" p) [.Call (.Name "range" p2) [b] [] pos2] [] pos) (mCB ms lrM1):=by
 walk_at "go"
 exact Mi.se_listRange1 hk hc hgl hml hgr hmr ha hs2 hso
end
section
variable{X:Cx}{G:Gx}{F:Fy}{st:Stmt}
theorem ss_no:SS X G F st sNo:=by
 walk_at "go"
 exact Mi.ss_no
end
inductive SEs(X:Cx)(G:Gx)(F:Fy):List Expr->List (M D)->Prop
 |nil:SEs X G F [] []
 |cons {e:Expr} {m:M D} {es:List Expr} {ms:List (M D)}:SE X G F e m->nst e=true->SEs X G F es ms->SEs X G F (e::es) (m::ms)
theorem eSEs{X:Cx}{G:Gx}{F:Fy}{es:List Expr}{ms:List (M D)}(h:SEs X G F es ms):Mi.SEs X G F es ms:=by
 induction h with
 |nil=>exact .nil
 |cons h n _ ih=>rw[eSE] at h;exact .cons h n ih
theorem sa_of{X:Cx}{G:Gx}{F:Fy}{es:List Expr}{ms:List (M D)}(hk:X.K=G.K)(h:SEs X G F es ms):SA X G F es (z02 ms):=by
 rw[eSA];exact Mi.sa_of hk (eSEs h)
section
variable{X:Cx}{G:Gx}{F:Fy}{e a b c d:Expr}{pos p:Pos}{m ma mb mc md:M D}
theorem sv(i:Nat){x:Str}(hk:X.K=G.K:=by rfl)(hN:X.N[i]? =some x:=by rfl)(hv:Vis X.env.scope x:=by first|exact Or.inl rfl|exact Or.inr (Or.inl rfl)|exact Or.inr (Or.inr rfl))(hd:(x==("__debug__" :Str))=false:=by decide)(hcd:(x==("__classdict__" :Str))=false:=by decide):SE X G F (.Name x pos) (mVar i):=se_var i hk (pv i hN hv hd hcd)
theorem s1(h:SE X G F a ma)(n:nst a=true:=by rfl)(hk:X.K=G.K:=by rfl):SA X G F [a] (z02 [ma]):=sa_of hk (.cons h n .nil)
theorem s2(h:SE X G F a ma)(h2:SE X G F b mb)(n:nst a=true:=by rfl)(n2:nst b=true:=by rfl)(hk:X.K=G.K:=by rfl):SA X G F [a,b] (z02 [ma,mb]):=sa_of hk (.cons h n (.cons h2 n2 .nil))
theorem s3(h:SE X G F a ma)(h2:SE X G F b mb)(h3:SE X G F c mc)(n:nst a=true:=by rfl)(n2:nst b=true:=by rfl)(n3:nst c=true:=by rfl)(hk:X.K=G.K:=by rfl):SA X G F [a,b,c] (z02 [ma,mb,mc]):=sa_of hk (.cons h n (.cons h2 n2 (.cons h3 n3 .nil)))
theorem s4(h:SE X G F a ma)(h2:SE X G F b mb)(h3:SE X G F c mc)(h4:SE X G F d md)(n:nst a=true:=by rfl)(n2:nst b=true:=by rfl)(n3:nst c=true:=by rfl)(n4:nst d=true:=by rfl)(hk:X.K=G.K:=by rfl):SA X G F [a,b,c,d] (z02 [ma,mb,mc,md]):=sa_of hk (.cons h n (.cons h2 n2 (.cons h3 n3 (.cons h4 n4 .nil))))
theorem sst(i:Nat){x:Str}(hN:X.N.Nodup)(he:SE X G F e m)(hi:X.N[i]? =some x:=by rfl)(hx:Loc X.env.scope x:=by exact Or.inl rfl)(hs:swapsWith e (some (.Name x p)) pos.line X.env=pure false:=by rfl)(hf:X.fn x=true\/X.env.scope.names.lookup x=some .local:=by first|exact .inl rfl|exact .inr rfl|assumption):SS X G F (.Assign [.Name x p] e pos) (sAsg (.nm i) m):=
 ss_set (fun{te} h=>za4 hN hi hx h hs hf) he
theorem sgn(i:Nat){x:Str}(hN:X.N.Nodup)(hi:X.N[i]? =some x:=by rfl)(hx:Loc X.env.scope x:=by exact Or.inl rfl)(hf:X.fn x=true\/X.env.scope.names.lookup x=some .local:=by first|exact .inl rfl|exact .inr rfl|assumption):SG X G F (.Name x pos) (.nm i):=sg_name (z1x hN hi hx hf)
theorem sln{es:List Expr}{ms:List (M D)}(hm:X.mg "len" =none)(ha:SA X G F (e::es) (z02 ms))(hgl:Gl X "len" :=by rfl)(he:starEach (e::es) X.env=(false,eval e X.env)::starEach es X.env:=by rfl)(hpl:(backTo pos (starEach es X.env)).any (·.1)=false:=by rfl)(hk:X.K=G.K:=by rfl):SE X G F (.Call (.Name "len" p) (e::es) [] pos) (mCB ms lenD):=
 se_cb hk (zdi hk) hgl hm PyProof.Rows.Boot.«len» ha (by decide) (by decide) he hpl
theorem sc0{v:V}{d:D}(h:PE X e (tC v))(hd:cV d=some v:=by rfl)(hk:X.K=G.K:=by rfl):SE X G F e (mC d):=se_c hk h hd
theorem sxc{v:V}{q:D}(ha:SE X G F a ma)(h:PE X b (tC v))(hd:cV q=some v:=by rfl)(hs:z34 b:=by exact fun _ _=>rfl)(hk:X.K=G.K:=by rfl):SE X G F (.Subscript a b pos) (mBin ma (mC q) ixD):=se_idx hk ha (se_c hk h hd) hs
theorem sxx(ha:SE X G F a ma)(hb:SE X G F b mb)(hs:z34 b:=by exact fun _ _=>rfl)(hk:X.K=G.K:=by rfl):SE X G F (.Subscript a b pos) (mBin ma mb ixD):=se_idx hk ha hb hs
end
section
variable{G:Gx}{P:Program}{w:World}{K:W.Frag}{mg:Str->Option Value}{base:Heap}{x qual:Str}{st:Stmt}{fa:Addr}{fd:FuncData}{N ps:List Str}{k np:Nat}{f:FM}
theorem okM(mb:MS)(Fn:Fun K x qual st fa fd)(S:z05 N ps (z00 st))(hb: ∀(cdv:Value) (A:Around) (outer:List Env) (s:Shared) (H:Hp) (E:XK) (F:Fy),Room k (A.deeper (envOfC qual (z00 st) s.heap.objs.size fa cdv))->SSs (cxOf CX0 P w K mg base N qual (z00 st) fa cdv A outer s H E).nox G F (z0p st) mb)(hG:G.K=K:=by rfl)(hf:f=runF N.length mb:=by rfl)(hn:np=ps.length:=by rfl):
 FnOk P w K mg base CX0 (k+1) fa fd ps (spM G np f):=by
 subst hf hn;exact fn_M Fn S hG hb
theorem okX(mb:MS)(Fn:Fun K x qual st fa fd)(S:z05 N ps (z00 st))(hb: ∀(cdv:Value) (A:Around) (outer:List Env) (s:Shared) (H:Hp) (E:XK) (F:Fy),Room k (A.deeper (envOfC qual (z00 st) s.heap.objs.size fa cdv))->XP (cxOf (CX1 P w) P w K mg base N qual (z00 st) fa cdv A outer s H E) G F (fun _=>E)->z3L (cxOf (CX1 P w) P w K mg base N qual (z00 st) fa cdv A outer s H E) (fun _=>E)->SSs (cxOf (CX1 P w) P w K mg base N qual (z00 st) fa cdv A outer s H E) G F (z0p st) mb)(hG:G.K=K:=by rfl)(hf:f=runX N.length mb:=by rfl)(hn:np=ps.length:=by rfl):
 FnOk P w K mg base (CX1 P w) (k+1) fa fd ps (spX G np f):=by
 subst hf hn;exact fn_X Fn S hG hb
theorem okH(mb:MS)(Fn:Fun K x qual st fa fd)(S:z05 N ps (z00 st))(hb: ∀(cdv:Value) (A:Around) (outer:List Env) (s:Shared) (H:Hp) (E:XK) (F:Fy),z1O k (A.deeper (envOfC qual (z00 st) s.heap.objs.size fa cdv))->SSs (cxH CX0 P w K mg base N qual (z00 st) fa cdv A outer s H E).nox G F (z0p st) mb)(hG:G.K=K:=by rfl)(hf:f=runF N.length mb:=by rfl)(hn:np=ps.length:=by rfl):
 z3a P w K mg base CX0 (k+1) fa fd ps (spM G np f):=by
 subst hf hn;exact fn_H Fn S hG hb
end
end My
namespace My
open PySem L2 Mi
noncomputable def top(i:Nat):Stmt:=PySem.Challenge.pw_signbench_k56_gone_to_any_deed.main.body.getD i (.Pass ⟨0,0,0,0⟩)
noncomputable abbrev z3P:Stmt:=top 0
noncomputable abbrev z1P:Stmt:=top 27
noncomputable abbrev z2c:Stmt:=top 28
noncomputable abbrev z3c:Stmt:=top 29
noncomputable abbrev z62:Stmt:=top 33
noncomputable abbrev z4W:Stmt:=top 34
noncomputable abbrev z4X:Stmt:=top 35
noncomputable abbrev z3d:Stmt:=top 36
noncomputable abbrev z3Q:Stmt:=top 37
noncomputable abbrev z3R:Stmt:=top 38
noncomputable abbrev z4Y:Stmt:=top 39
noncomputable abbrev z3S:Stmt:=top 40
noncomputable abbrev z3T:Stmt:=top 41
noncomputable abbrev z4Z:Stmt:=top 42
noncomputable abbrev zbr:Stmt:=top 43
noncomputable abbrev z14:Stmt:=stC (top 31) 0
noncomputable abbrev z2w:Stmt:=stC (top 31) 1
noncomputable abbrev z2x:Stmt:=stC (top 31) 4
noncomputable abbrev z15:Stmt:=stC (top 31) 5
noncomputable abbrev z1Q:Stmt:=stC (top 31) 6
noncomputable abbrev z1R:Stmt:=stC (top 31) 7
noncomputable abbrev z1z:Stmt:=stC (top 31) 8
noncomputable abbrev z5E:List Str:=["k"]
noncomputable abbrev z5F:List Str:=z5E
noncomputable abbrev z2O:List Str:=["thing"]
noncomputable abbrev z1S:List Str:=z2O
noncomputable abbrev z3k:List Str:=["thing", "low", "high"]
noncomputable abbrev z2d:List Str:=z3k
noncomputable abbrev z4w:List Str:=["thing"]
noncomputable abbrev z4x:List Str:=z4w
noncomputable abbrev zbs:List Str:=["_law_script", "_law_at", "_law_cell", "_law_mix", "_law_k"]
noncomputable abbrev z63:List Str:=["_law_script", "_law_at"]
noncomputable abbrev z9K:List Str:=["_law_bag_here", "_law_many", "_law_digit"]
noncomputable abbrev z50:List Str:=["_law_bag_here", "_law_many"]
noncomputable abbrev z6H:List Str:=["_law_thing"]
noncomputable abbrev z6I:List Str:=z6H
noncomputable abbrev z7t:List Str:=["_law_thing", "_law_one"]
noncomputable abbrev z4y:List Str:=["_law_thing"]
noncomputable abbrev z8s:List Str:=["_law_e", "_law_one", "_law_other", "_law_more"]
noncomputable abbrev z3U:List Str:=["_law_e"]
noncomputable abbrev z8t:List Str:=["_law_bag_here", "_law_some", "_law_left", "_law_found", "_law_turn"]
noncomputable abbrev z3V:List Str:=["_law_bag_here", "_law_some"]
noncomputable abbrev z9L:List Str:=["_law_bag_here", "_law_number", "_law_some", "_law_way"]
noncomputable abbrev z51:List Str:=["_law_bag_here", "_law_number"]
noncomputable abbrev z8u:List Str:=["_law_found", "_law_kept", "_law_k"]
noncomputable abbrev z5G:List Str:=["_law_found", "_law_kept"]
noncomputable abbrev z8v:List Str:=["_law_tree", "_law_number", "_law_nodes", "_law_held", "_law_due", "_law_here", "_law_turn", "_law_path", "_law_under"]
noncomputable abbrev z3W:List Str:=["_law_tree", "_law_number", "_law_nodes", "_law_held"]
noncomputable abbrev z9M:List Str:=["_law_tree", "_law_number", "_law_e"]
noncomputable abbrev z52:List Str:=["_law_tree", "_law_number"]
noncomputable abbrev zf4:List Str:=["_law_script", "_law_bag_here", "_law_tree", "_law_nodes", "_law_turn", "_law_number", "_law_deed_here", "_law_held", "_law_far"]
noncomputable abbrev zbt:List Str:=["_law_script"]
noncomputable abbrev z1F:List Str:=["self"]
noncomputable abbrev z1G:List Str:=z1F
noncomputable abbrev z3X:List Str:=["self", "deed"]
noncomputable abbrev z3Y:List Str:=z3X
noncomputable abbrev z3Z:List Str:=["self", "number"]
noncomputable abbrev z2y:List Str:=z3Z
noncomputable abbrev z1H:List Str:=["self", "number"]
noncomputable abbrev z1I:List Str:=z1H
noncomputable abbrev z2P:List Str:=["self"]
noncomputable abbrev z2Q:List Str:=z2P
noncomputable abbrev z53:List Str:=["self", "found", "number"]
noncomputable abbrev z2R:List Str:=["self"]
noncomputable abbrev z2q:List Str:=["self"]
noncomputable abbrev z2r:List Str:=z2q
local macro_rules | `(tactic| walk_at "sc") => `(tactic| exact ⟨rfl, rfl, rfl, by decide +kernel, rfl, by decide +kernel, by decide +kernel⟩)
theorem zc8:z05 z5E z5F (z00 z3P):=by walk_at "sc"
theorem z4l:z05 z2O z1S (z00 z1P):=by walk_at "sc"
theorem z54:z05 z3k z2d (z00 z2c):=by walk_at "sc"
theorem z64:z05 z4w z4x (z00 z3c):=by walk_at "sc"
theorem z1T:z05 zbs z63 (z00 z62):=by walk_at "sc"
theorem z5H:z05 z9K z50 (z00 z4W):=by walk_at "sc"
theorem z8w:z05 z6H z6I (z00 z4X):=by walk_at "sc"
theorem z40:z05 z7t z4y (z00 z3d):=by walk_at "sc"
theorem z2i:z05 z8s z3U (z00 z3Q):=by walk_at "sc"
theorem z2j:z05 z8t z3V (z00 z3R):=by walk_at "sc"
theorem z41:z05 z9L z51 (z00 z4Y):=by walk_at "sc"
theorem z4z:z05 z8u z5G (z00 z3S):=by walk_at "sc"
theorem z16:z05 z8v z3W (z00 z3T):=by walk_at "sc"
theorem z5I:z05 z9M z52 (z00 z4Z):=by walk_at "sc"
theorem z2e:z05 zf4 zbt (z00 zbr):=by walk_at "sc"
theorem z2S:z05 z1F z1G (z00 z14):=by walk_at "sc"
theorem z5J:z05 z3X z3Y (z00 z2w):=by walk_at "sc"
theorem z3l:z05 z3Z z2y (z00 z2x):=by walk_at "sc"
theorem z1w:z05 z1H z1I (z00 z15):=by walk_at "sc"
theorem z4m:z05 z2P z2Q (z00 z1Q):=by walk_at "sc"
theorem z19:z05 z53 z2R (z00 z1R):=by walk_at "sc"
theorem z42:z05 z2q z2r (z00 z1z):=by walk_at "sc"
structure Dx(K:W.Frag)(mg:Str->Option Value)(x:Str)(st:Stmt)(ps:List Str) where
 f:Addr
 d:FuncData
 F:Fun K x x st f d
 b:z0U K d ps []
 m:mg x=some (.ref f)
theorem scl{X:Cx}{G:Gx}{F:Fy}{e:Expr}{es:List Expr}{pos p:Pos}{CX:CXT}{k j:Nat}{x:Str}{st:Stmt}{ps:List Str}{E:XK}{f:FM}{ms:List (M D)}(d:Dx X.K X.mg x st ps)(Fn:FnOk X.prog X.w X.K X.mg X.base CX j d.f d.d ps (spM G ps.length f))(hr:Room k X.A)(ha:SA X G F (e::es) (z02 ms))(hg:Gl X x:=by rfl)(hx:z0G CX X E:=by exact z1b)(hln:ms.length=ps.length:=by rfl)(hk:X.K=G.K:=by rfl)(hj:j<=k:=by lia)(hdb:(x==("__debug__" :Str))=false:=by decide)(he:starEach (e::es) X.env=(false,eval e X.env)::starEach es X.env:=by rfl)(hpl:(backTo pos (starEach es X.env)).any (·.1)=false:=by rfl):SE X G F (.Call (.Name x p) (e::es) [] pos) (z0d f ms):=se_call hk (Fn.mono hj) hr hg d.m d.F.kp d.b hx ha hln hdb he hpl
noncomputable abbrev kF(K:W.Frag)(a b:Addr)(r:Bool):Prop:=W.kitOne K (.ref a) (.ref b)=some r
noncomputable abbrev kN(K:W.Frag)(a:Addr)(l:List Addr):Prop:=W.kitAny K (.ref a) (l.map .ref)=some false
noncomputable abbrev kV(K:W.Frag)(a:Addr):Prop:=W.kitOne K (.ref a) (.type "ValueError")=some true
noncomputable abbrev fA(K:W.Frag)(a:Addr):Prop:=W.findIn K (.ref a) "__getattribute__" =some (some (.builtin "BaseException.__getattribute__"))
noncomputable abbrev fB(K:W.Frag)(a:Addr):Prop:=W.findIn K (.ref a) "__getattr__" =some none
noncomputable abbrev fC(K:W.Frag)(a:Addr):Prop:=W.findIn K (.ref a) "__class__" =some (some (.builtin "object.__class__"))
noncomputable abbrev xA(K:W.Frag)(a:Addr):Prop:=W.excIn K a bmV "ValueError.__new__" =true
noncomputable abbrev mO(K:W.Frag)(a:Addr)(s:String):Prop:=W.mroIn K a (.type s)=some true
noncomputable abbrev eB(K:W.Frag)(a b:Addr):Prop:=W.exmOne K (.ref a) (.ref b)=some true
noncomputable abbrev nI(K:W.Frag)(s:Str)(a:Addr):Prop:=W.nsIn K mainGlobals s=some (some (.ref a))
set_option genInjectivity false in
set_option genSizeOf false in
set_option genSizeOfSpec false in
structure Wd(K:W.Frag)(mg:Str->Option Value) where
 kbj:Addr
 kbd:mg "Tree" =some (.ref kbj)
 cc_Tree:Cls K kbj
 kaF:Dx K mg "_wall" z3P z5F
 kah:Dx K mg "is_number" z1P z1S
 kal:Dx K mg "is_whole" z2c z2d
 kat:Dx K mg "copied" z3c z4x
 kbe:Dx K mg "_law_bag" z62 z63
 ka8:Dx K mg "_law_take" z4W z50
 kba:Dx K mg "_law_copy" z4X z6I
 kaA:Dx K mg "_law_change" z3d z4y
 kaS:Dx K mg "_law_alone" z3Q z3U
 kaB:Dx K mg "_law_mixed" z3R z3V
 ka1:Dx K mg "_law_deed" z4Y z51
 kaE:Dx K mg "_law_apart" z3S z5G
 kaJ:Dx K mg "_law_shown" z3T z3W
 ka7:Dx K mg "_law_none" z4Z z52
 x_law:Dx K mg "law" zbr zbt
 kaa:Dm K kbj "__init__" "Tree.__init__" z14 ["self"]
 kao:Dm K kbj "do" "Tree.do" z2w ["self", "deed"]
 kaq:Dm K kbj "go" "Tree.go" z2x ["self", "number"]
 kab:Dm K kbj "stand_at" "Tree.stand_at" z15 ["self", "number"]
 kae:Dm K kbj "here" "Tree.here" z1Q ["self"]
 kag:Dm K kbj "path" "Tree.path" z1R ["self"]
 kac:Dm K kbj "under" "Tree.under" z1z ["self"]
 n_ValueError:mg "ValueError" =none
 n_abs:mg "abs" =none
 n_all:mg "all" =none
 n_bool:mg "bool" =none
 n_enumerate:mg "enumerate" =none
 n_int:mg "int" =none
 n_isinstance:mg "isinstance" =none
 n_len:mg "len" =none
 n_list:mg "list" =none
 n_max:mg "max" =none
 n_min:mg "min" =none
 n_range:mg "range" =none
 n_repr:mg "repr" =none
 n_tuple:mg "tuple" =none
 kaX:Addr
 kaQ:mg "Barred" =some (.ref kaX)
 kai:Addr
 kad:mg "BenchError" =some (.ref kai)
 kbg:Addr
 kbb:mg "Fight" =some (.ref kbg)
 kbi:Addr
 kbc:mg "Full" =some (.ref kbi)
 kaZ:Addr
 kaM:mg "Marked" =some (.ref kaZ)
 kaT:Addr
 kar:mg "Missing" =some (.ref kaT)
 kaz:Addr
 kam:mg "NoChoice" =some (.ref kaz)
 kap:Addr
 kaj:mg "NoCutting" =some (.ref kap)
 ka9:Addr
 kaI:mg "NoDeed" =some (.ref ka9)
 ka6:Addr
 kaK:mg "NoMark" =some (.ref ka6)
 ka5:Addr
 kaD:mg "NoNode" =some (.ref ka5)
 kaN:Addr
 kay:mg "NoPlace" =some (.ref kaN)
 kau:Addr
 kan:mg "NoSaying" =some (.ref kau)
 kak:Addr
 kaf:mg "NoStanding" =some (.ref kak)
 kaR:Addr
 kas:mg "NoTable" =some (.ref kaR)
 kaW:Addr
 kaC:mg "NoText" =some (.ref kaW)
 ka2:Addr
 kaG:mg "NoTurn" =some (.ref ka2)
 ka3:Addr
 kaO:mg "NoWish" =some (.ref ka3)
 kaY:Addr
 kaH:mg "NoWord" =some (.ref kaY)
 kaU:Addr
 kav:mg "Nothing" =some (.ref kaU)
 kaV:Addr
 kaw:mg "TooLong" =some (.ref kaV)
 kaL:Addr
 kax:mg "TooMany" =some (.ref kaL)
 kbh:Addr
 ka4:mg "Twice" =some (.ref kbh)
 kbf:Addr
 ka0:mg "Waits" =some (.ref kbf)
 kaP:xA K ka5
 cxob_NoNode:mO K ka5 "object"
 cxba_NoNode:mO K ka5 "BaseException"
 cxf1_NoNode:fA K ka5
 cxf2_NoNode:fB K ka5
 cxf3_NoNode:fC K ka5
 ch_NoNode_BenchError:eB K ka5 kai
 ck_0_NoNode:kN K ka5 [kaX,kaZ,ka9,ka6,kaN,kak,kaV,kaY,kbh,kaL,kbi]
 ck_1_NoNode:kN K ka5 [kaT,kaz,kaW,kaU,ka3,kbg,kap,kbf,ka2]
 ck_2_NoNode:kN K ka5 [kaR,kau]
 ck_3_NoNode:kV K ka5
 ck_4_NoNode:kF K ka5 ka5 true
 na_Tree_above:z0t K kbj "above"
 na_Tree_at:z0t K kbj "at"
 na_Tree_deeds:z0t K kbj "deeds"
 na_Tree_last_under:z0t K kbj "last_under"
 mk_Tree:Mk K kbj kaa.f
 cnd:[ka5,kbj].Nodup
section
variable{K:W.Frag}{mg:Str->Option Value}
noncomputable abbrev GT(T:Wd K mg):Gx:=mkG K [("NoNode",T.ka5),("Tree",T.kbj)] T.cnd (.cons (zbo T.kaP) (.cons (zbq T.cc_Tree) .nil))
theorem z8x(T:Wd K mg):(GT T).cl "NoNode" =some T.ka5:=rfl
theorem z0R(T:Wd K mg):(GT T).cl "Tree" =some T.kbj:=rfl
noncomputable def z0j(c:Str):Bool:=[("Tree" :Str)].contains c
theorem z1j(T:Wd K mg): ∀c C,(GT T).cl c=some C->z0j c=true->Cls K C/\z0t K C "above" :=fun c C h1 h2=>by
 have h3:([("Tree",())]:List (Str×Unit)).lookup c=some ():=by
  unfold z0j at h2;simp only[List.contains_cons,List.contains_nil,Bool.or_eq_true,Bool.or_false,beq_iff_eq] at h2
  subst h2;rfl
 exact Al2.at (Φ:=fun C (_:Unit)=>Cls K C/\z0t K C "above") (.skip rfl (.cons (b:=()) ⟨T.cc_Tree,T.na_Tree_above⟩ .nil)) h1 h3
noncomputable def z3e(c:Str):Bool:=[("Tree" :Str)].contains c
theorem z65(T:Wd K mg): ∀c C,(GT T).cl c=some C->z3e c=true->Cls K C/\z0t K C "at" :=fun c C h1 h2=>by
 have h3:([("Tree",())]:List (Str×Unit)).lookup c=some ():=by
  unfold z3e at h2;simp only[List.contains_cons,List.contains_nil,Bool.or_eq_true,Bool.or_false,beq_iff_eq] at h2
  subst h2;rfl
 exact Al2.at (Φ:=fun C (_:Unit)=>Cls K C/\z0t K C "at") (.skip rfl (.cons (b:=()) ⟨T.cc_Tree,T.na_Tree_at⟩ .nil)) h1 h3
noncomputable def z1k(c:Str):Bool:=[("Tree" :Str)].contains c
theorem z55(T:Wd K mg): ∀c C,(GT T).cl c=some C->z1k c=true->Cls K C/\z0t K C "deeds" :=fun c C h1 h2=>by
 have h3:([("Tree",())]:List (Str×Unit)).lookup c=some ():=by
  unfold z1k at h2;simp only[List.contains_cons,List.contains_nil,Bool.or_eq_true,Bool.or_false,beq_iff_eq] at h2
  subst h2;rfl
 exact Al2.at (Φ:=fun C (_:Unit)=>Cls K C/\z0t K C "deeds") (.skip rfl (.cons (b:=()) ⟨T.cc_Tree,T.na_Tree_deeds⟩ .nil)) h1 h3
noncomputable def z0l(c:Str):Bool:=[("Tree" :Str)].contains c
theorem z1U(T:Wd K mg): ∀c C,(GT T).cl c=some C->z0l c=true->Cls K C/\z0t K C "last_under" :=fun c C h1 h2=>by
 have h3:([("Tree",())]:List (Str×Unit)).lookup c=some ():=by
  unfold z0l at h2;simp only[List.contains_cons,List.contains_nil,Bool.or_eq_true,Bool.or_false,beq_iff_eq] at h2
  subst h2;rfl
 exact Al2.at (Φ:=fun C (_:Unit)=>Cls K C/\z0t K C "last_under") (.skip rfl (.cons (b:=()) ⟨T.cc_Tree,T.na_Tree_last_under⟩ .nil)) h1 h3
noncomputable def z1l(c:Str):Bool:=[("NoNode" :Str)].contains c
theorem z56(T:Wd K mg): ∀c C,(GT T).cl c=some C->z1l c=true->eB K C T.kai:=fun c C h1 h2=>by
 have h3:([("NoNode",())]:List (Str×Unit)).lookup c=some ():=by
  unfold z1l at h2;simp only[List.contains_cons,List.contains_nil,Bool.or_eq_true,Bool.or_false,beq_iff_eq] at h2
  subst h2;rfl
 exact Al2.at (Φ:=fun C (_:Unit)=>eB K C T.kai) (.cons (b:=()) T.ch_NoNode_BenchError (.skip rfl .nil)) h1 h3
noncomputable def tb_0(c:Str):Option Bool:=[(("NoNode" :Str),false)].lookup c
theorem ht_0(T:Wd K mg): ∀r C b,(GT T).cl r=some C->tb_0 r=some b->XCls K C/\W.kitAny K (.ref C) ([V.ref T.kaX,V.ref T.kaZ,V.ref T.ka9,V.ref T.ka6,V.ref T.kaN,V.ref T.kak,V.ref T.kaV,V.ref T.kaY,V.ref T.kbh,V.ref T.kaL,V.ref T.kbi].map cvV)=some b:=fun r C b h1 h2=>Al2.at (Φ:=fun C b=>XCls K C/\W.kitAny K (.ref C) ([V.ref T.kaX,V.ref T.kaZ,V.ref T.ka9,V.ref T.ka6,V.ref T.kaN,V.ref T.kak,V.ref T.kaV,V.ref T.kaY,V.ref T.kbh,V.ref T.kaL,V.ref T.kbi].map cvV)=some b) (.cons ⟨⟨T.cxob_NoNode,T.cxba_NoNode,T.cxf1_NoNode,T.cxf2_NoNode,T.cxf3_NoNode⟩,T.ck_0_NoNode⟩ (.skip rfl .nil)) h1 h2
noncomputable def tb_1(c:Str):Option Bool:=[(("NoNode" :Str),false)].lookup c
theorem ht_1(T:Wd K mg): ∀r C b,(GT T).cl r=some C->tb_1 r=some b->XCls K C/\W.kitAny K (.ref C) ([V.ref T.kaT,V.ref T.kaz,V.ref T.kaW,V.ref T.kaU,V.ref T.ka3,V.ref T.kbg,V.ref T.kap,V.ref T.kbf,V.ref T.ka2].map cvV)=some b:=fun r C b h1 h2=>Al2.at (Φ:=fun C b=>XCls K C/\W.kitAny K (.ref C) ([V.ref T.kaT,V.ref T.kaz,V.ref T.kaW,V.ref T.kaU,V.ref T.ka3,V.ref T.kbg,V.ref T.kap,V.ref T.kbf,V.ref T.ka2].map cvV)=some b) (.cons ⟨⟨T.cxob_NoNode,T.cxba_NoNode,T.cxf1_NoNode,T.cxf2_NoNode,T.cxf3_NoNode⟩,T.ck_1_NoNode⟩ (.skip rfl .nil)) h1 h2
noncomputable def tb_2(c:Str):Option Bool:=[(("NoNode" :Str),false)].lookup c
theorem ht_2(T:Wd K mg): ∀r C b,(GT T).cl r=some C->tb_2 r=some b->XCls K C/\W.kitAny K (.ref C) ([V.ref T.kaR,V.ref T.kau].map cvV)=some b:=fun r C b h1 h2=>Al2.at (Φ:=fun C b=>XCls K C/\W.kitAny K (.ref C) ([V.ref T.kaR,V.ref T.kau].map cvV)=some b) (.cons ⟨⟨T.cxob_NoNode,T.cxba_NoNode,T.cxf1_NoNode,T.cxf2_NoNode,T.cxf3_NoNode⟩,T.ck_2_NoNode⟩ (.skip rfl .nil)) h1 h2
noncomputable def tb_3(c:Str):Option Bool:=[(("NoNode" :Str),true)].lookup c
theorem ht_3(T:Wd K mg): ∀r C b,(GT T).cl r=some C->tb_3 r=some b->XCls K C/\W.kitOne K (.ref C) (cvV (.ty "ValueError"))=some b:=fun r C b h1 h2=>Al2.at (Φ:=fun C b=>XCls K C/\W.kitOne K (.ref C) (cvV (.ty "ValueError"))=some b) (.cons ⟨⟨T.cxob_NoNode,T.cxba_NoNode,T.cxf1_NoNode,T.cxf2_NoNode,T.cxf3_NoNode⟩,T.ck_3_NoNode⟩ (.skip rfl .nil)) h1 h2
noncomputable def tb_4(c:Str):Option Bool:=[(("NoNode" :Str),true)].lookup c
theorem ht_4(T:Wd K mg): ∀r C b,(GT T).cl r=some C->tb_4 r=some b->XCls K C/\W.kitOne K (.ref C) (cvV (.ref T.ka5))=some b:=fun r C b h1 h2=>Al2.at (Φ:=fun C b=>XCls K C/\W.kitOne K (.ref C) (cvV (.ref T.ka5))=some b) (.cons ⟨⟨T.cxob_NoNode,T.cxba_NoNode,T.cxf1_NoNode,T.cxf2_NoNode,T.cxf3_NoNode⟩,T.ck_4_NoNode⟩ (.skip rfl .nil)) h1 h2
end
section
variable{P:Program}{w:World}{K:W.Frag}{mg:Str->Option Value}{base:Heap}
noncomputable def z1V:MS:=(sRet (z3F (mIsi "int" (mVar 0)) (z4Q (mIsi "bool" (mVar 0)))))
noncomputable def z1m:FM:=runF 1 z1V
theorem z4n(T:Wd K mg):FnOk P w K mg base CX0 1 T.kah.f T.kah.d z1S (spM (GT T) 1 z1m):=okM z1V T.kah.F z4l fun cdv A outer s H E F hr=>(ss_one (ss_ret (se_and (se_isi rfl (by decide) rfl T.n_isinstance (sv 0) (z0M (v:= .ty "int") rfl T.n_int PyProof.Rows.Boot.«int» rfl)) (se_one (se_not (se_isi rfl (by decide) rfl T.n_isinstance (sv 0) (z0M (v:= .ty "bool") rfl T.n_bool PyProof.Rows.Boot.«bool» rfl)))))))
noncomputable def z2f:MS:=(sRet (z3F (z0d z1m [(mVar 0)]) (z4s (mVar 1) (mVar 0) (mVar 2) leD leD)))
noncomputable def z1d:FM:=runF 3 z2f
theorem z2T(T:Wd K mg):FnOk P w K mg base CX0 2 T.kal.f T.kal.d z2d (spM (GT T) 3 z1d):=okM z2f T.kal.F z54 fun cdv A outer s H E F hr=>(ss_one (ss_ret (se_and (scl T.kah (z4n T) hr (s1 (sv 0))) (se_one (se_cmp2 zdh zdh (sv 1) (sv 0) (sv 2))))))
noncomputable def z4A(self:FM):MS:=(seqS (sIf (z0P (mIsi "list" (mVar 0))) (sRet (z1i (z0W (mVar 0)) (.nm 0) (rt true) (z0d self [(mVar 0)]) 1 [])) sNx)
 (seqS (sIf (z0P (mIsi "tuple" (mVar 0))) (sRet (mCB [(z1i (z0W (mVar 0)) (.nm 0) (rt true) (z0d self [(mVar 0)]) 1 [])] tupF)) sNx)
 (sRet (mVar 0))))
noncomputable def z0E:Nat->FM
 |0=>fun _ _=> .no
 |k+1=>runF 1 (z4A (z0E k))
theorem z2z(T:Wd K mg): ∀k,FnOk P w K mg base CX0 (1+k) T.kat.f T.kat.d ["thing"] (spM (GT T) 1 (z0E k))
 |0=>z4S
 |k+1=>by
  have ih:=z2z T k
  have h:FnOk P w K mg base CX0 (1+k+1) T.kat.f T.kat.d ["thing"] (spM (GT T) (List.length (["thing"]:List Str)) (runF (List.length (["thing"]:List Str)) (z4A (z0E k)))):=fn_M T.kat.F z64 rfl fun cdv A outer s H E F hr=>(ss_cons (ss_if (sb_truth rfl (se_isi rfl (by decide) rfl T.n_isinstance (sv 0) (z0M (v:= .ty "list") rfl T.n_list PyProof.Rows.Boot.«list» rfl))) (ss_one (ss_ret (se_comp (own:=["part"]) (frees:=[]) (ix:=[]) rfl rfl (z2p.sc (by kernel_rfl)) (si_seq rfl (sv 0)) (fun _ _ _ _ _ _ _=>(sg_name (z1x (i:=0) (show List.Nodup (["part"]:List Str) by decide+kernel) rfl (Or.inl rfl)))) (fun _ _ _ _ _ _ _=>sts_nil) (fun _ _ _ _ _ _ _=>(se_call rfl ih hr rfl T.kat.m T.kat.F.kp T.kat.b z1b (s1 (sv 0)) rfl))))) ss_nil)
  (ss_cons (ss_if (sb_truth rfl (se_isi rfl (by decide) rfl T.n_isinstance (sv 0) (z0M (v:= .ty "tuple") rfl T.n_tuple PyProof.Rows.Boot.«tuple» rfl))) (ss_one (ss_ret (se_ct rfl (z6x rfl) rfl T.n_tuple PyProof.Rows.Boot.«tuple» (s1 (se_comp (own:=["part"]) (frees:=[]) (ix:=[]) rfl rfl (z2p.sc (by kernel_rfl)) (si_seq rfl (sv 0)) (fun _ _ _ _ _ _ _=>(sg_name (z1x (i:=0) (show List.Nodup (["part"]:List Str) by decide+kernel) rfl (Or.inl rfl)))) (fun _ _ _ _ _ _ _=>sts_nil) (fun _ _ _ _ _ _ _=>(se_call rfl ih hr rfl T.kat.m T.kat.F.kp T.kat.b z1b (s1 (sv 0)) rfl))))))) ss_nil)
  (ss_one (ss_ret (sv 0)))))
  exact h
noncomputable def z66:MS:=(seqS (sAsg (.nm 2) (mC (.int 0)))
 (seqS (sIf (mBoo (mBin (mVar 1) (mCB [(mVar 0)] lenD) ltD)) (sAsg (.nm 2) (mCB [(mBin (mVar 0) (mVar 1) ixD)] absD)) sNx)
 (seqS (sAsg (.nm 3) (mBin (mBin (mBin (mBin (mBin (mVar 2) (mC (.int 2147483629)) modD) (mBin (mC (.int 104729)) (mVar 1) mulD) addD) (mC (.int 17)) addD) (mC (.int 5)) powD) (mC (.int 2147483647)) modD))
 (seqS (sFor (z39 [(mCB [(mCB [(mVar 0)] lenD),(mC (.int 60))] minD)]) (.nm 4) (sAsg (.nm 3) (mBin (mBin (mBin (mBin (mVar 3) (mC (.int 48271)) mulD) (mBin (mBin (mBin (mVar 0) (mVar 4) ixD) (mC (.int 2147483587)) modD) (mBin (mVar 4) (mC (.int 3)) addD) mulD) addD) (mVar 4) addD) (mC (.int 2147483629)) modD)))
 (seqS (sIf (mBoo (mBin (mVar 2) (mBin (mC (.int 10)) (mC (.int 18)) powD) ltD)) (sAsg (.nm 2) (mC (.int 0))) sNx)
 (sRet (mCB [(mVar 2),(mVar 3)] lstM)))))))
noncomputable def z2A:FM:=runF 5 z66
theorem z6J(T:Wd K mg):FnOk P w K mg base CX0 1 T.kbe.f T.kbe.d z63 (spM (GT T) 2 z2A):=okM z66 T.kbe.F z1T fun cdv A outer s H E F hr=>(ss_cons (sst 2 z1T.nd (sc0 z01))
 (ss_cons (ss_if (sb_cmp zdg (sv 1) (sln T.n_len (s1 (sv 0))) (z0N _)) (ss_one (sst 2 z1T.nd (se_cb rfl zdj rfl T.n_abs PyProof.Rows.Boot.«abs» (s1 (sxx (sv 0) (sv 1)))))) ss_nil)
 (ss_cons (sst 3 z1T.nd (se_mod rfl (se_pow rfl (se_add rfl (se_add rfl (se_mod rfl (sv 2) (sc0 z01)) (se_mul rfl (sc0 z01) (sv 1))) (sc0 z01)) (sc0 z01)) (sc0 z01)))
 (ss_cons (ss_for PassesOwn.never rfl (si_rng1 rfl T.n_range (s1 (se_cb rfl (zac rfl) rfl T.n_min PyProof.Rows.Boot.«min» (s2 (sln T.n_len (s1 (sv 0))) (sc0 z01))))) (sgn 4 z1T.nd) (ss_one (sst 3 z1T.nd (se_mod rfl (se_add rfl (se_add rfl (se_mul rfl (sv 3) (sc0 z01)) (se_mul rfl (se_mod rfl (sxx (sv 0) (sv 4)) (sc0 z01)) (se_add rfl (sv 4) (sc0 z01)))) (sv 4)) (sc0 z01)))))
 (ss_cons (ss_if (sb_cmp zdg (sv 2) (se_pow rfl (sc0 z01) (sc0 z01)) (z0N _)) (ss_one (sst 2 z1T.nd (sc0 z01))) ss_nil)
 (ss_one (ss_ret (se_lst rfl (s2 (sv 2) (sv 3))))))))))
noncomputable def z57:MS:=(seqS (sIf (mBoo (mBin (mBin (mVar 0) (mC (.int 0)) ixD) (mC (.int 0)) gtD)) (seqS (sAsg (.nm 2) (mBin (mBin (mVar 0) (mC (.int 0)) ixD) (mVar 1) modD))
 (seqS (mTri (mBin (mBin (mVar 0) (mC (.int 0)) ixD) (mVar 1) z5x) (mVar 0) (mC (.int 0)) setD)
 (sRet (mVar 2)))) sNx)
 (seqS (mTri (mBin (mBin (mBin (mBin (mVar 0) (mC (.int 1)) ixD) (mC (.int 48271)) mulD) (mC (.int 7919)) addD) (mC (.int 2147483647)) modD) (mVar 0) (mC (.int 1)) setD)
 (sRet (mBin (mBin (mBin (mBin (mBin (mBin (mBin (mVar 0) (mC (.int 1)) ixD) (mC (.int 3)) powD) (mC (.int 2147483587)) modD) (mC (.int 7)) z5x) (mC (.int 69621)) mulD) (mC (.int 1073741789)) modD) (mVar 1) modD))))
noncomputable def z0A:FM:=runF 3 z57
theorem z1J(T:Wd K mg):FnOk P w K mg base CX0 1 T.ka8.f T.ka8.d z50 (spM (GT T) 2 z0A):=okM z57 T.ka8.F z5H fun cdv A outer s H E F hr=>(ss_cons (ss_if (sb_cmp z8e (sxc (sv 0) z01) (sc0 z01) (z0N _)) (ss_cons (sst 2 z5H.nd (se_mod rfl (sxc (sv 0) z01) (sv 1)))
 (ss_cons (ss_setI (se_fdiv rfl (sxc (sv 0) z01) (sv 1)) (sv 0) (sc0 z01) (fun{to ti} h1 h2=>z7F h1 h2 z4K))
 (ss_one (ss_ret (sv 2))))) ss_nil)
 (ss_cons (ss_setI (se_mod rfl (se_add rfl (se_mul rfl (sxc (sv 0) z01) (sc0 z01)) (sc0 z01)) (sc0 z01)) (sv 0) (sc0 z01) (fun{to ti} h1 h2=>z7F h1 h2 z4K))
 (ss_one (ss_ret (se_mod rfl (se_mod rfl (se_mul rfl (se_fdiv rfl (se_mod rfl (se_pow rfl (sxc (sv 0) z01) (sc0 z01)) (sc0 z01)) (sc0 z01)) (sc0 z01)) (sc0 z01)) (sv 1))))))
noncomputable def z6K(self:FM):MS:=(seqS (sIf (z0P (mIsi "list" (mVar 0))) (sRet (z1i (z0W (mVar 0)) (.nm 0) (rt true) (z0d self [(mVar 0)]) 1 [])) sNx)
 (seqS (sIf (z0P (mIsi "tuple" (mVar 0))) (sRet (mCB [(z1i (z0W (mVar 0)) (.nm 0) (rt true) (z0d self [(mVar 0)]) 1 [])] tupF)) sNx)
 (sRet (mVar 0))))
noncomputable def z1W:Nat->FM
 |0=>fun _ _=> .no
 |k+1=>runF 1 (z6K (z1W k))
theorem z5K(T:Wd K mg): ∀k,FnOk P w K mg base CX0 (1+k) T.kba.f T.kba.d ["_law_thing"] (spM (GT T) 1 (z1W k))
 |0=>z4S
 |k+1=>by
  have ih:=z5K T k
  have h:FnOk P w K mg base CX0 (1+k+1) T.kba.f T.kba.d ["_law_thing"] (spM (GT T) (List.length (["_law_thing"]:List Str)) (runF (List.length (["_law_thing"]:List Str)) (z6K (z1W k)))):=fn_M T.kba.F z8w rfl fun cdv A outer s H E F hr=>(ss_cons (ss_if (sb_truth rfl (se_isi rfl (by decide) rfl T.n_isinstance (sv 0) (z0M (v:= .ty "list") rfl T.n_list PyProof.Rows.Boot.«list» rfl))) (ss_one (ss_ret (se_comp (own:=["_law_one"]) (frees:=[]) (ix:=[]) rfl rfl (z2p.sc (by kernel_rfl)) (si_seq rfl (sv 0)) (fun _ _ _ _ _ _ _=>(sg_name (z1x (i:=0) (show List.Nodup (["_law_one"]:List Str) by decide+kernel) rfl (Or.inl rfl)))) (fun _ _ _ _ _ _ _=>sts_nil) (fun _ _ _ _ _ _ _=>(se_call rfl ih hr rfl T.kba.m T.kba.F.kp T.kba.b z1b (s1 (sv 0)) rfl))))) ss_nil)
  (ss_cons (ss_if (sb_truth rfl (se_isi rfl (by decide) rfl T.n_isinstance (sv 0) (z0M (v:= .ty "tuple") rfl T.n_tuple PyProof.Rows.Boot.«tuple» rfl))) (ss_one (ss_ret (se_ct rfl (z6x rfl) rfl T.n_tuple PyProof.Rows.Boot.«tuple» (s1 (se_comp (own:=["_law_one"]) (frees:=[]) (ix:=[]) rfl rfl (z2p.sc (by kernel_rfl)) (si_seq rfl (sv 0)) (fun _ _ _ _ _ _ _=>(sg_name (z1x (i:=0) (show List.Nodup (["_law_one"]:List Str) by decide+kernel) rfl (Or.inl rfl)))) (fun _ _ _ _ _ _ _=>sts_nil) (fun _ _ _ _ _ _ _=>(se_call rfl ih hr rfl T.kba.m T.kba.F.kp T.kba.b z1b (s1 (sv 0)) rfl))))))) ss_nil)
  (ss_one (ss_ret (sv 0)))))
  exact h
noncomputable def z1o(self:FM):MS:=(seqS (sIf (z0P (z5X ["list", "tuple"] (mVar 0))) (sFor (z0W (mVar 0)) (.nm 1) (z0V (z0d self [(mVar 1)]))) sNx)
 (sIf (z0P (mIsi "list" (mVar 0))) (z0V (z0X (mVar 0) [(mC (.int 7))] appD)) sNx))
noncomputable def f_l_change:Nat->FM
 |0=>fun _ _=> .no
 |k+1=>runF 2 (z1o (f_l_change k))
theorem z43(T:Wd K mg): ∀k,FnOk P w K mg base CX0 (1+k) T.kaA.f T.kaA.d ["_law_thing"] (spM (GT T) 1 (f_l_change k))
 |0=>z4S
 |k+1=>by
  have ih:=z43 T k
  have h:FnOk P w K mg base CX0 (1+k+1) T.kaA.f T.kaA.d ["_law_thing"] (spM (GT T) (List.length (["_law_thing"]:List Str)) (runF (List.length (["_law_thing", "_law_one"]:List Str)) (z1o (f_l_change k)))):=fn_M T.kaA.F z40 rfl fun cdv A outer s H E F hr=>(ss_cons (ss_if (sb_truth rfl (se_isiT rfl (by decide) (by decide) rfl T.n_isinstance (sv 0) (z6y (z08 (z0M (v:= .ty "list") rfl T.n_list PyProof.Rows.Boot.«list» rfl) (z08 (z0M (v:= .ty "tuple") rfl T.n_tuple PyProof.Rows.Boot.«tuple» rfl) z27)) (fun _ _ _ q=>q) (by decide)))) (ss_one (ss_for PassesOwn.never rfl (si_seq rfl (sv 0)) (sgn 1 z40.nd) (ss_one (ss_expr (se_call rfl ih hr rfl T.kaA.m T.kaA.F.kp T.kaA.b z1b (s1 (sv 1)) rfl))))) ss_nil)
  (ss_one (ss_if (sb_truth rfl (se_isi rfl (by decide) rfl T.n_isinstance (sv 0) (z0M (v:= .ty "list") rfl T.n_list PyProof.Rows.Boot.«list» rfl))) (ss_one (ss_expr (se_cl rfl PySem.F.slot_list_append PySem.F.type_list_append z0Q (sv 0) (s1 (sc0 z01))))) ss_nil)))
  exact h
noncomputable def z44:MS:=(seqS (sAsg (.nm 1) (mIsX tb_0 (mVar 0)))
 (seqS (sAsg (.nm 2) (mIsX tb_1 (mVar 0)))
 (seqS (sAsg (.nm 3) (mOrV (mIsX tb_2 (mVar 0)) (z4Q (mIsX tb_3 (mVar 0)))))
 (sRet (z3F (mIsX tb_4 (mVar 0)) (z3F (z4Q (mVar 1)) (z3F (z4Q (mVar 2)) (z4Q (mVar 3)))))))))
noncomputable def z2U:FM:=runF 4 z44
theorem z7u(T:Wd K mg):z3a P w K mg base CX0 1 T.kaS.f T.kaS.d z3U (spM (GT T) 1 z2U):=okH z44 T.kaS.F z2i fun cdv A outer s H E F hr=>(ss_cons (sst 1 z2i.nd (se_isXT rfl (ht_0 T) rfl T.n_isinstance (sv 0) (z4U (cs:=[.ref T.kaX, .ref T.kaZ, .ref T.ka9, .ref T.ka6, .ref T.kaN, .ref T.kak, .ref T.kaV, .ref T.kaY, .ref T.kbh, .ref T.kaL, .ref T.kbi]) (z08 (z0n (v:= .ref T.kaX) rfl T.kaQ rfl) (z08 (z0n (v:= .ref T.kaZ) rfl T.kaM rfl) (z08 (z0n (v:= .ref T.ka9) rfl T.kaI rfl) (z08 (z0n (v:= .ref T.ka6) rfl T.kaK rfl) (z08 (z0n (v:= .ref T.kaN) rfl T.kay rfl) (z08 (z0n (v:= .ref T.kak) rfl T.kaf rfl) (z08 (z0n (v:= .ref T.kaV) rfl T.kaw rfl) (z08 (z0n (v:= .ref T.kaY) rfl T.kaH rfl) (z08 (z0n (v:= .ref T.kbh) rfl T.ka4 rfl) (z08 (z0n (v:= .ref T.kaL) rfl T.kax rfl) (z08 (z0n (v:= .ref T.kbi) rfl T.kbc rfl) z27))))))))))) (fun _ _ _ q=>q) rfl rfl)))
 (ss_cons (sst 2 z2i.nd (se_isXT rfl (ht_1 T) rfl T.n_isinstance (sv 0) (z4U (cs:=[.ref T.kaT, .ref T.kaz, .ref T.kaW, .ref T.kaU, .ref T.ka3, .ref T.kbg, .ref T.kap, .ref T.kbf, .ref T.ka2]) (z08 (z0n (v:= .ref T.kaT) rfl T.kar rfl) (z08 (z0n (v:= .ref T.kaz) rfl T.kam rfl) (z08 (z0n (v:= .ref T.kaW) rfl T.kaC rfl) (z08 (z0n (v:= .ref T.kaU) rfl T.kav rfl) (z08 (z0n (v:= .ref T.ka3) rfl T.kaO rfl) (z08 (z0n (v:= .ref T.kbg) rfl T.kbb rfl) (z08 (z0n (v:= .ref T.kap) rfl T.kaj rfl) (z08 (z0n (v:= .ref T.kbf) rfl T.ka0 rfl) (z08 (z0n (v:= .ref T.ka2) rfl T.kaG rfl) z27))))))))) (fun _ _ _ q=>q) rfl rfl)))
 (ss_cons (sst 3 z2i.nd (se_or (se_isXT rfl (ht_2 T) rfl T.n_isinstance (sv 0) (z4U (cs:=[.ref T.kaR, .ref T.kau]) (z08 (z0n (v:= .ref T.kaR) rfl T.kas rfl) (z08 (z0n (v:= .ref T.kau) rfl T.kan rfl) z27)) (fun _ _ _ q=>q) rfl rfl)) (se_one (se_not (se_isX1 (c:= .ty "ValueError") rfl rfl (ht_3 T) rfl T.n_isinstance (sv 0) (z0M (v:= .ty "ValueError") rfl T.n_ValueError PyProof.Rows.Boot.«ValueError» rfl))))))
 (ss_one (ss_ret (se_and (se_isX1 (c:= .ref T.ka5) rfl rfl (ht_4 T) rfl T.n_isinstance (sv 0) (z0n (v:= .ref T.ka5) rfl T.kaD rfl)) (se_and (se_not (sv 1)) (se_and (se_not (sv 2)) (se_one (se_not (sv 3)))))))))))
noncomputable def z45:MS:=(seqS (sAsg (.nm 2) (mCB [(mVar 1)] z7i))
 (seqS (sAsg (.nm 3) (mCB [] lstM))
 (seqS (sFor (z39 [(mCB [(mVar 1)] lenD)]) (.nm 4) (z0V (z0X (mVar 3) [(z0X (mVar 2) [(z0d z0A [(mVar 0),(mCB [(mVar 2)] lenD)])] popD)] appD)))
 (sRet (mVar 3)))))
noncomputable def z1s:FM:=runF 5 z45
theorem z7v(T:Wd K mg):FnOk P w K mg base CX0 2 T.kaB.f T.kaB.d z3V (spM (GT T) 2 z1s):=okM z45 T.kaB.F z2j fun cdv A outer s H E F hr=>(ss_cons (sst 2 z2j.nd (se_ct rfl (zbh rfl) rfl T.n_list PyProof.Rows.Boot.«list» (s1 (sv 1))))
 (ss_cons (sst 3 z2j.nd (se_lst rfl (sa_of rfl .nil)))
 (ss_cons (ss_for PassesOwn.never rfl (si_rng1 rfl T.n_range (s1 (sln T.n_len (s1 (sv 1))))) (sgn 4 z2j.nd) (ss_one (ss_expr (se_cl rfl PySem.F.slot_list_append PySem.F.type_list_append z0Q (sv 3) (s1 (se_cl rfl PySem.F.slot_list_pop PySem.F.type_list_pop zdy (sv 2) (s1 (scl T.ka8 (z1J T) hr (s2 (sv 0) (sln T.n_len (s1 (sv 2))))))))))))
 (ss_one (ss_ret (sv 3))))))
noncomputable def z58:MS:=(seqS (sAsg (.nm 2) (mCB [(mVar 1)] lstM))
 (seqS (sAsg (.nm 3) (z0d z0A [(mVar 0),(mC (.int 5))]))
 (sRet (mBin (mCB [(mCB [(mC (.str ("mark" :Str))),(mCB [(mVar 1)] tupD)] tupD),(mCB [] tupD),(mCB [(mVar 2),(mCB [(mVar 1)] lstM),(mCB [] tupD)] tupD),(mCB [(mC (.str ("key" :Str))),(mVar 1)] tupD),(mCB [(mC .non),(mCB [(mCB [] lstM),(mCB [(mVar 1)] lstM)] tupD)] tupD)] lstM) (mVar 3) ixD))))
noncomputable def z2V:FM:=runF 4 z58
theorem z8y(T:Wd K mg):FnOk P w K mg base CX0 2 T.ka1.f T.ka1.d z51 (spM (GT T) 2 z2V):=okM z58 T.ka1.F z41 fun cdv A outer s H E F hr=>(ss_cons (sst 2 z41.nd (se_lst rfl (s1 (sv 1))))
 (ss_cons (sst 3 z41.nd (scl T.ka8 (z1J T) hr (s2 (sv 0) (sc0 z01))))
 (ss_one (ss_ret (sxx (se_lst rfl (sa_of rfl (.cons (se_tup rfl (s2 (sc0 z7E) (se_tup rfl (s1 (sv 1))))) rfl (.cons (se_tup rfl (sa_of rfl .nil)) rfl (.cons (se_tup rfl (s3 (sv 2) (se_lst rfl (s1 (sv 1))) (se_tup rfl (sa_of rfl .nil)))) rfl (.cons (se_tup rfl (s2 (sc0 z7E) (sv 1))) rfl (.cons (se_tup rfl (s2 (sc0 z5i) (se_tup rfl (s2 (se_lst rfl (sa_of rfl .nil)) (se_lst rfl (s1 (sv 1))))))) rfl .nil))))))) (sv 3))))))
noncomputable def z1K(self:FM):MS:=(seqS (sIf (mNot (z0P (z5X ["list", "tuple"] (mVar 0)))) (sRet (mC (.bool true))) sNx)
 (seqS (sFor (z39 [(mCB [(mVar 1)] lenD)]) (.nm 2) (sIf (mOr (mNot (z0P (z0d self [(mBin (mVar 0) (mVar 2) ixD),(mBin (mVar 1) (mVar 2) ixD)]))) (mBoo (mBin (mSl (mVar 0) (some (mBin (mVar 2) (mC (.int 1)) addD)) none) (mSl (mVar 1) (some (mBin (mVar 2) (mC (.int 1)) addD)) none) neD))) (sRet (mC (.bool false))) sNx))
 (seqS (sIf (z0P (mIsi "list" (mVar 0))) (z0V (z0X (mVar 0) [(mC (.int 7))] appD)) sNx)
 (sRet (mC (.bool true))))))
noncomputable def z0y:Nat->FM
 |0=>fun _ _=> .no
 |k+1=>runF 3 (z1K (z0y k))
theorem z4B(T:Wd K mg): ∀k,FnOk P w K mg base CX0 (1+k) T.kaE.f T.kaE.d ["_law_found", "_law_kept"] (spM (GT T) 2 (z0y k))
 |0=>z4S
 |k+1=>by
  have ih:=z4B T k
  have h:FnOk P w K mg base CX0 (1+k+1) T.kaE.f T.kaE.d ["_law_found", "_law_kept"] (spM (GT T) (List.length (["_law_found", "_law_kept"]:List Str)) (runF (List.length (["_law_found", "_law_kept", "_law_k"]:List Str)) (z1K (z0y k)))):=fn_M T.kaE.F z4z rfl fun cdv A outer s H E F hr=>by
   have h64:=hr.units
   exact(ss_cons (ss_if (sb_not (sb_truth rfl (se_isiT rfl (by decide) (by decide) rfl T.n_isinstance (sv 0) (z6y (z08 (z0M (v:= .ty "list") rfl T.n_list PyProof.Rows.Boot.«list» rfl) (z08 (z0M (v:= .ty "tuple") rfl T.n_tuple PyProof.Rows.Boot.«tuple» rfl) z27)) (fun _ _ _ q=>q) (by decide))))) (ss_one (ss_ret (sc0 z4g))) ss_nil)
 (ss_cons (ss_for PassesOwn.never rfl (si_rng1 rfl T.n_range (s1 (sln T.n_len (s1 (sv 1))))) (sgn 2 z4z.nd) (ss_one (ss_if (SW.sb (sw_or (sb_not (sb_truth rfl (se_call rfl ih hr rfl T.kaE.m T.kaE.F.kp T.kaE.b z1b (s2 (sxx (sv 0) (sv 2)) (sxx (sv 1) (sv 2))) rfl))) (sw_or1 (sb_cmp (z7o rfl h64) (se_slice rfl (sv 0) (so_some (se_add rfl (sv 2) (sc0 z01))) so_none) (se_slice rfl (sv 1) (so_some (se_add rfl (sv 2) (sc0 z01))) so_none) (z0N _))))) (ss_one (ss_ret (sc0 z4g))) ss_nil)))
 (ss_cons (ss_if (sb_truth rfl (se_isi rfl (by decide) rfl T.n_isinstance (sv 0) (z0M (v:= .ty "list") rfl T.n_list PyProof.Rows.Boot.«list» rfl))) (ss_one (ss_expr (se_cl rfl PySem.F.slot_list_append PySem.F.type_list_append z0Q (sv 0) (s1 (sc0 z01))))) ss_nil)
 (ss_one (ss_ret (sc0 z4g))))))
  exact h
noncomputable def z1X:MS:=(sRet (mFld (mVar 0) "at" z3e))
noncomputable def z0e:FM:=runF 1 z1X
theorem z1a(T:Wd K mg):FnOk P w K mg base CX0 1 T.kae.f T.kae.d z2Q (spM (GT T) 1 z0e):=okM z1X T.kae.F z4m fun cdv A outer s H E F hr=>(ss_one (ss_ret (se_fld (sv 0) (z65 T))))
noncomputable def z1Y:MS:=(seqS (sAsg (.nm 1) (mCB [] lstM))
 (seqS (sAsg (.nm 2) (mFld (mVar 0) "at" z3e))
 (seqS (z2L (fun _=>1000) (mBoo (mBin (mVar 2) (mC (.int 0)) gtD)) (seqS (z0V (z0X (mVar 1) [(z0d (z0E 12) [(mBin (mFld (mVar 0) "deeds" z1k) (mVar 2) ixD)])] appD))
 (sAsg (.nm 2) (mBin (mFld (mVar 0) "above" z0j) (mVar 2) ixD))))
 (seqS (z0V (z0X (mVar 1) [] revD))
 (sRet (mVar 1))))))
noncomputable def z0S:FM:=runF 3 z1Y
theorem z4o(T:Wd K mg):FnOk P w K mg base CX0 14 T.kag.f T.kag.d z2R (spM (GT T) 1 z0S):=okM z1Y T.kag.F z19 fun cdv A outer s H E F hr=>(ss_cons (sst 1 z19.nd (se_lst rfl (sa_of rfl .nil)))
 (ss_cons (sst 2 z19.nd (se_fld (sv 0) (z65 T)))
 (ss_cons (ss_while PassesOwn.never (sb_cmp z8e (sv 2) (sc0 z01) (z0N _)) (ss_cons (ss_expr (se_cl rfl PySem.F.slot_list_append PySem.F.type_list_append z0Q (sv 1) (s1 (se_call rfl ((z2z T 12).mono (by lia)) hr rfl T.kat.m T.kat.F.kp T.kat.b z1b (s1 (sxx (se_fld (sv 0) (z55 T)) (sv 2))) rfl))))
 (ss_one (sst 2 z19.nd (sxx (se_fld (sv 0) (z1j T)) (sv 2))))))
 (ss_cons (ss_expr (se_cl0 rfl PySem.F.slot_list_reverse PySem.F.type_list_reverse z7p (sv 1)))
 (ss_one (ss_ret (sv 1)))))))
noncomputable def z1A:MS:=(sRet (z1i (mEnm [(mFld (mVar 0) "above" z0j)]) (.tp [(.nm 0),(.nm 1)]) (mBoo (mBin (mVar 1) (mFld (mVar 2) "at" z3e) eqD)) (mVar 0) 2 [0]))
noncomputable def z0I:FM:=runF 1 z1A
theorem z46(T:Wd K mg):FnOk P w K mg base CX0 1 T.kac.f T.kac.d z2r (spM (GT T) 1 z0I):=okM z1A T.kac.F z42 fun cdv A outer s H E F hr=>by
 have h64:=hr.units
 exact(ss_one (ss_ret (se_comp (own:=["number", "above"]) (frees:=["self"]) (ix:=[0]) rfl rfl (z2p.sc (by kernel_rfl)) (si_enm rfl rfl T.n_enumerate (s1 (se_fld (sv 0) (z1j T)))) (fun _ _ _ _ _ _ _=>(sg_tup rfl rfl (sgs_cons (sg_name (z1x (i:=0) (show List.Nodup (["number", "above", "self"]:List Str) by decide+kernel) rfl (Or.inl rfl))) (sgs_cons (sg_name (z1x (i:=1) (show List.Nodup (["number", "above", "self"]:List Str) by decide+kernel) rfl (Or.inl rfl))) sgs_nil)))) (fun _ _ _ _ _ _ _=>(sts_one (sb_cmp (z9x rfl h64) (sv 1) (se_fld (sv 2) (z65 T)) (z0N _)))) (fun _ _ _ _ _ _ _=>(sv 0)))))
noncomputable def z47:MS:=(seqS (sAsg (.nm 4) (mCB [] lstM))
 (seqS (sAsg (.nm 5) (mVar 1))
 (seqS (z2L (fun _=>1000) (mBoo (mBin (mVar 5) (mC (.int 0)) gtD)) (seqS (sAsg (.nm 4) (mBin (mCB [(mBin (mBin (mVar 2) (mVar 5) ixD) (mC (.int 1)) ixD)] lstM) (mVar 4) addD))
 (sAsg (.nm 5) (mBin (mBin (mVar 2) (mVar 5) ixD) (mC (.int 0)) ixD))))
 (seqS (sFor (z39 [(mC (.int 2))]) (.nm 6) (seqS (sAsg (.tp [.nm 7, .nm 8]) (mCB [(mMth "Tree" "path" z0S (mVar 0) []),(mMth "Tree" "under" z0I (mVar 0) [])] tupD))
 (seqS (sIf (mOr (mBoo (mBin (mVar 7) (mVar 4) neD)) (mOr (mNot (z0P (mIsi "list" (mVar 7)))) (mNot (z0P (z0d (z0y 12) [(mVar 7),(mVar 4)]))))) (sRet (mC (.bool false))) sNx)
 (seqS (sIf (mBoo (mBin (mVar 8) (z1i (z5z [(mC (.int 1)),(mCB [(mVar 2)] lenD)]) (.nm 0) (mBoo (mBin (mBin (mBin (mVar 2) (mVar 0) ixD) (mC (.int 0)) ixD) (mVar 1) eqD)) (mVar 0) 1 [1,2]) neD)) (sRet (mC (.bool false))) sNx)
 (seqS (z0V (z0X (mVar 8) [(mC (.int 7))] appD))
 (z0V (z0X (mVar 3) [(mCB [(mCB [(mVar 7),(mCB [(mVar 7)] repD)] tupD),(mCB [(mVar 8),(mCB [(mVar 8)] repD)] tupD)] lstM)] extD)))))))
 (sRet (mBin (mMth "Tree" "here" z0e (mVar 0) []) (mVar 1) eqD))))))
noncomputable def z1e:FM:=runF 9 z47
theorem z4C(T:Wd K mg):FnOk P w K mg base CX0 15 T.kaJ.f T.kaJ.d z3W (spM (GT T) 4 z1e):=okM z47 T.kaJ.F z16 fun cdv A outer s H E F hr=>by
 have h64:=hr.units
 exact(ss_cons (sst 4 z16.nd (se_lst rfl (sa_of rfl .nil)))
 (ss_cons (sst 5 z16.nd (sv 1))
 (ss_cons (ss_while PassesOwn.never (sb_cmp z8e (sv 5) (sc0 z01) (z0N _)) (ss_cons (sst 4 z16.nd (se_add rfl (se_lst rfl (s1 (sxc (sxx (sv 2) (sv 5)) z01))) (sv 4)))
 (ss_one (sst 5 z16.nd (sxc (sxx (sv 2) (sv 5)) z01)))))
 (ss_cons (ss_for PassesOwn.never rfl (si_rng1 rfl T.n_range (s1 (sc0 z01))) (sgn 6 z16.nd) (ss_cons (ss_par (i:=7) (j:=8) rfl z16.nd rfl rfl (by decide) rfl rfl (s2 (se_mth0 (z0R T) T.cc_Tree T.kag.h ((z4o T).mono (by lia)) hr T.kag.b z1b (sv 0) rfl) (se_mth0 (z0R T) T.cc_Tree T.kac.h ((z46 T).mono (by lia)) hr T.kac.b z1b (sv 0) rfl)))
 (ss_cons (ss_if (SW.sb (sw_or (sb_cmp (z7o rfl h64) (sv 7) (sv 4) (z0N _)) (sw_or (sb_not (sb_truth rfl (se_isi rfl (by decide) rfl T.n_isinstance (sv 7) (z0M (v:= .ty "list") rfl T.n_list PyProof.Rows.Boot.«list» rfl)))) (sw_or1 (sb_not (sb_truth rfl (se_call rfl ((z4B T 12).mono (by lia)) hr rfl T.kaE.m T.kaE.F.kp T.kaE.b z1b (s2 (sv 7) (sv 4)) rfl))))))) (ss_one (ss_ret (sc0 z4g))) ss_nil)
 (ss_cons (ss_if (sb_cmp (z7o rfl h64) (sv 8) (se_comp (own:=["_law_k"]) (frees:=["_law_number", "_law_nodes"]) (ix:=[1,2]) rfl rfl (z2p.sc (by kernel_rfl)) (si_rng2 rfl T.n_range (s2 (sc0 z01) (sln T.n_len (s1 (sv 2))))) (fun _ _ _ _ _ _ _=>(sg_name (z1x (i:=0) (show List.Nodup (["_law_k", "_law_number", "_law_nodes"]:List Str) by decide+kernel) rfl (Or.inl rfl)))) (fun _ _ _ _ _ _ _=>(sts_one (sb_cmp (z9x rfl h64) (sxc (sxx (sv 2) (sv 0)) z01) (sv 1) (z0N _)))) (fun _ _ _ _ _ _ _=>(sv 0))) (z0N _)) (ss_one (ss_ret (sc0 z4g))) ss_nil)
 (ss_cons (ss_expr (se_cl rfl PySem.F.slot_list_append PySem.F.type_list_append z0Q (sv 8) (s1 (sc0 z01))))
 (ss_one (ss_expr (se_cl rfl PySem.F.slot_list_extend PySem.F.type_list_extend (z8f rfl) (sv 3) (s1 (se_lst rfl (s2 (se_tup rfl (s2 (sv 7) (se_cb rfl (z8r rfl hr.gd h64) rfl T.n_repr PyProof.Rows.Boot.«repr» (s1 (sv 7))))) (se_tup rfl (s2 (sv 8) (se_cb rfl (z8r rfl hr.gd h64) rfl T.n_repr PyProof.Rows.Boot.«repr» (s1 (sv 8))))))))))))))))
 (ss_one (ss_ret (se_cmp (z9x rfl h64) (se_mth0 (z0R T) T.cc_Tree T.kae.h ((z1a T).mono (by lia)) hr T.kae.b z1b (sv 0) rfl) (sv 1) (z0N _))))))))
noncomputable def z17:MS:=(seqS (z5D (mVar 1) (mVar 0) "at" z3e)
 (seqS (z2L (fun _=>1000) (mBoo (mBin (mVar 1) (mC (.int 0)) gtD)) (seqS (mTri (mVar 1) (mFld (mVar 0) "last_under" z0l) (mBin (mFld (mVar 0) "above" z0j) (mVar 1) ixD) setD)
 (sAsg (.nm 1) (mBin (mFld (mVar 0) "above" z0j) (mVar 1) ixD))))
 (sRet (mFld (mVar 0) "at" z3e))))
noncomputable def z0m:FM:=runF 2 z17
theorem z0T(T:Wd K mg):FnOk P w K mg base CX0 1 T.kab.f T.kab.d z1I (spM (GT T) 2 z0m):=okM z17 T.kab.F z1w fun cdv A outer s H E F hr=>(ss_cons (ss_fld (sv 0) (sv 1) (z65 T))
 (ss_cons (ss_while PassesOwn.never (sb_cmp z8e (sv 1) (sc0 z01) (z0N _)) (ss_cons (ss_setI (sv 1) (se_fld (sv 0) (z1U T)) (sxx (se_fld (sv 0) (z1j T)) (sv 1)) (fun{to ti} h1 h2=>z7F h1 h2 z4K))
 (ss_one (sst 1 z1w.nd (sxx (se_fld (sv 0) (z1j T)) (sv 1))))))
 (ss_one (ss_ret (se_fld (sv 0) (z65 T))))))
noncomputable def z2B:MS:=(seqS (sIf (mNot (z0P (z0d z1d [(mVar 1),(mC (.int 0)),(mBin (mCB [(mFld (mVar 0) "above" z0j)] lenD) (mC (.int 1)) subD)]))) (z6E "NoNode") sNx)
 (sRet (mMth "Tree" "stand_at" z0m (mVar 0) [(mVar 1)])))
noncomputable def z1Z:FM:=runX 2 z2B
theorem z5L(T:Wd K mg):FnOk P w K mg base (CX1 P w) 3 T.kaq.f T.kaq.d z2y (spX (GT T) 2 z1Z):=okX z2B T.kaq.F z3l fun cdv A outer s H E F hr hx hrx=>(ss_cons (ss_if (sb_not (sb_truth rfl (scl T.kal (z2T T) hr (s3 (sv 1) (sc0 z01) (se_sub rfl (sln T.n_len (s1 (se_fld (sv 0) (z1j T)))) (sc0 z01)))))) (ss_one (ss_raise hr.hd hx hrx (z8x T) rfl T.kaD T.kaP)) ss_nil)
 (ss_one (ss_ret (se_mth (z0R T) T.cc_Tree T.kab.h ((z0T T).mono (by lia)) hr T.kab.b z1b (sv 0) (s1 (sv 1)) rfl))))
noncomputable def z20:MS:=(seqS (sIf (mNot (z0P (z0d z1d [(mVar 1),(mC (.int 0)),(mBin (mCB [(mFld (mVar 0) "above" z0j)] lenD) (mC (.int 1)) subD)]))) sNo sNx)
 (sRet (mMth "Tree" "stand_at" z0m (mVar 0) [(mVar 1)])))
noncomputable def z0w:FM:=runF 2 z20
theorem z2s(T:Wd K mg):FnOk P w K mg base CX0 3 T.kaq.f T.kaq.d z2y (spM (GT T) 2 z0w):=okM z20 T.kaq.F z3l fun cdv A outer s H E F hr=>(ss_cons (ss_if (sb_not (sb_truth rfl (scl T.kal (z2T T) hr (s3 (sv 1) (sc0 z01) (se_sub rfl (sln T.n_len (s1 (se_fld (sv 0) (z1j T)))) (sc0 z01)))))) (ss_one ss_no) ss_nil)
 (ss_one (ss_ret (se_mth (z0R T) T.cc_Tree T.kab.h ((z0T T).mono (by lia)) hr T.kab.b z1b (sv 0) (s1 (sv 1)) rfl))))
noncomputable def z59:MS:=(seqS (sTry z1l 2 (z0V (z7s "Tree" "go" z1Z (mVar 0) [(mVar 1)])) (sRet (z0d z2U [(mVar 2)])))
 (sRet (mC (.bool false))))
noncomputable def z2W:FM:=runF 3 z59
theorem z8z(T:Wd K mg):FnOk P w K mg base CX0 4 T.ka7.f T.ka7.d z52 (spM (GT T) 2 z2W):=okM z59 T.ka7.F z5I fun cdv A outer s H E F hr=>(ss_cons (ss_try rfl rfl rfl rfl rfl T.kad z5I.nd rfl rfl (z56 T) (fun pl E1 F1 E2 hx=>(ss_one (ss_expr (se_mthX hx (z0R T) T.cc_Tree T.kaq.h ((z5L T).mono (by lia)) hr T.kaq.b (sv 0) (s1 (sv 1)) rfl)))) (fun ax=>(ss_one (ss_ret (se_callH rfl ((z7u T).mono (by lia)) (hr.h _) rfl T.kaS.m T.kaS.F.kp T.kaS.b z1b (s1 (sv 2)) rfl)))))
 (ss_one (ss_ret (sc0 z4g))))
noncomputable def z18:MS:=(seqS (z5D (mC (.int 0)) (mVar 0) "at" z3e)
 (seqS (z5D (mCB [(mC .non)] lstM) (mVar 0) "above" z0j)
 (seqS (z5D (mCB [(mC .non)] lstM) (mVar 0) "deeds" z1k)
 (z5D (mCB [(mC .non)] lstM) (mVar 0) "last_under" z0l))))
noncomputable def z0i:FM:=runF 1 z18
theorem z2X(T:Wd K mg):FnOk P w K mg base CX0 1 T.kaa.f T.kaa.d z1G (spM (GT T) 1 z0i):=okM z18 T.kaa.F z2S fun cdv A outer s H E F hr=>(ss_cons (ss_fld (sv 0) (sc0 z01) (z65 T))
 (ss_cons (ss_fld (sv 0) (se_lst rfl (s1 (sc0 z5i))) (z1j T))
 (ss_cons (ss_fld (sv 0) (se_lst rfl (s1 (sc0 z5i))) (z55 T))
 (ss_one (ss_fld (sv 0) (se_lst rfl (s1 (sc0 z5i))) (z1U T))))))
noncomputable def z2C:MS:=(seqS (z0V (z0X (mFld (mVar 0) "above" z0j) [(mFld (mVar 0) "at" z3e)] appD))
 (seqS (z0V (z0X (mFld (mVar 0) "deeds" z1k) [(z0d (z0E 12) [(mVar 1)])] appD))
 (seqS (z0V (z0X (mFld (mVar 0) "last_under" z0l) [(mC .non)] appD))
 (sRet (mMth "Tree" "stand_at" z0m (mVar 0) [(mBin (mCB [(mFld (mVar 0) "above" z0j)] lenD) (mC (.int 1)) subD)])))))
noncomputable def z1t:FM:=runF 2 z2C
theorem z5M(T:Wd K mg):FnOk P w K mg base CX0 14 T.kao.f T.kao.d z3Y (spM (GT T) 2 z1t):=okM z2C T.kao.F z5J fun cdv A outer s H E F hr=>(ss_cons (ss_expr (se_cl rfl PySem.F.slot_list_append PySem.F.type_list_append z0Q (se_fld (sv 0) (z1j T)) (s1 (se_fld (sv 0) (z65 T)))))
 (ss_cons (ss_expr (se_cl rfl PySem.F.slot_list_append PySem.F.type_list_append z0Q (se_fld (sv 0) (z55 T)) (s1 (se_call rfl ((z2z T 12).mono (by lia)) hr rfl T.kat.m T.kat.F.kp T.kat.b z1b (s1 (sv 1)) rfl))))
 (ss_cons (ss_expr (se_cl rfl PySem.F.slot_list_append PySem.F.type_list_append z0Q (se_fld (sv 0) (z1U T)) (s1 (sc0 z5i))))
 (ss_one (ss_ret (se_mth (z0R T) T.cc_Tree T.kab.h ((z0T T).mono (by lia)) hr T.kab.b z1b (sv 0) (s1 (se_sub rfl (sln T.n_len (s1 (se_fld (sv 0) (z1j T)))) (sc0 z01))) rfl))))))
noncomputable def zbu:MS:=(seqS (sAsg (.nm 1) (z0d z2A [(mVar 0),(mC (.int 0))]))
 (seqS (sAsg (.nm 2) (z61 "Tree" z0i []))
 (seqS (sAsg (.nm 3) (mCB [(mCB [(mC (.int 0)),(mCB [] tupD)] tupD)] lstM))
 (seqS (sFor (z39 [(mCB [(mC (.int 6)),(mCB [(mCB [(mVar 0)] lenD),(mC (.int 40))] minD)] maxD)]) (.nm 4) (seqS (sIf (mBoo (mBin (mVar 4) (mC (.int 0)) gtD)) (sAsg (.nm 1) (z0d z2A [(mVar 0),(mVar 4)])) sNx)
 (seqS (sAsg (.nm 5) (mMth "Tree" "here" z0e (mVar 2) []))
 (seqS (sAsg (.nm 6) (z0d z2V [(mVar 1),(mVar 4)]))
 (seqS (z0V (z0X (mVar 3) [(mCB [(mVar 5),(z0d (z1W 12) [(mVar 6)])] tupD)] appD))
 (seqS (sIf (mBoo (mBin (mMth "Tree" "do" z1t (mVar 2) [(mVar 6)]) (mBin (mCB [(mVar 3)] lenD) (mC (.int 1)) subD) neD)) (sRet (mC (.bool false))) sNx)
 (seqS (z0V (z0d (f_l_change 12) [(mVar 6)]))
 (sIf (mAnd (mBoo (mBin (z0d z0A [(mVar 1),(mC (.int 3))]) (mC (.int 0)) eqD)) (mBoo (mBin (mMth "Tree" "go" z0w (mVar 2) [(z0d z0A [(mVar 1),(mCB [(mVar 3)] lenD)])]) (mCB [(mVar 3)] lenD) geD))) (sRet (mC (.bool false))) sNx))))))))
 (seqS (sAsg (.nm 7) (mCB [] lstM))
 (seqS (sFor (z0W (z0d z1s [(mVar 1),(mCB [(mCB [(mVar 3)] lenD)] lrM1)])) (.nm 5) (seqS (sIf (mOr (mBoo (mBin (mMth "Tree" "go" z0w (mVar 2) [(mVar 5)]) (mVar 5) neD)) (mNot (z0P (z0d z1e [(mVar 2),(mVar 5),(mVar 3),(mVar 7)])))) (sRet (mC (.bool false))) sNx)
 (sFor (z0W (mCB [(bd (mC (.int 1)) negD),(mCB [(mVar 3)] lenD),(mBin (mCB [(mVar 3)] lenD) (z0d z0A [(mVar 1),(mBin (mC (.int 10)) (mC (.int 30)) powD)]) addD),(mBin (mBin (mC (.int 0)) (mC (.int 1)) subD) (z0d z0A [(mVar 1),(mBin (mC (.int 10)) (mC (.int 30)) powD)]) subD)] lstM)) (.nm 8) (sIf (mOr (mNot (z0P (z0d z2W [(mVar 2),(mVar 8)]))) (mBoo (mBin (mMth "Tree" "here" z0e (mVar 2) []) (mVar 5) neD))) (sRet (mC (.bool false))) sNx))))
 (sRet (z3F (z0d z1e [(mVar 2),(mMth "Tree" "here" z0e (mVar 2) []),(mVar 3),(mVar 7)]) (mCB [(z1i (z0W (mVar 7)) (.tp [(.nm 0),(.nm 1)]) (rt true) (mBin (mCB [(mVar 0)] repD) (mVar 1) eqS) 2 [])] allD)))))))))
noncomputable def f_law:FM:=runF 9 zbu
theorem zdA(T:Wd K mg):FnOk P w K mg base CX0 16 T.x_law.f T.x_law.d zbt (spM (GT T) 1 f_law):=okM zbu T.x_law.F z2e fun cdv A outer s H E F hr=>by
 have h64:=hr.units
 exact(ss_cons (sst 1 z2e.nd (scl T.kbe (z6J T) hr (s2 (sv 0) (sc0 z01))))
 (ss_cons (sst 2 z2e.nd (se_make0 rfl (z0R T) T.mk_Tree ((z2X T).mono (by lia)) hr rfl T.kbd T.kaa.b z1b rfl))
 (ss_cons (ss_setN (i:=3) z2e.nd rfl (Or.inl rfl) (Or.inl rfl) (se_lst rfl (s1 (se_tup rfl (s2 (sc0 z01) (se_tup rfl (sa_of rfl .nil)))))))
 (ss_cons (ss_for PassesOwn.never rfl (si_rng1 rfl T.n_range (s1 (se_cb rfl (zdk rfl) rfl T.n_max PyProof.Rows.Boot.«max» (s2 (sc0 z01) (se_cb rfl (zac rfl) rfl T.n_min PyProof.Rows.Boot.«min» (s2 (sln T.n_len (s1 (sv 0))) (sc0 z01))))))) (sgn 4 z2e.nd) (ss_cons (ss_if (sb_cmp z8e (sv 4) (sc0 z01) (z0N _)) (ss_one (sst 1 z2e.nd (scl T.kbe (z6J T) hr (s2 (sv 0) (sv 4))))) ss_nil)
 (ss_cons (sst 5 z2e.nd (se_mth0 (z0R T) T.cc_Tree T.kae.h ((z1a T).mono (by lia)) hr T.kae.b z1b (sv 2) rfl))
 (ss_cons (sst 6 z2e.nd (scl T.ka1 (z8y T) hr (s2 (sv 1) (sv 4))))
 (ss_cons (ss_expr (se_cl rfl PySem.F.slot_list_append PySem.F.type_list_append z0Q (sv 3) (s1 (se_tup rfl (s2 (sv 5) (se_call rfl ((z5K T 12).mono (by lia)) hr rfl T.kba.m T.kba.F.kp T.kba.b z1b (s1 (sv 6)) rfl))))))
 (ss_cons (ss_if (sb_cmp (z7o rfl h64) (se_mth (z0R T) T.cc_Tree T.kao.h ((z5M T).mono (by lia)) hr T.kao.b z1b (sv 2) (s1 (sv 6)) rfl) (se_sub rfl (sln T.n_len (s1 (sv 3))) (sc0 z01)) (z0N _)) (ss_one (ss_ret (sc0 z4g))) ss_nil)
 (ss_cons (ss_expr (se_call rfl ((z43 T 12).mono (by lia)) hr rfl T.kaA.m T.kaA.F.kp T.kaA.b z1b (s1 (sv 6)) rfl))
 (ss_one (ss_if (SW.sb (sw_and (sb_cmp (z9x rfl h64) (scl T.ka8 (z1J T) hr (s2 (sv 1) (sc0 z01))) (sc0 z01) (z0N _)) (sw_and1 (sb_cmp zeY (se_mth (z0R T) T.cc_Tree T.kaq.h ((z2s T).mono (by lia)) hr T.kaq.b z1b (sv 2) (s1 (scl T.ka8 (z1J T) hr (s2 (sv 1) (sln T.n_len (s1 (sv 3)))))) rfl) (sln T.n_len (s1 (sv 3))) (z0N _))))) (ss_one (ss_ret (sc0 z4g))) ss_nil)))))))))
 (ss_cons (sst 7 z2e.nd (se_lst rfl (sa_of rfl .nil)))
 (ss_cons (ss_for PassesOwn.never rfl (si_seq rfl (scl T.kaB (z7v T) hr (s2 (sv 1) (se_listRange1 rfl rfl rfl T.n_list rfl T.n_range (s1 (sln T.n_len (s1 (sv 3)))))))) (sgn 5 z2e.nd) (ss_cons (ss_if (SW.sb (sw_or (sb_cmp (z7o rfl h64) (se_mth (z0R T) T.cc_Tree T.kaq.h ((z2s T).mono (by lia)) hr T.kaq.b z1b (sv 2) (s1 (sv 5)) rfl) (sv 5) (z0N _)) (sw_or1 (sb_not (sb_truth rfl (scl T.kaJ (z4C T) hr (s4 (sv 2) (sv 5) (sv 3) (sv 7)))))))) (ss_one (ss_ret (sc0 z4g))) ss_nil)
 (ss_one (ss_for PassesOwn.never rfl (si_seq rfl (se_lst rfl (s4 (se_neg rfl (sc0 z01)) (sln T.n_len (s1 (sv 3))) (se_add rfl (sln T.n_len (s1 (sv 3))) (scl T.ka8 (z1J T) hr (s2 (sv 1) (se_pow rfl (sc0 z01) (sc0 z01))))) (se_sub rfl (se_sub rfl (sc0 z01) (sc0 z01)) (scl T.ka8 (z1J T) hr (s2 (sv 1) (se_pow rfl (sc0 z01) (sc0 z01)))))))) (sgn 8 z2e.nd) (ss_one (ss_if (SW.sb (sw_or (sb_not (sb_truth rfl (scl T.ka7 (z8z T) hr (s2 (sv 2) (sv 8))))) (sw_or1 (sb_cmp (z7o rfl h64) (se_mth0 (z0R T) T.cc_Tree T.kae.h ((z1a T).mono (by lia)) hr T.kae.b z1b (sv 2) rfl) (sv 5) (z0N _))))) (ss_one (ss_ret (sc0 z4g))) ss_nil))))))
 (ss_one (ss_ret (se_and (scl T.kaJ (z4C T) hr (s4 (sv 2) (se_mth0 (z0R T) T.cc_Tree T.kae.h ((z1a T).mono (by lia)) hr T.kae.b z1b (sv 2) rfl) (sv 3) (sv 7))) (se_one (se_cb rfl (zdl rfl hr.hd) rfl T.n_all PyProof.Rows.Boot.«all» (s1 (se_comp (own:=["_law_one", "_law_text"]) (frees:=[]) (ix:=[]) rfl rfl (z2p.sc (by kernel_rfl)) (si_seq rfl (sv 7)) (fun _ _ _ _ _ _ _=>(sg_tup rfl rfl (sgs_cons (sg_name (z1x (i:=0) (show List.Nodup (["_law_one", "_law_text"]:List Str) by decide+kernel) rfl (Or.inl rfl))) (sgs_cons (sg_name (z1x (i:=1) (show List.Nodup (["_law_one", "_law_text"]:List Str) by decide+kernel) rfl (Or.inl rfl))) sgs_nil)))) (fun _ _ _ _ _ _ _=>sts_nil) (fun _ _ _ _ _ _ _=>(se_cmp zdp (se_cb rfl (z8r rfl hr.gd h64) rfl T.n_repr PyProof.Rows.Boot.«repr» (s1 (sv 0))) (sv 1) (z0N _))))))))))))))))
end
end My
namespace Mi
open PySem L2
theorem z0K{α:Type}(xs ys:List α)(k:Nat)(h:xs.length=k):(xs++ys).drop k=ys:=by subst h;simp
theorem z2k{α:Type}(xs ys:List α)(k:Nat)(h:xs.length=k):(xs++ys).take k=xs:=by subst h;simp
theorem z21: ∀ds:List D,z03 (ds.map some)=some ds
 |[]=>rfl
 |d::ds=>by simp[z03,z21 ds]
theorem z7w{t:D}{ts:List D}{n':Nat}{s:Stt}:z2a (.ok t ts n') ts s= .ok t {s with n:=n'}:=by
 unfold z2a;simp
end Mi
set_option maxHeartbeats 40000
namespace Mi
open PySem L2
class Kq{α:Type}(f:α):Type where
instance kq{α:Type}(f:α):Kq f:=⟨⟩
noncomputable def Res.bnd{α β:Type}(f:α->Stt->Res β)[Kq f](r:Res α):Res β:=match r with
 | .ok a s=>f a s
 | .ex d s=> .ex d s
 | .no=> .no
theorem z2Y{α β:Type}{a:α}{s:Stt}{f:α->Stt->Res β}:((Res.ok a s).bnd f:Res β)=f a s:=(rfl)
noncomputable def Res.lf{α:Type}(f:α->MS)[Kq f](r:Res α):RS:=match r with
 | .ok a s=>f a s
 | .ex d s=> .ex d s
 | .no=> .no
theorem zf5{α:Type}{a:α}{s:Stt}{f:α->MS}:((Res.ok a s).lf f:RS)=f a s:=(rfl)
noncomputable def RS.sq(m:MS)[Kq m](r:RS):RS:=match r with
 | .nx s=>m s
 |r=>r
theorem z2g{s:Stt}{m:MS}:((RS.nx s).sq m:RS)=m s:=(rfl)
theorem zf6{d:D}{s:Stt}{m:MS}:((RS.rt d s).sq m:RS)= .rt d s:=(rfl)
noncomputable def RS.fin(r:RS):RF:=match r with
 | .nx s'=>match z03 s'.tm with|some ts'=> .ok .non ts' s'.n|none=> .no
 | .rt t s'=>match z03 s'.tm with|some ts'=> .ok t ts' s'.n|none=> .no
 | .ex d s'=>match z03 s'.tm with|some ts'=> .ex d ts' s'.n|none=> .no
 |_=> .no
noncomputable def finO(o:Option (List D))(t:D)(n:Nat):RF:=match o with|some ts=> .ok t ts n|none=> .no
theorem z8A{ts:List D}{t:D}{n:Nat}:finO (some ts) t n= .ok t ts n:=(rfl)
theorem zf7{t:D}{σ tm:List (Option D)}{n:Nat}:(RS.rt t ⟨σ,tm,n⟩).fin=finO (z03 tm) t n:=(rfl)
theorem zf8{σ tm:List (Option D)}{n:Nat}:(RS.nx ⟨σ,tm,n⟩).fin=finO (z03 tm) .non n:=(rfl)
theorem zf9{nl:Nat}{mb:MS}{ts:List D}{n:Nat}:runF nl mb ts n=(mb ⟨ts.map some++List.replicate (nl -ts.length) none,ts.map some,n⟩).fin:=(rfl)
section
variable{α β:Type}{m ma mb mc:M D}{s:Stt}{ms:List (M D)}{σ tm:List (Option D)}{n:Nat}
theorem x_bd{m:M α}{f:α->M β}:bd m f s=(m s).bnd f:=(rfl)
theorem x_rt{a:α}:rt a s= .ok a s:=(rfl)
theorem zdB{t:D}:Stt.psh ⟨σ,tm,n⟩ t=⟨σ,some t::tm,n⟩:=(rfl)
theorem zfa:Stt.nxt ⟨σ,tm,n⟩=⟨σ,tm,n+1⟩:=(rfl)
theorem zfb{t:D}{r:List (Option D)}:pop ⟨σ,some t::r,n⟩= .ok t ⟨σ,r,n⟩:=(rfl)
noncomputable def vOf(o:Option (Option D))(s:Stt):Res D:=match o with
 |some (some t)=> .ok t s
 |_=> .no
theorem z9N{t:D}:vOf (some (some t)) s= .ok t s:=(rfl)
theorem zfc{i:Nat}:mVar i ⟨σ,tm,n⟩=vOf (σ[i]?) ⟨σ,tm,n⟩:=by
 unfold mVar vOf
 cases σ[i]? with
 |none=>rfl
 |some o=>cases o<;>rfl
theorem x_C{d:D}:mC d s= .ok d s:=(rfl)
theorem zbv{g:D->D->M D}:mBin ma mb g s=(ma s).bnd fun x s1=>(mb (s1.psh x)).bnd fun y s2=>(pop s2).bnd fun x' s3=>g x' y s3:=(rfl)
theorem zfd:mBoo m s=(m s).bnd booD:=(rfl)
theorem zaf{b:Bool}:booD (.bool b) s= .ok b s:=(rfl)
theorem zdC:z0P m s=(m s).bnd truD:=(rfl)
theorem x_tB{b:Bool}:truD (.bool b) s= .ok b s:=(rfl)
theorem zfe{m m':M Bool}:mAnd m m' s=(m s).bnd fun b=>iteM b m' (rt false):=(rfl)
theorem x_or{m m':M Bool}:mOr m m' s=(m s).bnd fun b=>iteM b (rt true) m':=(rfl)
theorem zff{m:M Bool}:mNot m s=(m s).bnd fun b s1=> .ok (!b) s1:=(rfl)
theorem zag{m m':M D}:z3F m m' s=(m s).bnd fun d s1=>(booD d s1).bnd fun b=>iteM b m' (rt (.bool false)):=by
 unfold z3F mBoo bd Res.bnd
 cases m s<;>rfl
theorem zfg{m m':M D}:mOrV m m' s=(m s).bnd fun d s1=>(booD d s1).bnd fun b=>iteM b (rt (.bool true)) m':=by
 unfold mOrV mBoo bd Res.bnd
 cases m s<;>rfl
theorem zdD{m:M D}:z4Q m s=(m s).bnd fun d s1=>(booD d s1).bnd fun b=>rt (.bool (!b)):=by
 unfold z4Q mBoo bd Res.bnd
 cases m s<;>rfl
theorem x_it{m m':M α}:iteM true m m' s=m s:=(rfl)
theorem x_if{m m':M α}:iteM false m m' s=m' s:=(rfl)
theorem zbw:z02 [] s= .ok [] s:=(rfl)
theorem z3f:z02 (m::ms) s=(m s).bnd fun x s1=>(z02 ms (s1.psh x)).bnd fun ys s2=>(pop s2).bnd fun x' s3=> .ok (x'::ys) s3:=(rfl)
theorem x_cb{g:List D->M D}:mCB ms g s=(z02 ms s).bnd g:=(rfl)
theorem zdE{f:FM}:z0d f ms s=(z02 ms s).bnd fun ts s1=>z2a (f ts s1.n) ts s1:=(rfl)
noncomputable def isiK(o:Option Bool)(s:Stt):Res D:=match o with
 |some b=> .ok (.bool b) s
 |none=> .no
theorem z8B{b:Bool}:isiK (some b) s= .ok (.bool b) s:=(rfl)
theorem zfh{T:String}:mIsi T m s=(m s).bnd fun d s1=>isiK (isiD T d) s1:=by
 unfold mIsi bd Res.bnd isiK
 cases m s with
 |ok d s1=>dsimp only;cases isiD T d<;>rfl
 |ex d s1=>rfl
 |no=>rfl
theorem zdF{Ts:List String}:z5X Ts m s=(m s).bnd fun d s1=>isiK (isiAny Ts d) s1:=by
 unfold z5X bd Res.bnd isiK
 cases m s with
 |ok d s1=>dsimp only;cases isiAny Ts d<;>rfl
 |ex d s1=>rfl
 |no=>rfl
theorem zbx{g g':D->D->M D}:z4s ma mb mc g g' s=(ma s).bnd fun x s1=>(mb (s1.psh x)).bnd fun y s2=>(pop s2).bnd fun x' s3=>z86 y (bd (mBoo (g x' y)) fun k=>iteM k (bd mc fun z=>g' y z) (rt (.bool false))) s3:=(rfl)
theorem zfi{i:Int}{m:M D}:z86 (.int i) m s=m s:=(rfl)
noncomputable def intK(o:Option Int)(s:Stt):Res (Option Int):=match o with
 |some i=> .ok (some i) s
 |none=> .no
theorem z8C{i:Int}:intK (some i) s= .ok (some i) s:=(rfl)
theorem zby:z4j none s= .ok none s:=(rfl)
theorem zbz:z4j (some m) s=(m s).bnd fun d s1=>intK (mInt d) s1:=by
 show bd m (fun d=>match mInt d with|some i=>rt (some i)|none=>fl) s=_
 unfold bd Res.bnd
 cases m s with
 |ok d s1=>show(match mInt d with|some i=>rt (some i)|none=>fl:M (Option Int)) s1=intK (mInt d) s1;cases mInt d<;>rfl
 |ex d s1=>rfl
 |no=>rfl
theorem zdG{i:Int}:mInt (.int i)=some i:=(rfl)
theorem x_sl{lo hi:Option (M D)}:mSl m lo hi s=(m s).bnd fun x s1=>(z4j lo (s1.psh x)).bnd fun l s2=>(z4j hi s2).bnd fun h s3=>(pop s3).bnd fun x' s4=>slD x' l h s4:=(rfl)
theorem zdH{i j:Int}:addD (.int i) (.int j) s= .ok (.int (i+j)) s:=(rfl)
theorem zdI{k l:Nat}{a b:List D}(h:a.length+b.length<=sizeLine):addD (.lst k a) (.lst l b) s= .ok (.lst s.n (a++b)) s.nxt:=by simp only[addD,if_pos h];rfl
theorem zfj{i j:Int}:subD (.int i) (.int j) s= .ok (.int (i -j)) s:=(rfl)
theorem z8D{i j:Int}(h:CMul i j):mulD (.int i) (.int j) s= .ok (.int (i*j)) s:=by simp only[mulD,if_pos h];rfl
theorem zah{i j:Int}(h:CDiv i j):z5x (.int i) (.int j) s= .ok (.int (i/j)) s:=by simp only[z5x,if_pos h];rfl
theorem z5a{i j:Int}(h:0<j):modD (.int i) (.int j) s= .ok (.int (i %j)) s:=by simp only[modD,if_pos h];rfl
theorem z8E{i j:Int}(h:CPow i j):powD (.int i) (.int j) s= .ok (.int (i^j.toNat)) s:=by simp only[powD,if_pos h];rfl
theorem y_lt{i j:Int}:ltD (.int i) (.int j) s= .ok (.bool (decide (i<j))) s:=(rfl)
theorem y_le{i j:Int}:leD (.int i) (.int j) s= .ok (.bool (decide (i<=j))) s:=(rfl)
theorem y_gt{i j:Int}:gtD (.int i) (.int j) s= .ok (.bool (decide (j<i))) s:=(rfl)
theorem y_ge{i j:Int}:geD (.int i) (.int j) s= .ok (.bool (decide (j<=i))) s:=(rfl)
theorem zfk{i:Int}:negD (.int i) s= .ok (.int (-i)) s:=(rfl)
theorem y_eq{t t':D}(h:eqC t t'=true):eqD t t' s= .ok (.bool (PyData.eqv (er t) (er t'))) s:=by simp only[eqD,if_pos h];rfl
theorem y_ne{t t':D}(h:eqC t t'=true):neD t t' s= .ok (.bool (!PyData.eqv (er t) (er t'))) s:=by simp only[neD,if_pos h];rfl
theorem zfl{ds:List D}{i:Int}:ixD (.tup ds) (.int i) s=optM (atI ds i) s:=(rfl)
theorem zfm{l:Nat}{ds:List D}{i:Int}:ixD (.lst l ds) (.int i) s=optM (atI ds i) s:=(rfl)
theorem zfn{ds:List D}{i:Int}:ixD (.ro ds) (.int i) s=optM (atI ds i) s:=(rfl)
theorem zfo{d:D}:optM (some d) s= .ok d s:=(rfl)
theorem z8F{ts:List D}(h:ts.length<=sizeLine):tupD ts s= .ok (.tup ts) s:=by simp only[tupD,if_pos h];rfl
theorem z67{ts:List D}(h:ts.length<=sizeLine):lstM ts s= .ok (.lst s.n ts) s.nxt:=by simp only[lstM,if_pos h];rfl
theorem zdJ{ds:List D}:lenD [.tup ds] s= .ok (.int ds.length) s:=(rfl)
theorem zdK{l:Nat}{ds:List D}:lenD [.lst l ds] s= .ok (.int ds.length) s:=(rfl)
theorem zdL{ds:List D}:lenD [.ro ds] s= .ok (.int ds.length) s:=(rfl)
theorem zfp{i:Int}:absD [.int i] s= .ok (.int (if i<0 then -i else i)) s:=(rfl)
theorem zfq{i j:Int}:minD [.int i, .int j] s= .ok (.int (if j<i then j else i)) s:=(rfl)
theorem zfr{i j:Int}:maxD [.int i, .int j] s= .ok (.int (if j>i then j else i)) s:=(rfl)
theorem zdM{l:Nat}{ds:List D}:tupF [.lst l ds] s= .ok (.tup ds) s:=(rfl)
theorem zbA{l:Nat}{ds:List D}:z7i [.lst l ds] s= .ok (.lst s.n ds) s.nxt:=(rfl)
theorem zfs{l:Nat}{ds:List D}{bs:List Bool}(h:boolsD ds=some bs):allD [.lst l ds] s= .ok (.bool (bs.all id)) s:=by simp only[allD,h];rfl
theorem z2D{a b:MS}:seqS a b s=(a s).sq b:=by
 unfold seqS RS.sq
 cases a s<;>rfl
theorem zft:sNx s= .nx s:=(rfl)
theorem zai:sRet m s=(m s).lf fun d s1=> .rt d s1:=(rfl)
theorem zbB:z0V m s=(m s).lf fun _ s1=> .nx s1:=(rfl)
theorem zfu{c:M Bool}{a b:MS}:sIf c a b s=(c s).lf fun k=>iteS k a b:=(rfl)
theorem x_sT{a b:MS}:iteS true a b s=a s:=(rfl)
theorem x_sF{a b:MS}:iteS false a b s=b s:=(rfl)
noncomputable def asgK(o:Option (List (Option D)))(s:Stt):RS:=match o with
 |some σ'=> .nx {s with σ:=σ'}
 |none=> .no
theorem z8G{σ':List (Option D)}:asgK (some σ') ⟨σ,tm,n⟩= .nx ⟨σ',tm,n⟩:=(rfl)
theorem zdN{g:Tg}:sAsg g m s=(m s).lf fun d s1=>asgK (asg g d s1.σ) s1:=by
 unfold sAsg lift Res.lf asgK
 cases m s with
 |ok d s1=>first|(dsimp only;cases asg g d s1.σ<;>rfl)|(dsimp only;done)|rfl
 |ex d s1=>rfl
 |no=>rfl
theorem zfv{me mo mi:M D}{g:D->D->D->MS}:mTri me mo mi g s=(me s).lf fun v s1=>(mo (s1.psh v)).lf fun o s2=>(mi (s2.psh o)).lf fun i s3=>(pop s3).lf fun o' s4=>(pop s4).lf fun v' s5=>g o' i v' s5:=(rfl)
theorem zbC{l:Nat}{ds:List D}{k:Int}{v:D}{j:Nat}(e:ixN ds.length k=some j)(h:l∉labs v):setD (.lst l ds) (.int k) v s= .nx (s.put l (.lst l (ds.set j v))):=by simp only[setD,e,if_pos h]
theorem zdO{mo:M D}{g:D->List D->M D}:z0X mo ms g s=(mo s).bnd fun x s1=>(isL x s1).bnd fun _ s2=>(z02 ms (s2.psh x)).bnd fun ys s3=>(pop s3).bnd fun x' s4=>g x' ys s4:=(rfl)
theorem zfw{l:Nat}{ds:List D}:isL (.lst l ds) s= .ok () s:=(rfl)
theorem z5b{l:Nat}{ds:List D}{y:D}(h:ds.length<sizeLine/\l∉labs y):appD (.lst l ds) [y] s= .ok .non (s.put l (.lst l (ds++[y]))):=by simp only[appD,if_pos h]
end
theorem z2t{α:Type}{xs:List α}{i:Int}{d:α}(h0:0<=i)(h:xs[i.toNat]? =some d):atI xs i=some d:=by
 obtain⟨j,rfl⟩:=Int.eq_ofNat_of_zero_le h0
 exact zaS (by simpa using h)
end Mi
set_option maxHeartbeats 400000
namespace Mi
open PySem L2
noncomputable def pl(l:Nat)(d:D):Nat->Option D:=fun k=>if k=l then some d else none
theorem z4D{σ tm:List (Option D)}{n l:Nat}{d:D}:Stt.put ⟨σ,tm,n⟩ l d=⟨rpO (pl l d) σ,rpO (pl l d) tm,n⟩:=(rfl)
theorem z0a{l:Nat}{d t:D}(h:l∉labs t):rp (pl l d) t=t:=z1h t fun k hk=>by
 unfold pl;rw[if_neg];intro e;subst e;exact h hk
theorem z0g{f:Nat->Option D}:rpO f []=[]:=(rfl)
theorem z9O{f:Nat->Option D}{r:List (Option D)}:rpO f (none::r)=none::rpO f r:=(rfl)
theorem z6L{f:Nat->Option D}{d:D}{r:List (Option D)}:rpO f (some d::r)=some (rp f d)::rpO f r:=(rfl)
theorem z4E{l:Nat}{d:D}{b:List D}:rp (pl l d) (.lst l b)=d:=by simp only[rp,pl,if_true]
theorem z0o{f:Nat->Option D}{i:Int}:rp f (.int i)= .int i:=(rfl)
mutual
theorem z3g{l:Nat}: ∀t:D,l∉labs t->findT l t=none
 | .non,_=>rfl
 | .bool _,_=>rfl
 | .int _,_=>rfl
 | .str _,_=>rfl
 | .exc _,_=>rfl
 | .fn _,_=>rfl
 | .tup ds,h=>by simp only[labs] at h;simp only[findT];exact findL_none ds h
 | .ro ds,h=>by simp only[labs] at h;simp only[findT];exact findL_none ds h
 | .fdc ks ds,h=>by simp only[labs] at h;simp only[findT];exact findL_none ds h
 | .lst k ds,h=>by
  simp only[labs,List.mem_cons,not_or] at h;simp only[findT];rw[if_neg fun e=>h.1 e.symm];exact findL_none ds h.2
 | .dct k ks ds,h=>by
  simp only[labs,List.mem_cons,List.mem_append,not_or] at h;simp only[findT];rw[if_neg fun e=>h.1 e.symm];exact findL_none ds h.2.2
 | .obj k c ks ds,h=>by
  simp only[labs,List.mem_cons,not_or] at h;simp only[findT];rw[if_neg fun e=>h.1 e.symm];exact findL_none ds h.2
theorem findL_none{l:Nat}: ∀t:List D,l∉labsL t->findL l t=none
 |[],_=>rfl
 |d::ds,h=>by
  simp only[labsL,List.mem_append,not_or] at h
  simp only[findL,z3g d h.1,findL_none ds h.2]
end
theorem z1L{t:D}{l n' n:Nat}{b b' r:List D}{σ tm:List (Option D)}(hb:labsL b=[])(hb':labsL b'=[])(hr:labsL r=[])(f1:rpO (pl l (.lst l b)) σ=σ)(f2:rpO (pl l (.lst l b)) tm=tm):
 z2a (.ok t (.lst l b'::r) n') (.lst l b::r) ⟨σ,tm,n⟩= .ok t ⟨rpO (pl l (.lst l b')) σ,rpO (pl l (.lst l b')) tm,n'⟩:=by
 have e:(fun k=>findL k (.lst l b'::r))=pl l (.lst l b'):=by
  funext k
  simp only[findL,findT,pl]
  by_cases h:l=k
  ·subst h;rw[if_pos rfl,if_pos rfl]
  ·rw[if_neg h,if_neg fun q=>h q.symm,findL_none b' (by rw[hb'];exact List.not_mem_nil),findL_none r (by rw[hr];exact List.not_mem_nil)]
 unfold z2a
 by_cases h:(D.lst l b'::r)=(D.lst l b::r)
 ·have hh:b'=b:=by injection h with h _;injection h
  subst hh
  simp only[if_true]
  rw[f1,f2]
 ·simp only[if_neg h]
  rw[if_pos,e]
  intro k _ hk
  simp only[labsL,labs,hb,hr,List.append_nil,List.mem_singleton] at hk
  subst hk
  have:=congrFun e k
  rw[show findL k (D.lst k b'::r)=pl k (D.lst k b') k from this];simp[pl]
theorem zdP{mi:M ItK}{g:Tg}{b:MS}{s:Stt}:sFor mi g b s=(mi s).lf fun K s=>forGo K g b (K.len s.tm) 0 s:=(rfl)
theorem zdQ{ms:List (M D)}{s:Stt}:z39 ms s=(z02 ms s).bnd rng1:=(rfl)
theorem z4F{j:Int}{s:Stt}(h: -(2^62)<=j/\j<2^62):rng1 [.int j] s= .ok (kRng 0 j.toNat) s:=by simp only[rng1,if_pos h];rfl
theorem zdR{lo:Int}{N:Nat}{tm:List (Option D)}:(kRng lo N).len tm=N:=(rfl)
theorem z68{P:Nat->Stt->Prop}{lo:Int}{N:Nat}{g:Tg}{b:MS}
 (body: ∀i,i<N->∀s,P i s->∃σ',asg g (.int (lo+i)) s.σ=some σ'/\∃s',b {s with σ:=σ'}= .nx s'/\P (i+1) s'):
 ∀(f i:Nat) (s:Stt),i+f=N->P i s->∃s',forGo (kRng lo N) g b f i s= .nx s'/\P N s':=by
 intro f
 induction f with
 |zero=>
  intro i s hi h
  have e:i=N:=by lia
  subst e
  refine⟨s, ?_,h⟩
  unfold forGo
  simp only[kRng,Nat.lt_irrefl,if_false]
  rfl
 |succ f ih=>
  intro i s hi h
  have hl:i<N:=by lia
  obtain⟨σ',e1,s',e2,h'⟩:=body i hl s h
  obtain⟨s2,e3,h2⟩:=ih (i+1) s' (by lia) h'
  refine⟨s2, ?_,h2⟩
  unfold forGo
  simp only[kRng,if_pos hl,e1,e2]
  exact e3
theorem labsL_app: ∀a b:List D,labsL (a++b)=labsL a++labsL b
 |[],b=>rfl
 |d::ds,b=>by simp only[List.cons_append,labsL,labsL_app ds b,List.append_assoc]
inductive All2(Q:D->D->Prop):List D->List D->Prop
 |nil:All2 Q [] []
 |cons {a b:D} {as bs:List D}:Q a b->All2 Q as bs->All2 Q (a::as) (b::bs)
theorem z7x{K:ItK}{mt:M Bool}{me:M D}{p:D->Bool}{g:D->D}{items:List D}{its fr σ0 tm0:List (Option D)}{ol:Nat}(hk:its.length=K.k)(hol:σ0.length=ol)(hz:items.length<sizeLine)(hat: ∀i rest,K.at' i (its++rest)=some items[i]?)
 (hmt: ∀d∈items,∀tm n,∃n',n<=n'/\mt ⟨some d::fr,tm,n⟩= .ok (p d) ⟨some d::fr,tm,n'⟩)
 (hme: ∀d∈items,p d=true->∀tm n,∃n',n<=n'/\me ⟨some d::fr,tm,n⟩= .ok (g d) ⟨some d::fr,tm,n'⟩):
 ∀(f i:Nat) (acc:List D) (o:Option D) (n:Nat),i+f=items.length->acc.length<=i->∃n',n<=n'/\z1v K (.nm 0) mt me ol f i acc.length ⟨o::fr,(acc.reverse.map some)++(σ0++(its++tm0)),n⟩= .ok (.lst n' (acc++((items.drop i).filter p).map g)) ⟨σ0,tm0,n'+1⟩:=by
 intro f
 induction f with
 |zero=>
  intro i acc o n hi ha
  have hi:i=items.length:=by lia
  refine⟨n,Nat.le_refl _, ?_⟩
  have l1:(acc.reverse.map some).length=acc.length:=by simp
  have e1:((acc.reverse.map some)++(σ0++(its++tm0))).drop (acc.length+ol)=its++tm0:=by
   rw[<-List.append_assoc];exact z0K _ _ _ (by simp[hol])
  unfold z1v
  simp only[e1,hat,List.getElem?_eq_none (show items.length<=i by lia)]
  rw[z2k _ _ _ l1]
  have e2:(acc.reverse.map some).reverse=acc.map some:=by simp
  rw[e2,z21]
  simp only[Res.ok.injEq,Stt.mk.injEq,and_true,List.drop_eq_nil_of_le (show items.length<=i by lia),List.filter_nil,List.map_nil,List.append_nil,true_and]
  constructor
  ·rw[z0K _ _ _ l1,z2k _ _ _ hol]
  ·have:((acc.reverse.map some)++(σ0++(its++tm0))).drop (acc.length+ol+K.k)=(((acc.reverse.map some)++(σ0++(its++tm0))).drop (acc.length+ol)).drop K.k:=by rw[List.drop_drop]
   rw[this,e1]
   exact z0K _ _ _ hk
 |succ f ih=>
  intro i acc o n hi ha
  have hlt:i<items.length:=by lia
  have e1:((acc.reverse.map some)++(σ0++(its++tm0))).drop (acc.length+ol)=its++tm0:=by
   rw[<-List.append_assoc];exact z0K _ _ _ (by simp[hol])
  obtain⟨n1,hn1,h1⟩:=hmt items[i] (List.getElem_mem hlt) ((acc.reverse.map some)++(σ0++(its++tm0))) n
  rw[List.drop_eq_getElem_cons hlt,List.filter_cons]
  unfold z1v
  simp only[e1,hat,List.getElem?_eq_getElem hlt,asg,List.set_cons_zero,h1]
  cases hp:p items[i] with
  |false=>
   obtain⟨n2,hn2,h2⟩:=ih (i+1) acc (some items[i]) n1 (by lia) (by lia)
   exact⟨n2,by lia,h2⟩
  |true=>
   obtain⟨n2,hn2,h2⟩:=hme items[i] (List.getElem_mem hlt) hp ((acc.reverse.map some)++(σ0++(its++tm0))) n1
   obtain⟨n3,hn3,h3⟩:=ih (i+1) (acc++[g items[i]]) (some items[i]) n2 (by lia) (by simp;lia)
   refine⟨n3,by lia, ?_⟩
   simp only[if_pos (show acc.length<sizeLine by lia),h2]
   simp only[List.length_append,List.length_cons,List.length_nil,Nat.zero_add,List.reverse_append,List.reverse_cons,List.reverse_nil,List.nil_append,List.map_append,List.map_cons,List.map_nil,List.cons_append,List.append_assoc] at h3⊢
   exact h3
theorem z8H{mi:M ItK}{K:ItK}{mt:M Bool}{me:M D}{p:D->Bool}{g:D->D}{items:List D}{its:List (Option D)}{ix:List Nat}{s:Stt}{σ tm:List (Option D)}{n:Nat}(hc:mi s= .ok K ⟨σ,its++tm,n⟩)(hk:its.length=K.k)(hz:items.length<sizeLine)(hat: ∀i rest,K.at' i (its++rest)=some items[i]?)(hlen:K.len (its++tm)=items.length)
 (hmt: ∀d∈items,∀tm n,∃n',n<=n'/\mt ⟨some d::(ix.map fun i=>(σ[i]?).getD none),tm,n⟩= .ok (p d) ⟨some d::(ix.map fun i=>(σ[i]?).getD none),tm,n'⟩)
 (hme: ∀d∈items,p d=true->∀tm n,∃n',n<=n'/\me ⟨some d::(ix.map fun i=>(σ[i]?).getD none),tm,n⟩= .ok (g d) ⟨some d::(ix.map fun i=>(σ[i]?).getD none),tm,n'⟩):
 ∃n',n<=n'/\z1i mi (.nm 0) mt me 1 ix s= .ok (.lst n' ((items.filter p).map g)) ⟨σ,tm,n'+1⟩:=by
 obtain⟨n',h2,h3⟩:=z7x (K:=K) (mt:=mt) (me:=me) (σ0:=σ) (tm0:=tm) hk rfl hz hat hmt hme items.length 0 [] none n (by simp) (by simp)
 refine⟨n',h2, ?_⟩
 unfold z1i
 simp only[bd,hc,hlen]
 simp only[List.map_nil,List.reverse_nil,List.nil_append,List.length_nil,List.drop_zero] at h3
 exact h3
end Mi
set_option maxHeartbeats 1000000
namespace Mi
open PySem L2
noncomputable def zbD(o:Option (List D))(t:D)(n:Nat):RF:=match o with|some ts=> .ex t ts n|none=> .no
noncomputable def _root_.Mi.RS.finX(k:Nat):RS->RF
 | .nx s'=>finO (z03 s'.tm) .non s'.n
 | .rt t s'=>finO (z03 s'.tm) t s'.n
 | .ex d s'=>zbD (z03 (z26 k s'.tm)) d s'.n
 |_=> .no
theorem zfx{k:Nat}{t:D}{σ tm:List (Option D)}{n:Nat}:(RS.ex t ⟨σ,tm,n⟩).finX k=zbD (z03 (z26 k tm)) t n:=(rfl)
theorem zdS{nl:Nat}{mb:MS}{ts:List D}{n:Nat}:runX nl mb ts n=(mb ⟨ts.map some++List.replicate (nl -ts.length) none,ts.map some,n⟩).finX ts.length:=by
 unfold runX RS.finX finO zbD
 cases mb ⟨ts.map some++List.replicate (nl -ts.length) none,ts.map some,n⟩<;>rfl
theorem zfy{t:D}{ts:List D}{n':Nat}{s:Stt}:z3M (.ex t ts n') ts s= .ex t {s with n:=n'}:=by
 unfold z3M;simp
noncomputable def iK(tb:Str->Option Bool):D->M D
 | .exc c=>(match tb c with|some b=>rt (.bool b)|none=>fl)
 |_=>fl
theorem zfz{tb:Str->Option Bool}{m:M D}{s:Stt}:mIsX tb m s=(m s).bnd (iK tb):=by
 unfold mIsX bd Res.bnd
 cases m s with
 |ok d s1=>cases d<;>rfl
 |ex d s1=>rfl
 |no=>rfl
theorem z5N{tb:Str->Option Bool}{c:Str}{b:Bool}{s:Stt}(h:tb c=some b):iK tb (.exc c) s= .ok (.bool b) s:=by
 show(match tb c with|some b=>rt (D.bool b)|none=>fl) s=_
 rw[h];rfl
theorem zbE{c:Str}{s:Stt}:z6E c s= .ex (.exc c) s:=(rfl)
noncomputable def tK(k:Str->Bool)(ie N:Nat)(mh:MS):RS->RS
 | .ex (.exc c) s'=>if k c then(match mh {σ:=s'.σ.set ie (some (.exc c)),tm:=z26 N s'.tm,n:=s'.n} with
  | .rt d s''=> .rt d s''
  |_=> .no) else .no
 | .ex _ _=> .no
 |r=>r
theorem zfA{k:Str->Bool}{ie:Nat}{mb mh:MS}{s:Stt}:sTry k ie mb mh s=tK k ie s.tm.length mh (mb s):=by
 unfold sTry tK
 cases mb s with
 |ex d s'=>cases d<;>rfl
 |_=>rfl
noncomputable def rtO:RS->RS
 | .rt d s''=> .rt d s''
 |_=> .no
theorem zdT{d:D}{s:Stt}:rtO (.rt d s)= .rt d s:=(rfl)
theorem zfB{k:Str->Bool}{ie N:Nat}{mh:MS}{c:Str}{σ tm:List (Option D)}{n:Nat}(h:k c=true):tK k ie N mh (.ex (.exc c) ⟨σ,tm,n⟩)=rtO (mh ⟨σ.set ie (some (.exc c)),z26 N tm,n⟩):=by
 unfold tK rtO;simp only[h,if_true]
theorem zfC{α:Type}{d:D}{s:Stt}{f:α->MS}:((Res.ex d s:Res α).lf f:RS)= .ex d s:=(rfl)
theorem zfD{d:D}{s:Stt}{m:MS}:((RS.ex d s).sq m:RS)= .ex d s:=(rfl)
end Mi
set_option maxHeartbeats 4000000
namespace Mi
open PySem L2
end Mi
set_option maxHeartbeats 40000
namespace Mi
open PySem L2
section
variable{α β:Type}{m ma mb mc:M D}{s:Stt}{ms:List (M D)}{σ tm l:List (Option D)}{n i j k p:Nat}{x y z u d:D}{g g2:D->D->M D}{h:List D->M D}
variable{a0 a1 a2 a3 a4 a5 a6 a7 a8 a9 a10 a11 a12 a13 a14 a15 v:Option D}
theorem qg1:(a0::a1::l)[1]? =some a1:=(rfl)
theorem qg2:(a0::a1::a2::l)[2]? =some a2:=(rfl)
theorem qg3:(a0::a1::a2::a3::l)[3]? =some a3:=(rfl)
theorem qg4:(a0::a1::a2::a3::a4::l)[4]? =some a4:=(rfl)
theorem qg5:(a0::a1::a2::a3::a4::a5::l)[5]? =some a5:=(rfl)
theorem qg6:(a0::a1::a2::a3::a4::a5::a6::l)[6]? =some a6:=(rfl)
theorem qg7:(a0::a1::a2::a3::a4::a5::a6::a7::l)[7]? =some a7:=(rfl)
theorem qg8:(a0::a1::a2::a3::a4::a5::a6::a7::a8::l)[8]? =some a8:=(rfl)
theorem qh1:(a0::a1::l).set 1 v=a0::v::l:=(rfl)
theorem qh2:(a0::a1::a2::l).set 2 v=a0::a1::v::l:=(rfl)
theorem qh3:(a0::a1::a2::a3::l).set 3 v=a0::a1::a2::v::l:=(rfl)
theorem qh4:(a0::a1::a2::a3::a4::l).set 4 v=a0::a1::a2::a3::v::l:=(rfl)
theorem qh5:(a0::a1::a2::a3::a4::a5::l).set 5 v=a0::a1::a2::a3::a4::v::l:=(rfl)
theorem qh6:(a0::a1::a2::a3::a4::a5::a6::l).set 6 v=a0::a1::a2::a3::a4::a5::v::l:=(rfl)
theorem qh8:(a0::a1::a2::a3::a4::a5::a6::a7::a8::l).set 8 v=a0::a1::a2::a3::a4::a5::a6::a7::v::l:=(rfl)
theorem ov:mVar i s=match s.σ[i]? with|some (some t)=> .ok t s|_=> .no:=rfl
noncomputable def cv(g:D->D->M D)(a:D)(b:Option (Option D))(s:Stt):Res D:=match b with
 |some (some b)=>g a b s
 |_=> .no
theorem zbF:cv g x (some (some y)) s=g x y s:=(rfl)
theorem x_bC:mBin m (mC y) g s=(m s).bnd fun x s1=>g x y s1:=by
 rw[zbv];cases m s<;>rfl
theorem x_bV:mBin m (mVar j) g s=(m s).bnd fun x s1=>cv g x s1.σ[j]? s1:=by
 rw[zbv];cases m s with
 |ok x s1=>rw[z2Y,z2Y];unfold mVar cv;dsimp only[Stt.psh];cases s1.σ[j]? with
  |none=>rfl
  |some o=>cases o<;>rfl
 |ex d s1=>rfl
 |no=>rfl
noncomputable def qc1(h:List D->M D)(a:Option (Option D))(s:Stt):Res D:=match a with
 |some (some a)=>h [a] s
 |_=> .no
theorem z9P:qc1 h (some (some x)) s=h [x] s:=(rfl)
theorem x_c1:mCB [mVar i] h ⟨σ,tm,n⟩=qc1 h σ[i]? ⟨σ,tm,n⟩:=by
 rw[x_cb];unfold mVar qc1 z02 bd;dsimp only
 cases σ[i]? with
 |none=>rfl
 |some o=>cases o<;>rfl
theorem zaj:z02 [m] s=(m s).bnd fun x s1=> .ok [x] s1:=by
 rw[z3f];cases m s<;>rfl
noncomputable def qa1(a:Option (Option D))(s:Stt):Res (List D):=match a with
 |some (some a)=> .ok [a] s
 |_=> .no
theorem x_a1:z02 [mVar i] ⟨σ,tm,n⟩=qa1 σ[i]? ⟨σ,tm,n⟩:=by
 rw[zaj];unfold mVar qa1;dsimp only
 cases σ[i]? with
 |none=>rfl
 |some o=>cases o<;>rfl
noncomputable def qa2(a b:Option (Option D))(s:Stt):Res (List D):=match a,b with
 |some (some a),some (some b)=> .ok [a,b] s
 |_,_=> .no
theorem z9Q:qa2 (some (some x)) (some (some y)) s= .ok [x,y] s:=(rfl)
theorem x_a2:z02 [mVar i,mVar j] ⟨σ,tm,n⟩=qa2 σ[i]? σ[j]? ⟨σ,tm,n⟩:=by
 rw[z3f];unfold mVar qa2;dsimp only
 cases σ[i]? with
 |none=>rfl
 |some o=>cases o with
  |none=>rfl
  |some a=>rw[z2Y];show Res.bnd _ (z02 [mVar j] ⟨σ,_,_⟩)=_;rw[x_a1];unfold qa1;cases σ[j]? with
   |none=>rfl
   |some o=>cases o<;>rfl
noncomputable def qa3(a b c:Option (Option D))(s:Stt):Res (List D):=match a,b,c with
 |some (some a),some (some b),some (some c)=> .ok [a,b,c] s
 |_,_,_=> .no
theorem x_a3:z02 [mVar i,mVar j,mVar k] ⟨σ,tm,n⟩=qa3 σ[i]? σ[j]? σ[k]? ⟨σ,tm,n⟩:=by
 rw[z3f];unfold mVar qa3;dsimp only
 cases σ[i]? with
 |none=>rfl
 |some o=>cases o with
  |none=>rfl
  |some a=>rw[z2Y];show Res.bnd _ (z02 [mVar j,mVar k] ⟨σ,_,_⟩)=_;rw[x_a2];unfold qa2;cases σ[j]? with
   |none=>rfl
   |some o=>cases o with
    |none=>rfl
    |some b=>cases σ[k]? with
     |none=>rfl
     |some o=>cases o<;>rfl
noncomputable def qa4(a b c d:Option (Option D))(s:Stt):Res (List D):=match a,b,c,d with
 |some (some a),some (some b),some (some c),some (some d)=> .ok [a,b,c,d] s
 |_,_,_,_=> .no
theorem z9R:qa4 (some (some x)) (some (some y)) (some (some z)) (some (some u)) s= .ok [x,y,z,u] s:=(rfl)
theorem x_a4:z02 [mVar i,mVar j,mVar k,mVar p] ⟨σ,tm,n⟩=qa4 σ[i]? σ[j]? σ[k]? σ[p]? ⟨σ,tm,n⟩:=by
 rw[z3f];unfold mVar qa4;dsimp only
 cases σ[i]? with
 |none=>rfl
 |some o=>cases o with
  |none=>rfl
  |some a=>rw[z2Y];show Res.bnd _ (z02 [mVar j,mVar k,mVar p] ⟨σ,_,_⟩)=_;rw[x_a3];unfold qa3;cases σ[j]? with
   |none=>rfl
   |some o=>cases o with
    |none=>rfl
    |some b=>cases σ[k]? with
     |none=>rfl
     |some o=>cases o with
      |none=>rfl
      |some c=>cases σ[p]? with
       |none=>rfl
       |some o=>cases o<;>rfl
theorem zfE:z02 [mVar i,mC y] ⟨σ,tm,n⟩=qa2 σ[i]? (some (some y)) ⟨σ,tm,n⟩:=by
 rw[z3f];unfold mVar qa2;dsimp only
 cases σ[i]? with
 |none=>rfl
 |some o=>cases o<;>rfl
theorem zfF:sAsg (.nm i) m s=(m s).lf fun d s1=> .nx ⟨s1.σ.set i (some d),s1.tm,s1.n⟩:=by
 rw[zdN];cases m s<;>rfl
end
theorem z4G{t:D}{l n' n:Nat}{b b' r:List D}{σ tm:List (Option D)}{σ1 tm1:D->List (Option D)}(hb:labsL b=[])(hb':labsL b'=[])(hr:labsL r=[])(f1: ∀q,rpO (pl l q) σ=σ1 q)(f2: ∀q,rpO (pl l q) tm=tm1 q)(e1:σ1 (.lst l b)=σ:=by rfl)(e2:tm1 (.lst l b)=tm:=by rfl):
 z2a (.ok t (.lst l b'::r) n') (.lst l b::r) ⟨σ,tm,n⟩= .ok t ⟨σ1 (.lst l b'),tm1 (.lst l b'),n'⟩:=by
 rw[z1L hb hb' hr ((f1 _).trans e1) ((f2 _).trans e2),f1,f2]
end Mi
set_option maxHeartbeats 1000000
namespace Mi
open PySem L2
section
variable{m mo me:M D}{ms:List (M D)}{f:FM}{a cn mn:Str}{ok:Str->Bool}{s:Stt}
theorem zfG:mFld m a ok s=(m s).bnd (fldD a ok):=(rfl)
theorem z9S{l:Nat}{c:Str}{ns:List Str}{vs:List D}{d:D}(h1:ok c=true)(h2:fndN ns vs a=some d):fldD a ok (.obj l c ns vs) s= .ok d s:=by simp only[fldD,h1,h2,if_true]
theorem zdU:z5D me mo a ok s=(me s).lf fun v s1=>(mo (s1.psh v)).lf fun o s2=>(pop s2).lf fun v' s3=>z4k a ok o v' s3:=(rfl)
theorem z5O{l:Nat}{c:Str}{ns:List Str}{vs:List D}{v:D}(h:ok c=true/\ns.length<1000/\l∉labs v):z4k a ok (.obj l c ns vs) v s= .nx (s.put l (.obj l c (putN ns vs a v).1 (putN ns vs a v).2)):=by simp only[z4k,if_pos h]
theorem zfH:mMth cn mn f mo ms s=(mo s).bnd fun x=>iteM (objC cn mn x) (z9G f ms x) fl:=by
 unfold mMth bd Res.bnd
 cases mo s with
 |ok x s1=>dsimp only;cases objC cn mn x<;>rfl
 |ex d s1=>rfl
 |no=>rfl
theorem zdV{x:D}:z9G f ms x s=(z02 ms (s.psh x)).bnd fun ys s1=>(pop s1).bnd fun x' s2=>z2a (f (x'::ys) s2.n) (x'::ys) s2:=(rfl)
theorem zdW:z61 cn f ms s=(z02 ms s).bnd (mkK cn f):=(rfl)
theorem z5c{c:M Bool}{b:MS}{f:Nat}{s s1 s2:Stt}(hc:c s= .ok true s1)(hb:b s1= .nx s2):z0Z c b (f+1) s=z0Z c b f s2:=by
 rw[z0Z];unfold lift;rw[hc];dsimp only;unfold iteS;simp only[hb,if_true]
theorem z48{c:M Bool}{b:MS}{f:Nat}{s s1:Stt}(hc:c s= .ok false s1):z0Z c b (f+1) s= .nx s1:=by
 rw[z0Z];unfold lift;rw[hc];rfl
end
theorem z0s{t:D}{ts ts':List D}{n' n:Nat}{σ tm:List (Option D)}(hs: ∀k∈labsL ts,(findL k ts').isSome=true)(h0:ts'=ts->rpO (fun k=>findL k ts') σ=σ/\rpO (fun k=>findL k ts') tm=tm):
 z2a (.ok t ts' n') ts ⟨σ,tm,n⟩= .ok t ⟨rpO (fun k=>findL k ts') σ,rpO (fun k=>findL k ts') tm,n'⟩:=by
 unfold z2a
 by_cases h:ts'=ts
 ·simp only[if_pos h,(h0 h).1,(h0 h).2]
 ·simp only[if_neg h]
  rw[if_pos fun k _ hk=>hs k hk]
theorem z3t{K:ItK}{g:Tg}{b:MS}{f i:Nat}{s s':Stt}{d:D}{σ':List (Option D)}(h1:K.at' i s.tm=some (some d))(h2:asg g d s.σ=some σ')(h3:b {s with σ:=σ'}= .nx s'):forGo K g b (f+1) i s=forGo K g b f (i+1) s':=by
 conv=>lhs;unfold forGo
 simp only[h1,h2,h3]
theorem z5d{K:ItK}{g:Tg}{b:MS}{f i:Nat}{s:Stt}(h1:K.at' i s.tm=some none):forGo K g b f i s= .nx (s.popn K.k):=by
 unfold forGo
 simp only[h1]
theorem zdX{mo:M D}{ms:List (M D)}{f:FM}{cn mn:Str}{s:Stt}:z7s cn mn f mo ms s=(mo s).bnd fun x=>iteM (objC cn mn x) (z6G f ms x) fl:=by
 unfold z7s bd Res.bnd
 cases mo s with
 |ok x s1=>dsimp only;cases objC cn mn x<;>rfl
 |ex d s1=>rfl
 |no=>rfl
theorem zbG{ms:List (M D)}{f:FM}{x:D}{s:Stt}:z6G f ms x s=(z02 ms (s.psh x)).bnd fun ys s1=>(pop s1).bnd fun x' s2=>z3M (f (x'::ys) s2.n) (x'::ys) s2:=(rfl)
end Mi
namespace My
open PySem L2 Mi
theorem BA{a b:Prop}(h:a)(k:b):a/\b:=⟨h,k⟩
noncomputable def B_0:=BA (BA (BA (BA (BA (BA @zf9 @x_bd) (BA @z2Y (BA @zf5 @z2g))) (BA (BA @zf6 (BA @x_rt @zdB)) (BA @zfa (BA @zfb @z9N)))) (BA (BA (BA @zfc (BA @x_C @zbv)) (BA @zfd (BA @zaf @zdC))) (BA (BA @x_tB (BA @zfe @x_or)) (BA @zff (BA @zag @zfg))))) (BA (BA (BA (BA @zdD (BA @x_it @x_if)) (BA @zbw (BA @z3f @x_cb))) (BA (BA @zdE (BA @z8B @zfh)) (BA @zdF (BA @zbx @zfi)))) (BA (BA (BA @z8C (BA @zby @zbz)) (BA @zdG (BA @x_sl @zdH))) (BA (BA @zfj (BA @y_lt @y_le)) (BA @y_gt (BA @y_ge @zfk)))))) (BA (BA (BA (BA (BA @zfl @zfm) (BA @zfn (BA @zfo @zdJ))) (BA (BA @zdK (BA @zdL @zfp)) (BA @zfq (BA @zfr @zdM)))) (BA (BA (BA @zbA (BA @z2D @zft)) (BA @zai (BA @zbB @zfu))) (BA (BA @x_sT (BA @x_sF @z8G)) (BA @zdN (BA @zfv @zdO))))) (BA (BA (BA (BA @zfw (BA @z7w @zf7)) (BA @zf8 (BA @z8A @List.map_cons.{0,0}))) (BA (BA @List.map_nil.{0,0} (BA @List.nil_append.{0} @List.cons_append.{0})) (BA @List.append_nil.{0} (BA @List.getElem?_cons_zero.{0} @List.getElem?_cons_succ.{0})))) (BA (BA (BA @List.getElem?_nil.{0} (BA @List.set_cons_zero.{0} @List.set_cons_succ.{0})) (BA @List.length_cons.{0} (BA @List.length_nil.{0} @Option.map_some.{0,0}))) (BA (BA @Option.map_none.{0,0} (BA @Bool.not_true @Bool.not_false)) (BA @beq_self_eq_true.{0} (BA @Nat.zero_add @Nat.sub_self))))))
local macro_rules | `(tactic| walk_at "") => `(tactic| (simp (config := { dsimp := false }) only [B_0, isiD, z03, asg, asgL, List.replicate, Nat.reduceAdd, Nat.reduceSub, String.reduceBEq]))
noncomputable def isInt:D->Bool
 | .int _=>true
 |_=>false
noncomputable def inR(lo hi:Int):D->Bool
 | .int i=>decide (lo<=i)&&decide (i<=hi)
 |_=>false
theorem zdY(t:D)(n:Nat)(h:plain t=true):z1m [t] n= .ok (.bool (isInt t)) [t] n:=by
 unfold z1m z1V
 cases t<;>first|(simp[Mi.plain] at h;done)|(walk_at "";first|done|rfl)
theorem zak(t:D)(lo hi:Int)(n:Nat)(h:plain t=true):z1d [t, .int lo, .int hi] n= .ok (.bool (inR lo hi t)) [t, .int lo, .int hi] n:=by
 unfold z1d z2f
 walk_at ""
 rw[zdY t n h]
 cases t<;>(try simp only[isInt,inR])<;>walk_at "" <;>try rfl
 rename_i i
 by_cases h1:lo<=i
 ·simp only[h1,decide_true];walk_at "";simp
 ·simp only[h1,decide_false];walk_at "";simp
theorem at0{a:D}{l:List D}:atI (a::l) 0=some a:=z2t (by decide) rfl
theorem at1{a b:D}{l:List D}:atI (a::b::l) 1=some b:=z2t (by decide) rfl
theorem zfI{i j:Int}{s:Stt}:eqD (.int i) (.int j) s= .ok (.bool (i==j)) s:=by
 rw[y_eq (by simp[eqC,Mi.plain,er,PyData.canLay0,PyData.depth])];simp only[er,PyData.eqv]
theorem c0:((0:Nat):Int)=0:=rfl
theorem c1:((1:Nat):Int)=1:=rfl
theorem c2:((2:Nat):Int)=2:=rfl
theorem c3:((3:Nat):Int)=3:=rfl
theorem c4:((4:Nat):Int)=4:=rfl
noncomputable def Gd(t:D):Prop:=plain t=true/\(er t).canLay0=true
noncomputable def GdL(ds:List D):Prop:=plainL ds=true/\PyData.canLayAll0 (erL ds)=true
theorem Gd.tup{ds:List D}:Gd (.tup ds)↔GdL ds:=by simp only[Gd,GdL,Mi.plain,er,PyData.canLay0]
theorem Gd.lst{l:Nat}{ds:List D}:Gd (.lst l ds)↔GdL ds:=by simp only[Gd,GdL,Mi.plain,er,PyData.canLay0]
theorem GdL.cons{d:D}{ds:List D}:GdL (d::ds)↔Gd d/\GdL ds:=by
 simp only[Gd,GdL,plainL,erL,PyData.canLayAll0,Bool.and_eq_true]
 constructor
 ·rintro ⟨⟨a,b⟩,c,d⟩;exact⟨⟨a,c⟩,b,d⟩
 ·rintro ⟨⟨a,c⟩,b,d⟩;exact⟨⟨a,b⟩,c,d⟩
noncomputable def zdZ(x:Str):D->Bool
 | .str y=>y==x
 |_=>false
theorem eq_str{t:D}{x:Str}{s:Stt}(g:Gd t)(h:PyData.strOk x=true):eqD t (.str x) s= .ok (.bool (zdZ x t)) s:=by
 have e:eqC t (.str x)=true:=by
  simp only[eqC,g.1,g.2,Mi.plain,er,PyData.canLay0,h,Bool.true_and,decide_eq_true_eq]
  simp[PyData.depth]
 rw[y_eq e]
 cases t<;>simp[er,PyData.eqv,zdZ]
theorem zl:sizeLine=16777216:=rfl
section
variable{a b c d:D}{s:Stt}
theorem t0:tupD [] s= .ok (.tup []) s:=z8F (by decide)
theorem t1:tupD [a] s= .ok (.tup [a]) s:=z8F (by rw[zl];simp)
theorem t2:tupD [a,b] s= .ok (.tup [a,b]) s:=z8F (by rw[zl];simp)
theorem t3:tupD [a,b,c] s= .ok (.tup [a,b,c]) s:=z8F (by rw[zl];simp)
theorem t4:tupD [a,b,c,d] s= .ok (.tup [a,b,c,d]) s:=z8F (by rw[zl];simp)
theorem k0{σ tm:List (Option D)}{n:Nat}:lstM [] ⟨σ,tm,n⟩= .ok (.lst n []) ⟨σ,tm,n+1⟩:=z67 (by rw[zl];simp)
theorem k1{σ tm:List (Option D)}{n:Nat}:lstM [a] ⟨σ,tm,n⟩= .ok (.lst n [a]) ⟨σ,tm,n+1⟩:=z67 (by rw[zl];simp)
theorem k2{σ tm:List (Option D)}{n:Nat}:lstM [a,b] ⟨σ,tm,n⟩= .ok (.lst n [a,b]) ⟨σ,tm,n+1⟩:=z67 (by rw[zl];simp)
theorem k3{σ tm:List (Option D)}{n:Nat}:lstM [a,b,c] ⟨σ,tm,n⟩= .ok (.lst n [a,b,c]) ⟨σ,tm,n+1⟩:=z67 (by rw[zl];simp)
theorem k4{σ tm:List (Option D)}{n:Nat}:lstM [a,b,c,d] ⟨σ,tm,n⟩= .ok (.lst n [a,b,c,d]) ⟨σ,tm,n+1⟩:=z67 (by rw[zl];simp)
end
noncomputable def B_1:=BA (BA (BA (BA @t0 @t1) (BA @t2 (BA @t3 @k0))) (BA (BA @k1 (BA @k2 @k4)) (BA @Bool.or_false (BA @Bool.false_or @Bool.true_or)))) (BA (BA (BA @Bool.or_true (BA @Bool.and_true @Bool.true_and)) (BA @Bool.and_false (BA @Bool.false_and @at0))) (BA (BA @at1 (BA @zfI @z4D)) (BA @z0g (BA @z4E @z0o))))
noncomputable def B_2:=BA @z9O @z6L
local macro_rules | `(tactic| walk_at "") => `(tactic| (simp (config := { dsimp := false }) only [B_0, B_1, B_2, isiD, z03, asg, asgL, List.replicate, Nat.reduceAdd, Nat.reduceSub, String.reduceBEq, Int.reduceBEq]))
noncomputable def Bg(c x:Int):Prop:=0<=c/\0<=x/\x<2147483647
theorem z3h(l:Nat)(c x top:Int)(n:Nat)(h:Bg c x)(ht:0<top)(ht':top<10000000000000000000000000000000): ∃r c' x',0<=r/\r<top/\Bg c' x'/\z0A [.lst l [.int c, .int x], .int top] n= .ok (.int r) [.lst l [.int c', .int x'], .int top] n:=by
 unfold z0A z57
 obtain⟨h0,h1,h2⟩:=h
 by_cases hc:0<c
 ·refine⟨c %top,c/top,x,Int.emod_nonneg _ (by lia),Int.emod_lt_of_pos _ ht,⟨Int.ediv_nonneg h0 (by lia),h1,h2⟩, ?_⟩
  walk_at ""
  simp only[hc,decide_true]
  walk_at ""
  rw[z5a ht]
  walk_at ""
  rw[zah ⟨ht,by lia⟩]
  walk_at ""
  rw[zbC (j:=0) rfl (by simp[labs])]
  walk_at ""
 ·have hx0:=Int.emod_nonneg (x*48271+7919) (show(2147483647:Int)≠0 by decide)
  have hx1:=Int.emod_lt_of_pos (x*48271+7919) (show(0:Int)<2147483647 by decide)
  generalize hy:(x*48271+7919) %2147483647=y at hx0 hx1
  refine⟨(y^(3:Int).toNat %2147483587/7*69621 %1073741789) %top,c,y,Int.emod_nonneg _ (by lia),Int.emod_lt_of_pos _ ht,⟨h0,hx0,hx1⟩, ?_⟩
  walk_at ""
  simp only[hc,decide_false]
  walk_at ""
  rw[z8D (.inl ⟨by lia,by lia⟩)]
  walk_at ""
  rw[z5a (by decide),hy]
  walk_at ""
  rw[zbC (j:=1) rfl (by simp[labs])]
  walk_at ""
  rw[z8E ⟨by decide,by decide,by lia⟩]
  walk_at ""
  rw[z5a (by decide)]
  walk_at ""
  rw[zah ⟨by decide,by decide⟩]
  walk_at ""
  rw[z8D (.inr ⟨by decide,by decide⟩)]
  walk_at ""
  rw[z5a (by decide)]
  walk_at ""
  rw[z5a ht]
  walk_at ""
noncomputable def B_3:=BA (BA @zdP @zdQ) (BA @zdR @Int.zero_add)
local macro_rules | `(tactic| walk_at "") => `(tactic| (simp (config := { dsimp := false }) only [B_0, B_1, B_2, B_3, isiD, z03, asg, asgL, List.replicate, Nat.reduceAdd, Nat.reduceSub, String.reduceBEq, Int.reduceBEq]))
theorem zal{ns:List Int}{a:Nat}(h:a<ns.length):atI (ns.map D.int) (a:Int)=some (.int ns[a]):=z2t (by lia) (by simp[h])
theorem zam(ns:List Int)(a n:Nat)(ha:a<1000)(hl:ns.length<1000): ∃c x,Bg c x/\z2A [.ro (ns.map .int), .int a] n= .ok (.lst n [.int c, .int x]) [.ro (ns.map .int), .int a] (n+1):=by
 unfold z2A z66
 walk_at ""
 have key: ∃c:Int,0<=c/\iteS (decide ((a:Int)<((ns.map D.int).length:Int))) (sAsg (Tg.nm 2) (mCB [mBin (mVar 0) (mVar 1) ixD] absD)) sNx ⟨[some (.ro (ns.map .int)),some (.int a),some (.int 0),none,none],[some (.ro (ns.map .int)),some (.int a)],n⟩= .nx ⟨[some (.ro (ns.map .int)),some (.int a),some (.int c),none,none],[some (.ro (ns.map .int)),some (.int a)],n⟩:=by
  by_cases h:a<ns.length
  ·refine⟨if ns[a]<0 then -ns[a] else ns[a], ?_, ?_⟩
   rotate_left
   ·rw[show decide ((a:Int)<((ns.map D.int).length:Int))=true by simp[h]]
    walk_at ""
    rw[zal h]
    walk_at ""
   ·split<;>lia
  ·refine⟨0,by decide, ?_⟩
   rw[show decide ((a:Int)<((ns.map D.int).length:Int))=false by simp;lia]
   walk_at ""
 obtain⟨c,hc,e1⟩:=key
 rw[e1]
 walk_at ""
 rw[z5a (by decide)]
 walk_at ""
 rw[z8D (.inl ⟨by decide,by decide⟩)]
 walk_at ""
 have q0:=Int.emod_nonneg c (show(2147483629:Int)≠0 by decide)
 have q1:=Int.emod_lt_of_pos c (show(0:Int)<2147483629 by decide)
 rw[z8E ⟨by decide,by decide,by lia⟩]
 walk_at ""
 rw[z5a (by decide)]
 walk_at ""
 have w0:((ns.map D.int).length:Int)=ns.length:=by simp
 rw[w0]
 generalize hk:(if(60:Int)<(ns.length:Int) then(60:Int) else(ns.length:Int))=k
 have hk0:0<=k/\k<=60/\k<=ns.length:=by split at hk<;>lia
 rw[z4F ⟨by lia,by lia⟩]
 walk_at ""
 have p0:=Int.emod_nonneg ((c %2147483629+104729*(a:Int)+17)^(5:Int).toNat) (show(2147483647:Int)≠0 by decide)
 have p1:=Int.emod_lt_of_pos ((c %2147483629+104729*(a:Int)+17)^(5:Int).toNat) (show(0:Int)<2147483647 by decide)
 generalize (c %2147483629+104729*(a:Int)+17)^(5:Int).toNat %2147483647=x0 at p0 p1
 obtain⟨s',e2,x,o,hx0,hx1,rfl⟩:=z68 (P:=fun i s=> ∃(x:Int) (o:Option D),0<=x/\x<2147483647/\s=⟨[some (.ro (ns.map .int)),some (.int a),some (.int c),some (.int x),o],[some (.ro (ns.map .int)),some (.int a)],n⟩) (lo:=0) (N:=k.toNat) (g:= .nm 4) (b:=sAsg (.nm 3) (mBin (mBin (mBin (mBin (mVar 3) (mC (.int 48271)) mulD) (mBin (mBin (mBin (mVar 0) (mVar 4) ixD) (mC (.int 2147483587)) modD) (mBin (mVar 4) (mC (.int 3)) addD) mulD) addD) (mVar 4) addD) (mC (.int 2147483629)) modD)) (by
  rintro i hi s ⟨x,o,h0,h1,rfl⟩
  have hi':i<ns.length:=by lia
  refine⟨[some (.ro (ns.map .int)),some (.int a),some (.int c),some (.int x),some (.int i)],by simp only[Int.zero_add];rfl, ?_⟩
  refine⟨⟨[some (.ro (ns.map .int)),some (.int a),some (.int c),some (.int ((x*48271+ns[i] %2147483587*(i+3)+i) %2147483629)),some (.int i)],[some (.ro (ns.map .int)),some (.int a)],n⟩, ?_, ?_⟩
  ·walk_at ""
   rw[z8D (.inl ⟨by lia,by lia⟩)]
   walk_at ""
   rw[zal hi']
   walk_at ""
   rw[z5a (by decide)]
   walk_at ""
   rw[z8D (.inr ⟨by lia,by lia⟩)]
   walk_at ""
   rw[z5a (by decide)]
   walk_at ""
  ·have r0:=Int.emod_nonneg (x*48271+ns[i] %2147483587*(i+3)+i) (show(2147483629:Int)≠0 by decide)
   have r1:=Int.emod_lt_of_pos (x*48271+ns[i] %2147483587*(i+3)+i) (show(0:Int)<2147483629 by decide)
   exact⟨_,_,r0,by lia,rfl⟩) k.toNat 0 ⟨[some (.ro (ns.map .int)),some (.int a),some (.int c),some (.int x0),none],[some (.ro (ns.map .int)),some (.int a)],n⟩ (by lia) ⟨x0,none,p0,p1,rfl⟩
 rw[e2]
 walk_at ""
 rw[z8E ⟨by decide,by decide,by decide⟩]
 walk_at ""
 by_cases h:c<10^(18:Int).toNat
 ·refine⟨0,x,⟨by decide,hx0,hx1⟩, ?_⟩
  simp only[h,decide_true]
  walk_at ""
 ·refine⟨c,x,⟨hc,hx0,hx1⟩, ?_⟩
  simp only[h,decide_false]
  walk_at ""
mutual
noncomputable def Rs(n:Nat):D->Bool
 | .non=>true| .bool _=>true| .int _=>true| .str x=>PyData.strOk x
 | .tup ds=>decide (ds.length<=2000)&&RsL n ds
 | .lst l ds=>decide (n<=l)&&(decide (ds.length<=2000)&&RsL n ds)
 | .ro _=>false| .dct _ _ _=>false| .obj _ _ _ _=>false| .exc _=>false| .fn _=>false| .fdc _ _=>false
noncomputable def RsL(n:Nat):List D->Bool
 |[]=>true
 |d::ds=>Rs n d&&RsL n ds
end
noncomputable def Up(m:Nat)(t:D):Prop:= ∀k∈labs t,k<m
theorem ze0{α:Type}{ds:List α}{r:Int}(h0:0<=r)(h1:r<ds.length): ∃d∈ds,atI ds r=some d:=by
 have h:r.toNat<ds.length:=by lia
 exact⟨ds[r.toNat],List.getElem_mem h,z2t h0 (by simp[h])⟩
theorem z0C{n:Nat}: ∀{ds:List D},RsL n ds=true↔∀d∈ds,Rs n d=true
 |[]=>by simp[RsL]
 |d::ds=>by simp only[RsL,Bool.and_eq_true,z0C (ds:=ds),List.forall_mem_cons]
theorem z2E{k:Nat}: ∀{ds:List D},PyData.depthAll (erL ds)<=k↔∀d∈ds,(er d).depth<=k
 |[]=>by simp[erL,PyData.depthAll]
 |d::ds=>by simp only[erL,PyData.depthAll,List.forall_mem_cons,<-z2E (ds:=ds)];lia
mutual
theorem zfJ{n:Nat}: ∀t:D,Rs n t=true->Gd t
 | .non,_=>⟨rfl,rfl⟩
 | .bool _,_=>⟨rfl,rfl⟩
 | .int _,_=>⟨rfl,rfl⟩
 | .str _,h=>⟨rfl,by simpa[Rs,er,PyData.canLay0] using h⟩
 | .tup ds,h=>by simp only[Rs,Bool.and_eq_true] at h;exact Gd.tup.mpr (RsL_gd ds h.2)
 | .lst _ ds,h=>by simp only[Rs,Bool.and_eq_true] at h;exact Gd.lst.mpr (RsL_gd ds h.2.2)
 | .ro _,h=>by simp[Rs] at h
 | .dct _ _ _,h=>by simp[Rs] at h
 | .obj _ _ _ _,h=>by simp[Rs] at h
 | .exc _,h=>by simp[Rs] at h
 | .fn _,h=>by simp[Rs] at h
 | .fdc _ _,h=>by simp[Rs] at h
theorem RsL_gd{n:Nat}: ∀t:List D,RsL n t=true->GdL t
 |[],_=>⟨rfl,rfl⟩
 |d::ds,h=>by simp only[RsL,Bool.and_eq_true] at h;exact GdL.cons.mpr ⟨zfJ d h.1,RsL_gd ds h.2⟩
end
mutual
theorem z0J{n k:Nat}: ∀t:D,Rs n t=true->k∈labs t->n<=k
 | .non,_,h=>by simp[labs] at h
 | .bool _,_,h=>by simp[labs] at h
 | .int _,_,h=>by simp[labs] at h
 | .str _,_,h=>by simp[labs] at h
 | .tup ds,h,m=>by simp only[Rs,Bool.and_eq_true] at h;simp only[labs] at m;exact RsL_low ds h.2 m
 | .lst _ ds,h,m=>by
  simp only[Rs,Bool.and_eq_true,decide_eq_true_eq] at h
  simp only[labs,List.mem_cons] at m
  rcases m with rfl|m
  ·exact h.1
  ·exact RsL_low ds h.2.2 m
 | .ro _,h,_=>by simp[Rs] at h
 | .dct _ _ _,h,_=>by simp[Rs] at h
 | .obj _ _ _ _,h,_=>by simp[Rs] at h
 | .exc _,h,_=>by simp[Rs] at h
 | .fn _,h,_=>by simp[Rs] at h
 | .fdc _ _,h,_=>by simp[Rs] at h
theorem RsL_low{n k:Nat}: ∀t:List D,RsL n t=true->k∈labsL t->n<=k
 |[],_,h=>by simp[labsL] at h
 |d::ds,h,m=>by
  simp only[RsL,Bool.and_eq_true] at h
  simp only[labsL,List.mem_append] at m
  rcases m with m|m
  ·exact z0J d h.1 m
  ·exact RsL_low ds h.2 m
end
mutual
theorem z3i{n m:Nat}(h:m<=n): ∀t:D,Rs n t=true->Rs m t=true
 | .non,_=>rfl
 | .bool _,_=>rfl
 | .int _,_=>rfl
 | .str _,h=>by simpa[Rs] using h
 | .tup ds,h=>by simp only[Rs,Bool.and_eq_true] at h⊢;exact⟨h.1,RsL_mono ‹_› ds h.2⟩
 | .lst _ ds,h=>by simp only[Rs,Bool.and_eq_true,decide_eq_true_eq] at h⊢;exact⟨by lia,h.2.1,RsL_mono ‹_› ds h.2.2⟩
 | .ro _,h=>by simp[Rs] at h
 | .dct _ _ _,h=>by simp[Rs] at h
 | .obj _ _ _ _,h=>by simp[Rs] at h
 | .exc _,h=>by simp[Rs] at h
 | .fn _,h=>by simp[Rs] at h
 | .fdc _ _,h=>by simp[Rs] at h
theorem RsL_mono{n m:Nat}(h:m<=n): ∀t:List D,RsL n t=true->RsL m t=true
 |[],_=>rfl
 |d::ds,h=>by simp only[RsL,Bool.and_eq_true] at h⊢;exact⟨z3i ‹_› d h.1,RsL_mono ‹_› ds h.2⟩
end
theorem labsL_mem{k:Nat}: ∀{es:List D},k∈labsL es->∃e∈es,k∈labs e
 |e::es,h=>by
  simp only[labsL,List.mem_append] at h
  rcases h with h|h
  ·exact⟨e,List.mem_cons_self,h⟩
  ·obtain⟨e',h1,h2⟩:=labsL_mem h
   exact⟨e',List.mem_cons_of_mem _ h1,h2⟩
theorem ze1{m:Nat}{es:List D}(h: ∀e∈es,Up m e):Up m (.tup es):=fun k hk=>by
 simp only[labs] at hk
 obtain⟨e,h1,h2⟩:=labsL_mem hk
 exact h e h1 k h2
theorem ze2{m l:Nat}{es:List D}(hl:l<m)(h: ∀e∈es,Up m e):Up m (.lst l es):=fun k hk=>by
 simp only[labs,List.mem_cons] at hk
 rcases hk with rfl|hk
 ·exact hl
 ·obtain⟨e,h1,h2⟩:=labsL_mem hk
  exact h e h1 k h2
theorem z0L{k:Nat}: ∀{es:List D} {e:D},e∈es->k∈labs e->k∈labsL es
 |e::es,x,h,hk=>by
  simp only[labsL,List.mem_append]
  rcases List.mem_cons.mp h with rfl|h
  ·exact .inl hk
  ·exact .inr (z0L h hk)
theorem z69{y d:D}{s:Stt}(gy:Gd y)(gd:Gd d)(e:er y=er d)(hd:(er d).depth<=60):neD y d s= .ok (.bool false) s:=by
 rw[y_ne (by simp only[eqC,gy.1,gd.1,gy.2,gd.2,e,Bool.true_and,decide_eq_true_eq];lia),e,PySem.SeqAt.eqv_refl _ gd.2];rfl
theorem z07{f:Nat->Option D}{o:Option D}{r:List (Option D)}:rpO f (o::r)=o.map (rp f)::rpO f r:=by cases o<;>rfl
theorem k5{a b c d e:D}{σ tm:List (Option D)}{n:Nat}:lstM [a,b,c,d,e] ⟨σ,tm,n⟩= .ok (.lst n [a,b,c,d,e]) ⟨σ,tm,n+1⟩:=z67 (by rw[zl];simp)
theorem k6{a b c d e f:D}{σ tm:List (Option D)}{n:Nat}:lstM [a,b,c,d,e,f] ⟨σ,tm,n⟩= .ok (.lst n [a,b,c,d,e,f]) ⟨σ,tm,n+1⟩:=z67 (by rw[zl];simp)
theorem zfK{i j:Int}{s:Stt}:neD (.int i) (.int j) s= .ok (.bool (!(i==j))) s:=by
 rw[y_ne (by simp[eqC,Mi.plain,er,PyData.canLay0,PyData.depth])];simp only[er,PyData.eqv]
noncomputable abbrev Tre(l:Nat)(at_:D)(la:Nat)(as:List D)(ld:Nat)(ds:List D)(lu:Nat)(us:List D):D:= .obj l "Tree" ["at", "above", "deeds", "last_under"] [at_, .lst la as, .lst ld ds, .lst lu us]
section
variable{l la ld lu:Nat}{t:D}{as ds us:List D}{s:Stt}
theorem k_at:fldD "at" z3e (Tre l t la as ld ds lu us) s= .ok t s:=z9S (by decide) (by rfl)
theorem zbH:fldD "above" z0j (Tre l t la as ld ds lu us) s= .ok (.lst la as) s:=z9S (by decide) (by rfl)
theorem zbI:fldD "deeds" z1k (Tre l t la as ld ds lu us) s= .ok (.lst ld ds) s:=z9S (by decide) (by rfl)
theorem ze3:fldD "last_under" z0l (Tre l t la as ld ds lu us) s= .ok (.lst lu us) s:=z9S (by decide) (by rfl)
theorem zfL{i:Int}:z4k "at" z3e (Tre l t la as ld ds lu us) (.int i) s= .nx (s.put l (Tre l (.int i) la as ld ds lu us)):=z5O ⟨by decide,by decide,by simp[labs]⟩
end
theorem iaN:isiAny ["list", "tuple"] .non=some false:=(rfl)
theorem iaB{b:Bool}:isiAny ["list", "tuple"] (.bool b)=some false:=(rfl)
theorem iaI{i:Int}:isiAny ["list", "tuple"] (.int i)=some false:=(rfl)
theorem iaS{x:Str}:isiAny ["list", "tuple"] (.str x)=some false:=(rfl)
theorem iaT{ds:List D}:isiAny ["list", "tuple"] (.tup ds)=some true:=(rfl)
theorem iaL{l:Nat}{ds:List D}:isiAny ["list", "tuple"] (.lst l ds)=some true:=(rfl)
noncomputable def B_4:=BA (BA (BA (BA @qg1 (BA @qg2 @qg3)) (BA @qg4 (BA @qg5 @qg6))) (BA (BA @qg7 (BA @qg8 @qh1)) (BA @qh2 (BA @qh3 @qh4)))) (BA (BA (BA @qh5 (BA @qh6 @qh8)) (BA @x_bC (BA @x_bV @x_c1))) (BA (BA @x_a1 (BA @x_a2 @x_a3)) (BA (BA @x_a4 @zfE) (BA @zaj @zfF))))
noncomputable def B_5:=BA (BA (BA (BA (BA @zbF @z9P) (BA @z9Q @z9R)) (BA (BA @zfK @z07) (BA @zdS @zfx))) (BA (BA (BA @zfy @zfz) (BA @zbE @zfA)) (BA (BA @zdT @zfC) (BA @zfD @zfG)))) (BA (BA (BA (BA @zdU @zfH) (BA @zdV @zdW)) (BA (BA @k_at @zbH) (BA @zbI @ze3))) (BA (BA (BA @zfL @zdX) (BA @zbG @iaN)) (BA (BA @iaB @iaI) (BA @iaS (BA @iaT @iaL)))))
local macro_rules | `(tactic| walk_at "") => `(tactic| (simp (config := { dsimp := false }) only [B_0, B_1, B_3, ↓B_4, B_5, isiD, z03, asg, asgL, List.replicate, Nat.reduceAdd, Nat.reduceSub, String.reduceBEq, Int.reduceBEq]))
theorem z5e{l la ld lu:Nat}{t:D}{as ds us:List D}(n:Nat):z0e [Tre l t la as ld ds lu us] n= .ok t [Tre l t la as ld ds lu us] n:=by
 unfold z0e z1X
 walk_at ""
structure TL(l la ld lu:Nat)(as ds us:List D):Prop where
 n1:l≠la
 n2:l≠ld
 n3:l≠lu
 n4:la≠ld
 n5:la≠lu
 n6:ld≠lu
 ea:labsL as=[]
 eu:labsL us=[]
 ed: ∀k∈labsL ds,k≠l/\k≠la/\k≠ld/\k≠lu
theorem z8I{l la ld lu:Nat}{i:Int}{as ds us us':List D}(h:TL l la ld lu as ds us):rp (pl lu (.lst lu us')) (Tre l (.int i) la as ld ds lu us)=Tre l (.int i) la as ld ds lu us':=by
 have e1:rpL (pl lu (.lst lu us')) as=as:=rpL_id as fun k hk=>by rw[h.ea] at hk;cases hk
 have e2:rpL (pl lu (.lst lu us')) ds=ds:=rpL_id ds fun k hk=>by simp only[pl,if_neg (h.ed k hk).2.2.2]
 have p1:pl lu (.lst lu us') l=none:=if_neg h.n3
 have p2:pl lu (.lst lu us') la=none:=if_neg h.n5
 have p3:pl lu (.lst lu us') ld=none:=if_neg h.n6
 have p4:pl lu (.lst lu us') lu=some (.lst lu us'):=if_pos rfl
 simp only[Tre,rp,rpL,p1,p2,p3,p4,e1,e2]
theorem zbJ{l la ld lu:Nat}{t d:D}{as ds us:List D}:rp (pl l d) (Tre l t la as ld ds lu us)=d:=by simp only[Tre,rp,pl,if_true]
noncomputable def AS(ps:List Nat):List D:= .non::ps.map fun p:Nat=>D.int (p:Int)
noncomputable def oD:Option Nat->D
 |none=> .non
 |some k=> .int k
noncomputable def US(us:List (Option Nat)):List D:=us.map oD
noncomputable def par(ps:List Nat)(k:Nat):Nat:=ps.getD (k - 1) 0
noncomputable def z0f(ps:List Nat):Nat->List (Option Nat)->Nat->List (Option Nat)
 |0,us,_=>us
 |f+1,us,k=>if k=0 then us else z0f ps f (us.set (par ps k) (some k)) (par ps k)
theorem z8J(ps:List Nat):labsL (AS ps)=[]:=by
 unfold AS
 simp only[labsL,labs,List.nil_append]
 induction ps with
 |nil=>rfl
 |cons p ps ih=>simp only[List.map_cons,labsL,labs,ih,List.nil_append]
theorem z6a(us:List (Option Nat)):labsL (US us)=[]:=by
 unfold US
 induction us with
 |nil=>rfl
 |cons p ps ih=>cases p<;>simp only[List.map_cons,oD,labsL,labs,ih,List.nil_append]
theorem ze4{ps:List Nat}{k:Nat}(h0:0<k)(h:k<=ps.length):(AS ps)[k]? =some (.int (par ps k)):=by
 obtain⟨j,rfl⟩: ∃j,k=j+1:=⟨k - 1,by lia⟩
 have hj:j<ps.length:=by lia
 simp[AS,par,List.getElem?_map,List.getElem?_eq_getElem hj]
theorem z7y{l la ld lu k n:Nat}{i q:Int}{ps:List Nat}{ds:List D}{us:List (Option Nat)}(h:TL l la ld lu (AS ps) ds (US us))(h0:0<k)(hk:k<=ps.length)(hp:par ps k<us.length):
 (seqS (mTri (mVar 1) (mFld (mVar 0) "last_under" z0l) (mBin (mFld (mVar 0) "above" z0j) (mVar 1) ixD) setD) (sAsg (.nm 1) (mBin (mFld (mVar 0) "above" z0j) (mVar 1) ixD)))
  ⟨[some (Tre l (.int i) la (AS ps) ld ds lu (US us)),some (.int k)],[some (Tre l (.int i) la (AS ps) ld ds lu (US us)),some (.int q)],n⟩= .nx ⟨[some (Tre l (.int i) la (AS ps) ld ds lu (US (us.set (par ps k) (some k)))),some (.int (par ps k))],[some (Tre l (.int i) la (AS ps) ld ds lu (US (us.set (par ps k) (some k)))),some (.int q)],n⟩:=by
 have e1:atI (AS ps) (k:Int)=some (.int (par ps k)):=z2t (by lia) (ze4 h0 hk)
 have e2:ixN (US us).length (par ps k:Int)=some (par ps k):=by
  unfold ixN
  rw[if_pos (by lia),if_pos (by simp only[US,List.length_map];lia)]
  rfl
 have e3:(US us).set (par ps k) (.int k)=US (us.set (par ps k) (some k)):=by simp only[US,List.map_set,oD]
 walk_at ""
 rw[e1]
 walk_at ""
 rw[zbC e2 (by simp[labs]),e3,z4D]
 simp only[rpO,List.map_cons,List.map_nil,Option.map_some,z8I h,z0o]
 walk_at ""
 rw[e1]
 walk_at ""
theorem z4H{t:D}{k n:Nat}{r:List (Option D)}:(mBoo (mBin (mVar 1) (mC (.int 0)) gtD)) ⟨[some t,some (.int k)],r,n⟩= .ok (decide (0<k)) ⟨[some t,some (.int k)],r,n⟩:=by
 walk_at ""
 have e:decide ((0:Int)<(k:Int))=decide (0<k):=by simp
 first|rw[e]|skip
theorem z4I{l la ld lu n:Nat}{i q:Int}{ps:List Nat}{ds:List D}(hp: ∀k,0<k->k<=ps.length->par ps k<k): ∀(f k:Nat) (us:List (Option Nat)),TL l la ld lu (AS ps) ds (US us)->k<=ps.length->us.length=ps.length+1->k<f->
 z0Z (mBoo (mBin (mVar 1) (mC (.int 0)) gtD)) (seqS (mTri (mVar 1) (mFld (mVar 0) "last_under" z0l) (mBin (mFld (mVar 0) "above" z0j) (mVar 1) ixD) setD) (sAsg (.nm 1) (mBin (mFld (mVar 0) "above" z0j) (mVar 1) ixD))) f
  ⟨[some (Tre l (.int i) la (AS ps) ld ds lu (US us)),some (.int k)],[some (Tre l (.int i) la (AS ps) ld ds lu (US us)),some (.int q)],n⟩= .nx ⟨[some (Tre l (.int i) la (AS ps) ld ds lu (US (z0f ps f us k))),some (.int (0:Nat))],[some (Tre l (.int i) la (AS ps) ld ds lu (US (z0f ps f us k))),some (.int q)],n⟩
 |0,k,us,_,_,_,hf=>absurd hf (Nat.not_lt_zero _)
 |f+1,k,us,h,hk,hu,hf=>by
  by_cases h0:0<k
  ·have hq:=hp k h0 hk
   have c:=z4H (t:=Tre l (.int i) la (AS ps) ld ds lu (US us)) (k:=k) (n:=n) (r:=[some (Tre l (.int i) la (AS ps) ld ds lu (US us)),some (.int q)])
   rw[decide_eq_true h0] at c
   rw[z5c c (z7y h h0 hk (by lia)),z0f,if_neg (by lia)]
   exact z4I hp f (par ps k) _ ⟨h.n1,h.n2,h.n3,h.n4,h.n5,h.n6,h.ea,z6a _,h.ed⟩ (by lia) (by rw[List.length_set];exact hu) (by lia)
  ·have hz:k=0:=by lia
   subst hz
   have c:=z4H (t:=Tre l (.int i) la (AS ps) ld ds lu (US us)) (k:=0) (n:=n) (r:=[some (Tre l (.int i) la (AS ps) ld ds lu (US us)),some (.int q)])
   rw[decide_eq_false h0] at c
   rw[z48 c,z0f,if_pos rfl]
theorem z6M{l la ld lu n k:Nat}{t:Int}{ps:List Nat}{ds:List D}{us:List (Option Nat)}(hp: ∀k,0<k->k<=ps.length->par ps k<k)(h:TL l la ld lu (AS ps) ds (US us))(hk:k<=ps.length)(hu:us.length=ps.length+1)(hb:k<1000):
 z0m [Tre l (.int t) la (AS ps) ld ds lu (US us), .int k] n= .ok (.int k) [Tre l (.int k) la (AS ps) ld ds lu (US (z0f ps 1000 us k)), .int k] n:=by
 unfold z0m z17
 walk_at ""
 simp only[zbJ]
 unfold z2L
 rw[z4I hp 1000 k us h hk hu hb]
 walk_at ""
theorem z49{l la ld lu:Nat}{t t':D}{as as' ds ds' us us' r:List D}:rp (fun k=>findL k (Tre l t' la as' ld ds' lu us'::r)) (Tre l t la as ld ds lu us)=Tre l t' la as' ld ds' lu us':=by
 have e:findL l (Tre l t' la as' ld ds' lu us'::r)=some (Tre l t' la as' ld ds' lu us'):=by simp only[findL,Tre,findT,if_true]
 unfold Tre at e⊢
 rw[rp]
 simp only[e]
theorem z0h{k:Nat}{d:D}: ∀{ts:List D},d∈ts->(findT k d).isSome=true->(findL k ts).isSome=true
 |x::ts,h,e=>by
  rw[findL]
  rcases List.mem_cons.1 h with rfl|h
  ·cases f:findT k d with
   |none=>rw[f] at e;cases e
   |some z=>rfl
  ·cases f:findT k x with
   |none=>exact z0h h e
   |some z=>rfl
theorem z5f{l la ld lu k:Nat}{t:D}{i:Int}{as ds us ds' us' r:List D}(h:TL l la ld lu as ds us)(hd: ∀j∈labsL ds,(findL j ds').isSome=true)(hk:k∈labs (Tre l (.int i) la as ld ds lu us)):(findT k (Tre l t la as ld ds' lu us')).isSome=true:=by
 simp only[Tre,labs,labsL,h.ea,h.eu,List.append_nil,List.nil_append,List.mem_cons,List.mem_append,List.not_mem_nil,or_false] at hk
 unfold Tre
 rw[findT]
 by_cases e:l=k
 ·rw[if_pos e];rfl
 ·rw[if_neg e]
  rcases hk with hk|hk|(hk|hk)|hk
  ·exact absurd hk.symm e
  ·exact z0h (d:= .lst la as) (by simp) (by rw[findT,if_pos hk.symm];rfl)
  ·exact z0h (d:= .lst ld ds') (by simp) (by rw[findT,if_pos hk.symm];rfl)
  ·refine z0h (d:= .lst ld ds') (by simp) ?_
   rw[findT]
   by_cases e2:ld=k
   ·rw[if_pos e2];rfl
   ·rw[if_neg e2];exact hd k hk
  ·exact z0h (d:= .lst lu us') (by simp) (by rw[findT,if_pos hk.symm];rfl)
theorem z7z{l la ld lu n n':Nat}{i q:Int}{y t':D}{as ds us us':List D}(h:TL l la ld lu as ds us)(hd: ∀j∈labsL ds,(findL j ds).isSome=true):
 z2a (.ok y [Tre l t' la as ld ds lu us', .int q] n') [Tre l (.int i) la as ld ds lu us, .int q] ⟨[some (Tre l (.int i) la as ld ds lu us),some (.int q)],[some (Tre l (.int i) la as ld ds lu us),some (.int q)],n⟩= .ok y ⟨[some (Tre l t' la as ld ds lu us'),some (.int q)],[some (Tre l t' la as ld ds lu us'),some (.int q)],n'⟩:=by
 rw[z0s]
 ·simp only[rpO,List.map_cons,List.map_nil,Option.map_some,z49,z0o]
 ·intro k hk
  rw[labsL,show labsL [D.int q]=[] from rfl,List.append_nil] at hk
  exact z0h (List.mem_cons_self ..) (z5f (r:=[]) h hd hk)
 ·intro e
  injection e with e _
  simp only[rpO,List.map_cons,List.map_nil,Option.map_some,z49,z0o,e,and_self]
theorem go_c{l la ld lu n c:Nat}{t:Int}{ps:List Nat}{ds:List D}{us:List (Option Nat)}(hp: ∀k,0<k->k<=ps.length->par ps k<k)(h:TL l la ld lu (AS ps) ds (US us))(hd: ∀j∈labsL ds,(findL j ds).isSome=true)(hc:c<=ps.length)(hu:us.length=ps.length+1)(hb:c<1000):
 z0w [Tre l (.int t) la (AS ps) ld ds lu (US us), .int c] n= .ok (.int c) [Tre l (.int c) la (AS ps) ld ds lu (US (z0f ps 1000 us c)), .int c] n:=by
 have c1:objC "Tree" "stand_at" (Tre l (.int t) la (AS ps) ld ds lu (US us))=true:=by unfold Tre;simp only[objC];decide
 have i1:inR 0 (((AS ps).length:Int) - 1) (.int c)=true:=by simp[inR,AS];lia
 unfold z0w z20
 walk_at ""
 rw[zak _ _ _ _ rfl,i1]
 walk_at ""
 simp only[c1]
 walk_at ""
 rw[z6M hp h hc hu hb,z7z h hd]
 walk_at ""
theorem zfM{l la ld lu n:Nat}{t c:Int}{ps:List Nat}{ds us:List D}(hc: ¬(0<=c/\c<=ps.length)):
 z1Z [Tre l (.int t) la (AS ps) ld ds lu us, .int c] n= .ex (.exc "NoNode") [Tre l (.int t) la (AS ps) ld ds lu us, .int c] n:=by
 have i1:inR 0 (((AS ps).length:Int) - 1) (.int c)=false:=by
  simp only[inR,AS,List.length_cons,List.length_map,Bool.and_eq_false_iff,decide_eq_false_iff_not]
  lia
 unfold z1Z z2B
 walk_at ""
 rw[zak _ _ _ _ rfl,i1]
 walk_at ""
 rfl
noncomputable def Pp(ps:List Nat):Prop:= ∀k,0<k->k<=ps.length->par ps k<k
theorem z2l(ps:List Nat): ∀(f:Nat) (us:List (Option Nat)) (k:Nat),(z0f ps f us k).length=us.length
 |0,us,k=>rfl
 |f+1,us,k=>by
  rw[z0f];split
  ·rfl
  ·rw[z2l ps f,List.length_set]
theorem z8K{ps:List Nat}{p k:Nat}(h0:0<k)(hk:k<=ps.length):par (ps++[p]) k=par ps k:=by
 unfold par
 rw[List.getD_eq_getElem?_getD,List.getD_eq_getElem?_getD,List.getElem?_append_left (by lia)]
theorem z8L{ps:List Nat}{p:Nat}:par (ps++[p]) (ps.length+1)=p:=by
 unfold par
 simp
theorem Pp.app{ps:List Nat}{p:Nat}(hp:Pp ps)(h:p<=ps.length):Pp (ps++[p]):=fun k h0 hk=>by
 rw[List.length_append,List.length_singleton] at hk
 by_cases e:k=ps.length+1
 ·subst e;rw[z8L];lia
 ·rw[z8K h0 (by lia)];exact hp k h0 (by lia)
mutual
noncomputable def ch:D->D
 | .tup ds=> .tup (chL ds)
 | .lst l ds=> .lst l (chL ds++[.int 7])
 | .non=> .non| .bool b=> .bool b| .int i=> .int i| .str x=> .str x| .exc x=> .exc x| .fn x=> .fn x
 | .ro ds=> .ro ds| .fdc ks vs=> .fdc ks vs| .dct l ks vs=> .dct l ks vs| .obj l c ks vs=> .obj l c ks vs
noncomputable def chL:List D->List D
 |[]=>[]
 |d::ds=>ch d::chL ds
end
theorem z4a: ∀as bs:List D,chL (as++bs)=chL as++chL bs
 |[],bs=>rfl
 |a::as,bs=>by rw[List.cons_append,chL,chL,z4a as bs];rfl
theorem z1u: ∀ds:List D,(chL ds).length=ds.length
 |[]=>rfl
 |d::ds=>by rw[chL,List.length_cons,List.length_cons,z1u ds]
theorem labsL_app: ∀(as bs:List D),labsL (as++bs)=labsL as++labsL bs
 |[],bs=>rfl
 |a::as,bs=>by rw[List.cons_append,labsL,labsL,labsL_app as bs,List.append_assoc]
theorem z6b{f:Nat->Option D}: ∀(as bs:List D),rpL f (as++bs)=rpL f as++rpL f bs
 |[],bs=>rfl
 |a::as,bs=>by rw[List.cons_append,rpL,rpL,z6b as bs];rfl
theorem z1f{j:Nat}{d:D}:findL j [d]=findT j d:=by
 simp only[findL];cases findT j d<;>rfl
mutual
theorem z0x: ∀t:D,labs (ch t)=labs t
 | .tup ds=>by rw[ch,labs,labs,labs_chL ds]
 | .lst l ds=>by rw[ch,labs,labs,labsL_app,labs_chL ds];simp[labsL,labs]
 | .non| .bool _| .int _| .str _| .exc _| .fn _| .ro _| .fdc _ _| .dct _ _ _| .obj _ _ _ _=>by rw[ch]
theorem labs_chL: ∀ds:List D,labsL (chL ds)=labsL ds
 |[]=>rfl
 |d::ds=>by rw[chL,labsL,labsL,z0x d,labs_chL ds]
end
mutual
noncomputable def Sp:D->Bool
 | .non=>true| .bool _=>true| .int _=>true| .str _=>true
 | .tup ds=>SpL ds
 | .lst _ ds=>SpL ds
 | .ro _=>false| .dct _ _ _=>false| .obj _ _ _ _=>false| .exc _=>false| .fn _=>false| .fdc _ _=>false
noncomputable def SpL:List D->Bool
 |[]=>true
 |d::ds=>Sp d&&SpL ds
end
theorem z4b: ∀as bs:List D,SpL (as++bs)=(SpL as&&SpL bs)
 |[],bs=>rfl
 |a::as,bs=>by rw[List.cons_append,SpL,SpL,z4b as bs,Bool.and_assoc]
mutual
theorem z4p{n:Nat}: ∀t:D,Rs n t=true->Sp t=true
 | .non,_=>rfl
 | .bool _,_=>rfl
 | .int _,_=>rfl
 | .str _,_=>rfl
 | .tup ds,h=>by simp only[Rs,Bool.and_eq_true] at h;simp only[Sp];exact rsL_sp ds h.2
 | .lst _ ds,h=>by simp only[Rs,Bool.and_eq_true] at h;simp only[Sp];exact rsL_sp ds h.2.2
 | .ro _,h=>by simp[Rs] at h
 | .dct _ _ _,h=>by simp[Rs] at h
 | .obj _ _ _ _,h=>by simp[Rs] at h
 | .exc _,h=>by simp[Rs] at h
 | .fn _,h=>by simp[Rs] at h
 | .fdc _ _,h=>by simp[Rs] at h
theorem rsL_sp{n:Nat}: ∀t:List D,RsL n t=true->SpL t=true
 |[],_=>rfl
 |d::ds,h=>by simp only[RsL,Bool.and_eq_true] at h;simp only[SpL,Bool.and_eq_true];exact⟨z4p d h.1,rsL_sp ds h.2⟩
end
mutual
theorem z6c: ∀t:D,Sp t=true->Sp (ch t)=true
 | .non,h=>h
 | .bool _,h=>h
 | .int _,h=>h
 | .str _,h=>h
 | .tup ds,h=>by simp only[Sp] at h;rw[ch,Sp];exact sp_chL ds h
 | .lst _ ds,h=>by simp only[Sp] at h;rw[ch,Sp,z4b,sp_chL ds h];rfl
 | .ro _,h=>by simp[Sp] at h
 | .dct _ _ _,h=>by simp[Sp] at h
 | .obj _ _ _ _,h=>by simp[Sp] at h
 | .exc _,h=>by simp[Sp] at h
 | .fn _,h=>by simp[Sp] at h
 | .fdc _ _,h=>by simp[Sp] at h
theorem sp_chL: ∀t:List D,SpL t=true->SpL (chL t)=true
 |[],_=>rfl
 |d::ds,h=>by simp only[SpL,Bool.and_eq_true] at h;simp only[chL,SpL,Bool.and_eq_true];exact⟨z6c d h.1,sp_chL ds h.2⟩
end
mutual
theorem z0r{k:Nat}: ∀t:D,Sp t=true->k∈labs t->(findT k t).isSome=true
 | .non,_,h=>by simp[labs] at h
 | .bool _,_,h=>by simp[labs] at h
 | .int _,_,h=>by simp[labs] at h
 | .str _,_,h=>by simp[labs] at h
 | .exc _,r,h=>by simp[Sp] at r
 | .fn _,r,h=>by simp[Sp] at r
 | .ro _,r,h=>by simp[Sp] at r
 | .fdc _ _,r,h=>by simp[Sp] at r
 | .dct _ _ _,r,h=>by simp[Sp] at r
 | .obj _ _ _ _,r,h=>by simp[Sp] at r
 | .tup ds,r,h=>by
  simp only[Sp] at r
  simp only[labs] at h
  rw[findT]
  exact findL_sp ds r h
 | .lst l ds,r,h=>by
  simp only[Sp] at r
  simp only[labs,List.mem_cons] at h
  rw[findT]
  by_cases e:l=k
  ·rw[if_pos e];rfl
  ·rw[if_neg e];exact findL_sp ds r (h.resolve_left fun q=>e q.symm)
theorem findL_sp{k:Nat}: ∀t:List D,SpL t=true->k∈labsL t->(findL k t).isSome=true
 |[],_,h=>by cases h
 |d::ds,r,h=>by
  simp only[SpL,Bool.and_eq_true] at r
  simp only[labsL,List.mem_append] at h
  rw[findL]
  cases e:findT k d with
  |some z=>rfl
  |none=>
   refine findL_sp ds r.2 (h.resolve_left fun q=> ?_)
   have:=z0r d r.1 q
   rw[e] at this;cases this
end
mutual
theorem z2h{f g:Nat->Option D}: ∀t:D,(∀l∈labs t,f l=g l)->rp f t=rp g t
 | .non,_=>rfl
 | .bool b,_=>rfl
 | .int b,_=>rfl
 | .str b,_=>rfl
 | .exc b,_=>rfl
 | .fn b,_=>rfl
 | .tup ds,h=>by simp only[rp,labs] at h⊢;rw[rpL_cong ds h]
 | .ro ds,h=>by simp only[rp,labs] at h⊢;rw[rpL_cong ds h]
 | .fdc ks vs,h=>by simp only[rp,labs] at h⊢;rw[rpL_cong vs h]
 | .lst l ds,h=>by
  simp only[rp,labs] at h⊢
  rw[h l (List.mem_cons_self ..),rpL_cong ds fun k hk=>h k (List.mem_cons_of_mem _ hk)]
 | .dct l ks vs,h=>by
  simp only[rp,labs] at h⊢
  rw[h l (List.mem_cons_self ..),rpL_cong vs fun k hk=>h k (List.mem_cons_of_mem _ (List.mem_append_right _ hk))]
 | .obj l c ns vs,h=>by
  simp only[rp,labs] at h⊢
  rw[h l (List.mem_cons_self ..),rpL_cong vs fun k hk=>h k (List.mem_cons_of_mem _ hk)]
theorem rpL_cong{f g:Nat->Option D}: ∀t:List D,(∀l∈labsL t,f l=g l)->rpL f t=rpL g t
 |[],_=>rfl
 |d::ds,h=>by
  simp only[rpL,labsL] at h⊢
  rw[z2h d fun l hk=>h l (List.mem_append_left _ hk),rpL_cong ds fun l hk=>h l (List.mem_append_right _ hk)]
end
theorem z1B{j:Nat}{d:D}{ds:List D}(h:(findT j d).isSome=true):findL j (d::ds)=findT j d:=by
 rw[findL];cases e:findT j d with
 |some x=>rfl
 |none=>rw[e] at h;cases h
theorem z0q{j:Nat}{d:D}{ds:List D}(h:j∉labs d):findL j (d::ds)=findL j ds:=by rw[findL,z3g d h]
mutual
theorem z9T: ∀t:D,Sp t=true->(labs t).Nodup->rp (fun j=>findT j (ch t)) t=ch t
 | .non,_,_=>rfl
 | .bool _,_,_=>rfl
 | .int _,_,_=>rfl
 | .str _,_,_=>rfl
 | .lst l ds,_,_=>by rw[rp];simp only[ch,findT,if_true]
 | .tup ds,h,hn=>by
  simp only[Sp] at h
  simp only[labs] at hn
  rw[rp,ch]
  simp only[findT]
  rw[rp_chL ds h hn]
 | .ro _,h,_=>by simp[Sp] at h
 | .dct _ _ _,h,_=>by simp[Sp] at h
 | .obj _ _ _ _,h,_=>by simp[Sp] at h
 | .exc _,h,_=>by simp[Sp] at h
 | .fn _,h,_=>by simp[Sp] at h
 | .fdc _ _,h,_=>by simp[Sp] at h
theorem rp_chL: ∀t:List D,SpL t=true->(labsL t).Nodup->rpL (fun j=>findL j (chL t)) t=chL t
 |[],_,_=>rfl
 |d::ds,h,hn=>by
  simp only[SpL,Bool.and_eq_true] at h
  simp only[labsL] at hn
  obtain⟨n1,n2,n3⟩:=List.nodup_append.1 hn
  rw[rpL,chL,z2h (g:=fun j=>findT j (ch d)) d fun j hj=>z1B (z0r _ (z6c d h.1) (by rw[z0x];exact hj)),z9T d h.1 n1,rpL_cong (g:=fun j=>findL j (chL ds)) ds fun j hj=>z0q (by rw[z0x];exact fun q=>n3 j q j hj rfl),rp_chL ds h.2 n2]
end
mutual
theorem zbK: ∀t:D,Sp t=true->(labs t).Nodup->rp (fun j=>findT j t) t=t
 | .non,_,_=>rfl
 | .bool _,_,_=>rfl
 | .int _,_,_=>rfl
 | .str _,_,_=>rfl
 | .lst l ds,_,_=>by rw[rp];simp only[findT,if_true]
 | .tup ds,h,hn=>by
  simp only[Sp] at h
  simp only[labs] at hn
  rw[rp]
  simp only[findT]
  rw[rp_meL ds h hn]
 | .ro _,h,_=>by simp[Sp] at h
 | .dct _ _ _,h,_=>by simp[Sp] at h
 | .obj _ _ _ _,h,_=>by simp[Sp] at h
 | .exc _,h,_=>by simp[Sp] at h
 | .fn _,h,_=>by simp[Sp] at h
 | .fdc _ _,h,_=>by simp[Sp] at h
theorem rp_meL: ∀t:List D,SpL t=true->(labsL t).Nodup->rpL (fun j=>findL j t) t=t
 |[],_,_=>rfl
 |d::ds,h,hn=>by
  simp only[SpL,Bool.and_eq_true] at h
  simp only[labsL] at hn
  obtain⟨n1,n2,n3⟩:=List.nodup_append.1 hn
  rw[rpL,z2h (g:=fun j=>findT j d) d fun j hj=>z1B (z0r _ h.1 hj),zbK d h.1 n1,rpL_cong (g:=fun j=>findL j ds) ds fun j hj=>z0q (fun q=>n3 j q j hj rfl),rp_meL ds h.2 n2]
end
theorem z7A{K:ItK}{me:M D}{PL:Nat->List D->Prop}{items:List D}{its fr σ0 tm0:List (Option D)}{ol:Nat}(hk:its.length=K.k)(hol:σ0.length=ol)(hz:items.length<sizeLine)(hat: ∀i rest,K.at' i (its++rest)=some items[i]?)
 (hme: ∀(acc:List D) (hi:acc.length<items.length) tm n,PL n acc->∃y n',PL n' (acc++[y])/\me ⟨some items[acc.length]::fr,tm,n⟩= .ok y ⟨some items[acc.length]::fr,tm,n'⟩):
 ∀(f:Nat) (acc:List D) (o:Option D) (n:Nat),acc.length+f=items.length->PL n acc->∃ys n',ys.length=items.length/\PL n' ys/\z1v K (.nm 0) (rt true) me ol f acc.length acc.length ⟨o::fr,(acc.reverse.map some)++(σ0++(its++tm0)),n⟩= .ok (.lst n' ys) ⟨σ0,tm0,n'+1⟩:=by
 intro f
 induction f with
 |zero=>
  intro acc o n hi hq
  have hi:acc.length=items.length:=by lia
  have l1:(acc.reverse.map some).length=acc.length:=by simp
  have e1:((acc.reverse.map some)++(σ0++(its++tm0))).drop (acc.length+ol)=its++tm0:=by
   rw[<-List.append_assoc];exact z0K _ _ _ (by simp[hol])
  refine⟨acc,n,by lia,hq, ?_⟩
  unfold z1v
  simp only[e1,hat,List.getElem?_eq_none (show items.length<=acc.length by lia)]
  rw[z2k _ _ _ l1]
  have e2:(acc.reverse.map some).reverse=acc.map some:=by simp
  rw[e2,z21]
  simp only[Res.ok.injEq,Stt.mk.injEq,and_true,true_and]
  constructor
  ·rw[z0K _ _ _ l1,z2k _ _ _ hol]
  ·have:((acc.reverse.map some)++(σ0++(its++tm0))).drop (acc.length+ol+K.k)=(((acc.reverse.map some)++(σ0++(its++tm0))).drop (acc.length+ol)).drop K.k:=by rw[List.drop_drop]
   rw[this,e1]
   exact z0K _ _ _ hk
 |succ f ih=>
  intro acc o n hi hq
  have hlt:acc.length<items.length:=by lia
  have e1:((acc.reverse.map some)++(σ0++(its++tm0))).drop (acc.length+ol)=its++tm0:=by
   rw[<-List.append_assoc];exact z0K _ _ _ (by simp[hol])
  obtain⟨y,n1,q1,h2⟩:=hme acc hlt ((acc.reverse.map some)++(σ0++(its++tm0))) n hq
  obtain⟨ys,n2,g0,g1,h3⟩:=ih (acc++[y]) (some items[acc.length]) n1 (by simp;lia) q1
  refine⟨ys,n2,g0,g1, ?_⟩
  unfold z1v
  simp only[e1,hat,List.getElem?_eq_getElem hlt,asg,List.set_cons_zero,rt,if_pos (show acc.length<sizeLine by lia),h2]
  simp only[List.length_append,List.length_cons,List.length_nil,Nat.zero_add,List.reverse_append,List.reverse_cons,List.reverse_nil,List.nil_append,List.map_append,List.map_cons,List.map_nil,List.cons_append,List.append_assoc] at h3
  simp only[Stt.psh]
  exact h3
theorem z8M{mi:M ItK}{K:ItK}{me:M D}{PL:Nat->List D->Prop}{items:List D}{its:List (Option D)}{ix:List Nat}{s:Stt}{σ tm:List (Option D)}{n:Nat}(hc:mi s= .ok K ⟨σ,its++tm,n⟩)(hk:its.length=K.k)(hz:items.length<sizeLine)(hat: ∀i rest,K.at' i (its++rest)=some items[i]?)(hlen:K.len (its++tm)=items.length)(h0:PL n [])
 (hme: ∀(acc:List D) (hi:acc.length<items.length) tm m,PL m acc->∃y n',PL n' (acc++[y])/\me ⟨some items[acc.length]::(ix.map fun i=>(σ[i]?).getD none),tm,m⟩= .ok y ⟨some items[acc.length]::(ix.map fun i=>(σ[i]?).getD none),tm,n'⟩):
 ∃ys n',ys.length=items.length/\PL n' ys/\z1i mi (.nm 0) (rt true) me 1 ix s= .ok (.lst n' ys) ⟨σ,tm,n'+1⟩:=by
 obtain⟨ys,n',g0,g1,h3⟩:=z7A (K:=K) (me:=me) (PL:=PL) (σ0:=σ) (tm0:=tm) hk rfl hz hat hme items.length [] none n (by simp) h0
 refine⟨ys,n',g0,g1, ?_⟩
 unfold z1i
 simp only[bd,hc,hlen]
 simp only[List.map_nil,List.reverse_nil,List.nil_append,List.length_nil] at h3
 exact h3
structure Cq(lo hi:Nat)(d y:D):Prop where
 er:er y=er d
 rs:Rs lo y=true
 up:Up hi y
 nd:(labs y).Nodup
 le:lo<=hi
structure CqL(lo hi:Nat)(ds ys:List D):Prop where
 er:erL ys=erL ds
 rs:RsL lo ys=true
 up: ∀k∈labsL ys,k<hi
 nd:(labsL ys).Nodup
 le:lo<=hi
theorem z4c: ∀as bs:List D,erL (as++bs)=erL as++erL bs
 |[],bs=>rfl
 |a::as,bs=>by rw[List.cons_append,erL,erL,z4c as bs];rfl
theorem z8N{n:Nat}: ∀as bs:List D,RsL n (as++bs)=(RsL n as&&RsL n bs)
 |[],bs=>rfl
 |a::as,bs=>by rw[List.cons_append,RsL,RsL,z8N as bs,Bool.and_assoc]
theorem CqL.nil{n:Nat}:CqL n n [] []:=⟨rfl,rfl,nofun, .nil,Nat.le_refl _⟩
theorem CqL.snoc{lo m hi:Nat}{ds ys:List D}{d y:D}(h:CqL lo m ds ys)(q:Cq m hi d y):CqL lo hi (ds++[d]) (ys++[y]) where
 er:=by rw[z4c,z4c,h.er];simp only[erL,q.er]
 rs:=by rw[z8N,h.rs];simp only[RsL,z3i h.le y q.rs,Bool.and_self]
 up:=fun k hk=>by
  rw[labsL_app] at hk
  rcases List.mem_append.1 hk with hk|hk
  ·have:=h.up k hk;have:=q.le;lia
  ·exact q.up k (by simpa[labsL] using hk)
 nd:=by
  rw[labsL_app]
  refine List.nodup_append.2 ⟨h.nd,by simpa[labsL] using q.nd,fun a ha b hb=> ?_⟩
  have h1:=h.up a ha
  have h2:=z0J y q.rs (by simpa[labsL] using hb)
  lia
 le:=Nat.le_trans h.le q.le
theorem z22: ∀ds:List D,(erL ds).length=ds.length
 |[]=>rfl
 |d::ds=>by rw[erL,List.length_cons,List.length_cons,z22 ds]
theorem CqL.len{lo hi:Nat}{ds ys:List D}(h:CqL lo hi ds ys):ys.length=ds.length:=by
 rw[<-z22 ys,<-z22 ds,h.er]
noncomputable def copM(self:FM):MS:=(seqS (sIf (z0P (mIsi "list" (mVar 0))) (sRet (z1i (z0W (mVar 0)) (.nm 0) (rt true) (z0d self [(mVar 0)]) 1 [])) sNx)
 (seqS (sIf (z0P (mIsi "tuple" (mVar 0))) (sRet (mCB [(z1i (z0W (mVar 0)) (.nm 0) (rt true) (z0d self [(mVar 0)]) 1 [])] tupF)) sNx)
 (sRet (mVar 0))))
theorem z8O{F:Nat->FM}(hF: ∀k,F (k+1)=runF 1 (copM (F k))): ∀(k:Nat) (t:D) (m n:Nat),Rs m t=true->(er t).depth<=k->∃t' n',Cq n n' t t'/\F (k+1) [t] n= .ok t' [t] n':=by
 intro k
 induction k with
 |zero=>
  intro t m n hr hd
  rw[hF]
  unfold copM
  cases t with
  |tup ds=>simp[er,PyData.depth] at hd
  |lst l ds=>simp[er,PyData.depth] at hd
  |ro _=>simp[Rs] at hr
  |dct _ _ _=>simp[Rs] at hr
  |obj _ _ _ _=>simp[Rs] at hr
  |fdc _ _=>simp[Rs] at hr
  |exc _=>simp[Rs] at hr
  |fn _=>simp[Rs] at hr
  |str x=>exact⟨.str x,n,⟨rfl,by simpa[Rs] using hr,by simp[Up,labs],by simp[labs],Nat.le_refl _⟩,by walk_at ""⟩
  |non=>exact⟨.non,n,⟨rfl,by simp[Rs],by simp[Up,labs],by simp[labs],Nat.le_refl _⟩,by walk_at ""⟩
  |bool b=>exact⟨.bool b,n,⟨rfl,by simp[Rs],by simp[Up,labs],by simp[labs],Nat.le_refl _⟩,by walk_at ""⟩
  |int i=>exact⟨.int i,n,⟨rfl,by simp[Rs],by simp[Up,labs],by simp[labs],Nat.le_refl _⟩,by walk_at ""⟩
 |succ k ih=>
  intro t m n hr hd
  rw[hF]
  have key: ∀(ds:List D) (T:D) (K:ItK),(∀i rest,K.at' i ([some T]++rest)=some ds[i]?)->K.k=1->K.len [some T,some T]=ds.length->z0W (mVar 0) ⟨[some T],[some T],n⟩= .ok K ⟨[some T],[some T]++[some T],n⟩->ds.length<=2000->(∀d∈ds,Rs m d=true)->(∀d∈ds,(er d).depth<=k)->
   ∃ys n',CqL n n' ds ys/\z1i (z0W (mVar 0)) (.nm 0) (rt true) (z0d (F (k+1)) [mVar 0]) 1 [] ⟨[some T],[some T],n⟩= .ok (.lst n' ys) ⟨[some T],[some T],n'+1⟩:=by
   intro ds T K hat hk hlen hc hz hrs hds
   obtain⟨ys,n',g0,g1,h3⟩:=z8M (me:=z0d (F (k+1)) [mVar 0]) (PL:=fun m' acc=>CqL n m' (ds.take acc.length) acc) (items:=ds) (its:=[some T]) (ix:=[]) (σ:=[some T]) (tm:=[some T]) hc (by rw[hk];rfl) (by rw[zl];lia) hat hlen (by simpa using CqL.nil) (by
    intro acc hi tm m' hp
    obtain⟨y,n',q,e⟩:=ih ds[acc.length] m m' (hrs _ (List.getElem_mem hi)) (hds _ (List.getElem_mem hi))
    refine⟨y,n', ?_, ?_⟩
    ·have:=hp.snoc q
     rwa [List.length_append,List.length_singleton,List.take_add_one,List.getElem?_eq_getElem hi,Option.toList_some]
    ·walk_at ""
     rw[e]
     walk_at "")
   rw[g0,List.take_length] at g1
   exact⟨ys,n',g1,h3⟩
  unfold copM
  cases t with
  |lst l ds=>
   simp only[Rs,Bool.and_eq_true,decide_eq_true_eq,z0C] at hr
   simp only[er,PyData.depth] at hd
   have hd':=z2E.mp (Nat.le_of_succ_le_succ hd)
   obtain⟨ys,n',g,e⟩:=key ds (.lst l ds) kLst (fun _ _=>rfl) rfl rfl (by unfold z0W;walk_at "") hr.2.1 hr.2.2 hd'
   walk_at ""
   rw[e]
   walk_at ""
   have hl:=g.len
   refine⟨.lst n' ys,n'+1,⟨by simp only[er,g.er], ?_, ?_, ?_,by have:=g.le;lia⟩,rfl⟩
   ·simp only[Rs,Bool.and_eq_true,decide_eq_true_eq]
    exact⟨g.le,by lia,g.rs⟩
   ·exact ze2 (by lia) fun e he j hj=>Nat.lt_succ_of_lt (g.up j (z0L he hj))
   ·simp only[labs]
    exact List.nodup_cons.2 ⟨fun q=>by have:=g.up _ q;lia,g.nd⟩
  |tup ds=>
   simp only[Rs,Bool.and_eq_true,decide_eq_true_eq,z0C] at hr
   simp only[er,PyData.depth] at hd
   have hd':=z2E.mp (Nat.le_of_succ_le_succ hd)
   obtain⟨ys,n',g,e⟩:=key ds (.tup ds) kTup (fun _ _=>rfl) rfl rfl (by unfold z0W;walk_at "") hr.1 hr.2 hd'
   walk_at ""
   rw[e]
   walk_at ""
   have hl:=g.len
   refine⟨.tup ys,n'+1,⟨by simp only[er,g.er], ?_, ?_,by simp only[labs];exact g.nd,by have:=g.le;lia⟩,rfl⟩
   ·simp only[Rs,Bool.and_eq_true,decide_eq_true_eq]
    exact⟨by lia,g.rs⟩
   ·exact ze1 fun e he j hj=>Nat.lt_succ_of_lt (g.up j (z0L he hj))
  |ro _=>simp[Rs] at hr
  |dct _ _ _=>simp[Rs] at hr
  |obj _ _ _ _=>simp[Rs] at hr
  |fdc _ _=>simp[Rs] at hr
  |exc _=>simp[Rs] at hr
  |fn _=>simp[Rs] at hr
  |str x=>exact⟨.str x,n,⟨rfl,by simpa[Rs] using hr,by simp[Up,labs],by simp[labs],Nat.le_refl _⟩,by walk_at ""⟩
  |non=>exact⟨.non,n,⟨rfl,by simp[Rs],by simp[Up,labs],by simp[labs],Nat.le_refl _⟩,by walk_at ""⟩
  |bool b=>exact⟨.bool b,n,⟨rfl,by simp[Rs],by simp[Up,labs],by simp[labs],Nat.le_refl _⟩,by walk_at ""⟩
  |int i=>exact⟨.int i,n,⟨rfl,by simp[Rs],by simp[Up,labs],by simp[labs],Nat.le_refl _⟩,by walk_at ""⟩
theorem zan(t:D)(m n:Nat)(h:Rs m t=true)(hd:(er t).depth<=11): ∃t' n',Cq n n' t t'/\z0E 12 [t] n= .ok t' [t] n':=z8O (F:=z0E) (fun _=>rfl) 11 t m n h hd
theorem zbL(t:D)(m n:Nat)(h:Rs m t=true)(hd:(er t).depth<=11): ∃t' n',Cq n n' t t'/\z1W 12 [t] n= .ok t' [t] n':=z8O (F:=z1W) (fun _=>rfl) 11 t m n h hd
theorem z6N{f:Nat->Option D}{as bs:List D}{d:D}(hs:Sp d=true)(hn:(labs d).Nodup)(h1: ∀j∈labs d,f j=findT j (ch d))(h2: ∀j∈labsL as,f j=none)(h3: ∀j∈labsL bs,f j=none):rpL f (chL as++d::bs)=chL as++ch d::bs:=by
 rw[z6b,rpL,rpL_id (chL as) (by rw[labs_chL];exact h2),rpL_id bs h3,z2h d h1,z9T d hs hn]
noncomputable def chB(k:Nat):MS:=z0V (z0d (f_l_change k) [mVar 1])
structure Box(C:List D->D)(K:ItK)(ls:List Nat):Prop where
 k1:K.k=1
 at_: ∀items i rest,K.at' i (some (C items)::rest)=some items[i]?
 len: ∀items rest,K.len (some (C items)::rest)=items.length
 rp: ∀(f:Nat->Option D) items,(∀j∈ls,f j=none)->rp f (C items)=C (rpL f items)
 lab: ∀items,labs (C items)=ls++labsL items
theorem boxT:Box .tup kTup []:=⟨rfl,fun _ _ _=>rfl,fun _ _=>rfl,fun _ _ _=>rfl,fun _=>by simp[labs]⟩
theorem boxL{l:Nat}:Box (.lst l) kLst [l]:=⟨rfl,fun _ _ _=>rfl,fun _ _=>rfl,fun f items h=>by rw[Mi.rp,h l (by simp)],fun _=>by simp[labs]⟩
theorem zbM{j:Nat}{d:D}(h:j∉labs d):findL j [ch d]=none:=findL_none _ (by simp only[labsL,List.append_nil,z0x];exact h)
theorem z5g{C:List D->D}{K:ItK}{ls:List Nat}(B:Box C K ls){k n:Nat}: ∀(bs as:List D) (o:Option D),(ls++labsL (as++bs)).Nodup->SpL bs=true->(∀d∈bs,∀n,f_l_change k [d] n= .ok .non [ch d] n)->
 ∃o',forGo K (.nm 1) (chB k) bs.length as.length ⟨[some (C (chL as++bs)),o],[some (C (chL as++bs)),some (C (chL as++bs))],n⟩= .nx ⟨[some (C (chL (as++bs))),o'],[some (C (chL (as++bs)))],n⟩
 |[],as,o,_,_,_=>by
  refine⟨o, ?_⟩
  have h:K.at' as.length [some (C (chL as++[])),some (C (chL as++[]))]=some none:=by
   rw[B.at_,List.append_nil,List.getElem?_eq_none (by rw[z1u];exact Nat.le_refl _)]
  rw[z5d h,List.append_nil,List.append_nil]
  unfold Stt.popn
  rw[B.k1];rfl
 |d::bs,as,o,hn,hs,hf=>by
  simp only[SpL,Bool.and_eq_true] at hs
  have hn1:=hn
  rw[labsL_app,labsL] at hn1
  obtain⟨_,n1,n2⟩:=List.nodup_append.1 hn1
  obtain⟨_,n3,n4⟩:=List.nodup_append.1 n1
  obtain⟨n5,n6,n7⟩:=List.nodup_append.1 n3
  have f1: ∀j∈labs d,(fun j=>findL j [ch d]) j=findT j (ch d):=fun j _=>z1f
  have f2: ∀j∈labsL as,(fun j=>findL j [ch d]) j=none:=fun j hj=>zbM fun q=>n4 j hj j (List.mem_append_left _ q) rfl
  have f3: ∀j∈labsL bs,(fun j=>findL j [ch d]) j=none:=fun j hj=>zbM fun q=>n7 j q j hj rfl
  have f4: ∀j∈ls,(fun j=>findL j [ch d]) j=none:=fun j hj=>zbM fun q=>n2 j hj j (List.mem_append_right _ (List.mem_append_left _ q)) rfl
  have rC:rp (fun j=>findL j [ch d]) (C (chL as++d::bs))=C (chL (as++[d])++bs):=by
   rw[B.rp _ _ f4,z6N hs.1 n5 f1 f2 f3,z4a]
   simp[chL]
  have rd:rp (fun j=>findL j [ch d]) d=ch d:=by rw[z2h d f1,z9T d hs.1 n5]
  have st:chB k ⟨[some (C (chL as++d::bs)),some d],[some (C (chL as++d::bs)),some (C (chL as++d::bs))],n⟩= .nx ⟨[some (C (chL (as++[d])++bs)),some (ch d)],[some (C (chL (as++[d])++bs)),some (C (chL (as++[d])++bs))],n⟩:=by
   unfold chB
   walk_at ""
   rw[hf d (by simp),z0s]
   ·simp only[rpO,rC,rd]
    walk_at ""
   ·intro j hj
    rw[z1f]
    exact z0r _ (z6c d hs.1) (by rw[z0x];simpa[labsL] using hj)
   ·intro e
    injection e with e _
    simp only[rpO,rC,rd]
    rw[z4a]
    simp[chL,e]
  obtain⟨o',e⟩:=z5g B bs (as++[d]) (some (ch d)) (by rw[List.append_assoc];exact hn) hs.2 (fun x hx=>hf x (by simp[hx]))
  refine⟨o', ?_⟩
  have ha:K.at' as.length [some (C (chL as++d::bs)),some (C (chL as++d::bs))]=some (some d):=by
   rw[B.at_,List.getElem?_append_right (by rw[z1u];exact Nat.le_refl _),z1u,Nat.sub_self];rfl
  rw[List.length_cons,z3t ha rfl st]
  rw[List.length_append,List.length_singleton,List.append_assoc] at e
  exact e
theorem ze5: ∀(k:Nat) (t:D) (m:Nat),Rs m t=true->(er t).depth<=k->(labs t).Nodup->∀n,f_l_change (k+1) [t] n= .ok .non [ch t] n:=by
 intro k
 induction k with
 |zero=>
  intro t m hr hd hn n
  show runF 2 (z1o (f_l_change 0)) _ _=_
  unfold z1o
  cases t with
  |tup ds=>simp[er,PyData.depth] at hd
  |lst l ds=>simp[er,PyData.depth] at hd
  |ro _=>simp[Rs] at hr
  |dct _ _ _=>simp[Rs] at hr
  |obj _ _ _ _=>simp[Rs] at hr
  |fdc _ _=>simp[Rs] at hr
  |exc _=>simp[Rs] at hr
  |fn _=>simp[Rs] at hr
  |_=>walk_at "";rfl
 |succ k ih=>
  intro t m hr hd hn n
  show runF 2 (z1o (f_l_change (k+1))) _ _=_
  have hs:=z4p t hr
  unfold z1o
  cases t with
  |tup ds=>
   simp only[Rs,Bool.and_eq_true,decide_eq_true_eq,z0C] at hr
   simp only[er,PyData.depth] at hd
   have hd':=z2E.mp (Nat.le_of_succ_le_succ hd)
   simp only[labs] at hn
   simp only[Sp] at hs
   have ih': ∀d∈ds,∀n,f_l_change (k+1) [d] n= .ok .non [ch d] n:=fun d hdm=>ih d m (hr.2 d hdm) (hd' d hdm) (by
    obtain⟨a,b,rfl⟩:=List.append_of_mem hdm
    rw[labsL_app,labsL] at hn
    exact(List.nodup_append.1 (List.nodup_append.1 hn).2.1).1)
   obtain⟨o',e⟩:=z5g boxT (k:=k+1) (n:=n) ds [] none (by simpa using hn) hs ih'
   simp only[chL,List.nil_append,List.length_nil] at e
   walk_at ""
   rw[show z0V (z0d (f_l_change (k+1)) [mVar 1])=chB (k+1) from rfl]
   unfold z0W
   walk_at ""
   rw[show kTup.len [some (.tup ds),some (.tup ds)]=ds.length from rfl,e]
   walk_at ""
   rfl
  |lst l ds=>
   simp only[Rs,Bool.and_eq_true,decide_eq_true_eq,z0C] at hr
   simp only[er,PyData.depth] at hd
   have hd':=z2E.mp (Nat.le_of_succ_le_succ hd)
   simp only[labs] at hn
   simp only[Sp] at hs
   have ih': ∀d∈ds,∀n,f_l_change (k+1) [d] n= .ok .non [ch d] n:=fun d hdm=>ih d m (hr.2.2 d hdm) (hd' d hdm) (by
    have hn:=(List.nodup_cons.1 hn).2
    obtain⟨a,b,rfl⟩:=List.append_of_mem hdm
    rw[labsL_app,labsL] at hn
    exact(List.nodup_append.1 (List.nodup_append.1 hn).2.1).1)
   obtain⟨o',e⟩:=z5g (boxL (l:=l)) (k:=k+1) (n:=n) ds [] none (by simpa using hn) hs ih'
   simp only[chL,List.nil_append,List.length_nil] at e
   walk_at ""
   rw[show z0V (z0d (f_l_change (k+1)) [mVar 1])=chB (k+1) from rfl]
   unfold z0W
   walk_at ""
   rw[show kLst.len [some (.lst l ds),some (.lst l ds)]=ds.length from rfl,e]
   walk_at ""
   rw[z5b ⟨by rw[zl,z1u];lia,by simp[labs]⟩]
   walk_at ""
   rfl
  |ro _=>simp[Rs] at hr
  |dct _ _ _=>simp[Rs] at hr
  |obj _ _ _ _=>simp[Rs] at hr
  |fdc _ _=>simp[Rs] at hr
  |exc _=>simp[Rs] at hr
  |fn _=>simp[Rs] at hr
  |_=>walk_at "";rfl
theorem cut_drop{ws:List D}{k:Nat}:cutA ws (some (k:Int)) none=ws.drop k:=by
 unfold cutA
 rw[HT.sIx_nat,HT.sIx_none]
 rcases Nat.lt_or_ge k ws.length with h|h
 ·rw[Nat.min_eq_left (by lia)]
  exact List.take_of_length_le (by simp)
 ·rw[Nat.min_eq_right h,List.drop_eq_nil_of_le (Nat.le_refl _),List.drop_eq_nil_of_le h,List.take_nil]
structure Box2(C:List D->D)(E:List PyData->PyData):Prop where
 ix: ∀items (i:Int) s,ixD (C items) (.int i) s=optM (atI items i) s
 ln: ∀items s,lenD [C items] s= .ok (.int (items.length:Int)) s
 er: ∀items,er (C items)=E (erL items)
 dp: ∀xs,(E xs).depth=PyData.depthAll xs+1
 sl: ∀items (lo hi:Option Int) σ tm n,∃y n',n<=n'/\slD (C items) lo hi ⟨σ,tm,n⟩= .ok y ⟨σ,tm,n'⟩/\Mi.er y=E (erL (cutA items lo hi))/\(GdL (cutA items lo hi)->Gd y)
theorem ze6:Box2 .tup .tuple:=⟨fun _ _ _=>rfl,fun _ _=>rfl,fun _=>by simp only[er],fun _=>by simp only[PyData.depth],fun items lo hi σ tm n=>⟨_,n,Nat.le_refl _,rfl,by simp only[er],fun h=>Gd.tup.mpr h⟩⟩
theorem ze7{l:Nat}:Box2 (.lst l) .list:=⟨fun _ _ _=>rfl,fun _ _=>rfl,fun _=>by simp only[er],fun _=>by simp only[PyData.depth],fun items lo hi σ tm n=>⟨_,n+1,by lia,rfl,by simp only[er],fun h=>Gd.lst.mpr h⟩⟩
noncomputable def apB(self:FM):MS:=(sIf (mOr (mNot (z0P (z0d self [(mBin (mVar 0) (mVar 2) ixD),(mBin (mVar 1) (mVar 2) ixD)]))) (mBoo (mBin (mSl (mVar 0) (some (mBin (mVar 2) (mC (.int 1)) addD)) none) (mSl (mVar 1) (some (mBin (mVar 2) (mC (.int 1)) addD)) none) neD))) (sRet (mC (.bool false))) sNx)
theorem zbN{self:FM}{C C':List D->D}{K K':ItK}{ls ls':List Nat}{E:List PyData->PyData}(B:Box C K ls)(B':Box C' K' ls')(A:Box2 C E)(A':Box2 C' E){m m' n:Nat}{as bs xs cs:List D}{d g:D}(hl:xs.length=as.length)
 (hn:(ls++labsL (as++d::bs)).Nodup) (hn':(ls'++labsL (xs++g::cs)).Nodup) (dj: ∀j∈ls++labsL (as++d::bs),j∉ls'++labsL (xs++g::cs)) (rb:RsL m bs=true) (rc:RsL m' cs=true) (sd:Sp d=true) (sg:SpL (xs++g::cs)=true) (he:erL bs=erL cs) (hd:PyData.depthAll (erL cs)<=50)
 (ih: ∃n',n<=n'/\self [d,g] n= .ok (.bool true) [ch d,g] n'):
 ∃n',n<=n'/\apB self ⟨[some (C (chL as++d::bs)),some (C' (xs++g::cs)),some (.int (as.length:Nat))],[some (C (chL as++d::bs)),some (C' (xs++g::cs))],n⟩= .nx ⟨[some (C (chL (as++[d])++bs)),some (C' (xs++g::cs)),some (.int (as.length:Nat))],[some (C (chL (as++[d])++bs)),some (C' (xs++g::cs))],n'⟩:=by
 obtain⟨n1,hn1,e1⟩:=ih
 have hn1':=hn
 rw[labsL_app,labsL] at hn1'
 obtain⟨_,p1,p2⟩:=List.nodup_append.1 hn1'
 obtain⟨_,p3,p4⟩:=List.nodup_append.1 p1
 obtain⟨p5,p6,p7⟩:=List.nodup_append.1 p3
 have hn2':=hn'
 rw[labsL_app,labsL] at hn2'
 obtain⟨_,q1,q2⟩:=List.nodup_append.1 hn2'
 obtain⟨_,q3,q4⟩:=List.nodup_append.1 q1
 obtain⟨q5,q6,q7⟩:=List.nodup_append.1 q3
 have inD: ∀j∈labs d,j∈ls++labsL (as++d::bs):=fun j hj=>by rw[labsL_app,labsL];exact List.mem_append_right _ (List.mem_append_right _ (List.mem_append_left _ hj))
 have inG: ∀j∈labs g,j∈ls'++labsL (xs++g::cs):=fun j hj=>by rw[labsL_app,labsL];exact List.mem_append_right _ (List.mem_append_right _ (List.mem_append_left _ hj))
 have off: ∀j,j∉labs d->j∉labs g->findL j [ch d,g]=none:=fun j h1 h2=>findL_none _ (by simp only[labsL,List.append_nil,List.mem_append,z0x,not_or];exact⟨h1,h2⟩)
 have offF: ∀j∈ls++labsL (as++d::bs),j∉labs d->findL j [ch d,g]=none:=fun j hj h1=>off j h1 fun q=>dj j hj (inG j q)
 have offG: ∀j∈ls'++labsL (xs++g::cs),j∉labs g->findL j [ch d,g]=none:=fun j hj h1=>off j (fun q=>dj j (inD j q) hj) h1
 have f1: ∀j∈labs d,(fun j=>findL j [ch d,g]) j=findT j (ch d):=fun j hj=>z1B (z0r _ (z6c d sd) (by rw[z0x];exact hj))
 have g1: ∀j∈labs g,(fun j=>findL j [ch d,g]) j=findT j g:=fun j hj=>by
  show findL j [ch d,g]=_
  rw[z0q (by rw[z0x];exact fun q=>dj j (inD j q) (inG j hj)),z1f]
 have rF:rp (fun j=>findL j [ch d,g]) (C (chL as++d::bs))=C (chL (as++[d])++bs):=by
  rw[B.rp _ _ fun j hj=>offF j (List.mem_append_left _ hj) fun q=>p2 j hj j (List.mem_append_right _ (List.mem_append_left _ q)) rfl,z6N sd p5 f1 (fun j hj=>offF j (by rw[labsL_app];exact List.mem_append_right _ (List.mem_append_left _ hj)) fun q=>p4 j hj j (List.mem_append_left _ q) rfl) (fun j hj=>offF j (by rw[labsL_app,labsL];exact List.mem_append_right _ (List.mem_append_right _ (List.mem_append_right _ hj))) fun q=>p7 j q j hj rfl),z4a]
  simp[chL]
 rw[z4b,SpL,Bool.and_eq_true,Bool.and_eq_true] at sg
 have rG:rp (fun j=>findL j [ch d,g]) (C' (xs++g::cs))=C' (xs++g::cs):=by
  rw[B'.rp _ _ fun j hj=>offG j (List.mem_append_left _ hj) fun q=>q2 j hj j (List.mem_append_right _ (List.mem_append_left _ q)) rfl,z6b,rpL,z2h g g1,zbK g sg.2.1 q5,rpL_id xs (fun j hj=>offG j (by rw[labsL_app];exact List.mem_append_right _ (List.mem_append_left _ hj)) fun q=>q4 j hj j (List.mem_append_left _ q) rfl),rpL_id cs (fun j hj=>offG j (by rw[labsL_app,labsL];exact List.mem_append_right _ (List.mem_append_right _ (List.mem_append_right _ hj))) fun q=>q7 j q j hj rfl)]
 have i1:atI (chL as++d::bs) ((as.length:Nat):Int)=some d:=z2t (by lia) (by
  rw[Int.toNat_natCast,List.getElem?_append_right (by rw[z1u];exact Nat.le_refl _),z1u,Nat.sub_self];rfl)
 have i2:atI (xs++g::cs) ((as.length:Nat):Int)=some g:=z2t (by lia) (by
  rw[Int.toNat_natCast,<-hl,List.getElem?_append_right (Nat.le_refl _),Nat.sub_self];rfl)
 have ek:((as.length:Nat):Int)+1=((as.length+1:Nat):Int):=by lia
 have k1:cutA (chL (as++[d])++bs) (some ((as.length+1:Nat):Int)) none=bs:=by
  rw[cut_drop,show as.length+1=(chL (as++[d])).length by rw[z1u];simp,List.drop_left]
 have k2:cutA (xs++g::cs) (some ((as.length+1:Nat):Int)) none=cs:=by
  rw[cut_drop,show xs++g::cs=(xs++[g])++cs by simp,show as.length+1=(xs++[g]).length by simp[hl],List.drop_left]
 obtain⟨y1,m1,hm1,s1,r1,d1⟩:=A.sl (chL (as++[d])++bs) (some ((as.length+1:Nat):Int)) none [some (C (chL (as++[d])++bs)),some (C' (xs++g::cs)),some (.int (as.length:Nat))] [some (C (chL (as++[d])++bs)),some (C' (xs++g::cs))] n1
 obtain⟨y2,m2,hm2,s2,r2,d2⟩:=A'.sl (xs++g::cs) (some ((as.length+1:Nat):Int)) none [some (C (chL (as++[d])++bs)),some (C' (xs++g::cs)),some (.int (as.length:Nat))] [some y1,some (C (chL (as++[d])++bs)),some (C' (xs++g::cs))] m1
 rw[k1] at r1 d1
 rw[k2] at r2 d2
 refine⟨m2,by lia, ?_⟩
 unfold apB
 walk_at ""
 rw[A.ix,i1]
 walk_at ""
 rw[A'.ix,i2]
 walk_at ""
 rw[e1,z0s]
 ·simp only[rpO,rF,rG,z0o]
  walk_at ""
  rw[ek,s1]
  walk_at ""
  rw[ek,s2]
  walk_at ""
  rw[z69 (d1 (RsL_gd (n:=m) _ rb)) (d2 (RsL_gd (n:=m') _ rc)) (by rw[r1,r2,he]) (by rw[r2,A'.dp];lia)]
  walk_at ""
 ·intro j hj
  simp only[labsL,List.append_nil,List.mem_append] at hj
  rcases hj with hj|hj
  ·exact z0h (d:=ch d) (by simp) (z0r _ (z6c d sd) (by rw[z0x];exact hj))
  ·exact z0h (d:=g) (by simp) (z0r _ sg.2.1 hj)
 ·intro e
  injection e with e _
  simp only[rpO,rF,rG,z0o]
  rw[z4a]
  simp[chL,e]
theorem z6d{self:FM}{C C':List D->D}{K K':ItK}{ls ls':List Nat}{E:List PyData->PyData}(B:Box C K ls)(B':Box C' K' ls')(A:Box2 C E)(A':Box2 C' E){m m' N:Nat}: ∀(bs cs as xs:List D) (n:Nat) (o:Option D),xs.length=as.length->as.length+bs.length=N->(ls++labsL (as++bs)).Nodup->(ls'++labsL (xs++cs)).Nodup->(∀j∈ls++labsL (as++bs),j∉ls'++labsL (xs++cs))->RsL m bs=true->RsL m' cs=true->SpL (xs++cs)=true->erL bs=erL cs->PyData.depthAll (erL cs)<=50->
 (∀d∈bs,∀g∈cs,er d=er g->∀n,∃n',n<=n'/\self [d,g] n= .ok (.bool true) [ch d,g] n')->
 ∃n' o',n<=n'/\forGo (kRng 0 N) (.nm 2) (apB self) bs.length as.length ⟨[some (C (chL as++bs)),some (C' (xs++cs)),o],[some (C (chL as++bs)),some (C' (xs++cs))],n⟩= .nx ⟨[some (C (chL (as++bs))),some (C' (xs++cs)),o'],[some (C (chL (as++bs))),some (C' (xs++cs))],n'⟩
 |[],cs,as,xs,n,o,hl,hN,_,_,_,_,_,_,_,_,_=>by
  refine⟨n,o,Nat.le_refl _, ?_⟩
  have h:(kRng 0 N).at' as.length [some (C (chL as++[])),some (C' (xs++cs))]=some none:=by
   show some (if as.length<N then _ else none)=_
   rw[if_neg (by simp at hN;lia)]
  rw[List.length_nil,z5d h,List.append_nil,List.append_nil]
  rfl
 |d::bs,cs,as,xs,n,o,hl,hN,hn,hn',dj,rb,rc,sg,he,hd,ih=>by
  cases cs with
  |nil=>simp[erL] at he
  |cons g cs=>
   simp only[erL,List.cons.injEq] at he
   simp only[RsL,Bool.and_eq_true] at rb rc
   have hd2:(er g).depth<=50/\PyData.depthAll (erL cs)<=50:=by
    simp only[erL,PyData.depthAll] at hd
    exact⟨by lia,by lia⟩
   obtain⟨n1,h1,e1⟩:=zbN (self:=self) B B' A A' hl hn hn' dj rb.2 rc.2 (z4p d rb.1) sg he.2 hd2.2 (ih d (by simp) g (by simp) he.1 n)
   obtain⟨n2,o',h2,e2⟩:=z6d (N:=N) B B' A A' bs cs (as++[d]) (xs++[g]) n1 (some (.int (as.length:Nat))) (by simp[hl]) (by simp at hN⊢;lia) (by rw[List.append_assoc];exact hn) (by rw[List.append_assoc];exact hn') (by rw[List.append_assoc,List.append_assoc];exact dj) rb.2 rc.2 (by rw[List.append_assoc];exact sg) he.2 hd2.2 (fun x hx y hy=>ih x (by simp[hx]) y (by simp[hy]))
   refine⟨n2,o',by lia, ?_⟩
   have ha:(kRng 0 N).at' as.length [some (C (chL as++d::bs)),some (C' (xs++g::cs))]=some (some (.int (0+(as.length:Int)))):=by
    show some (if as.length<N then _ else none)=_
    rw[if_pos (by simp at hN;lia)]
   rw[List.length_cons]
   rw[Int.zero_add] at ha
   rw[z3t ha rfl e1]
   rw[List.length_append,List.length_singleton,List.append_assoc,List.append_assoc] at e2
   exact e2
theorem z9U: ∀(k:Nat) (f g:D) (m m' n:Nat),k<=40->Rs m f=true->Rs m' g=true->er f=er g->(er g).depth<=k->(labs f).Nodup->(labs g).Nodup->(∀j∈labs f,j∉labs g)->∃n',n<=n'/\z0y (k+1) [f,g] n= .ok (.bool true) [ch f,g] n':=by
 intro k
 induction k with
 |zero=>
  intro f g m m' n hk hf hg he hd nf ng dj
  refine⟨n,Nat.le_refl _, ?_⟩
  show runF 3 (z1K (z0y 0)) _ _=_
  unfold z1K
  rw[<-he] at hd
  cases f with
  |tup ds=>simp[er,PyData.depth] at hd
  |lst l ds=>simp[er,PyData.depth] at hd
  |ro _=>simp[Rs] at hf
  |dct _ _ _=>simp[Rs] at hf
  |obj _ _ _ _=>simp[Rs] at hf
  |fdc _ _=>simp[Rs] at hf
  |exc _=>simp[Rs] at hf
  |fn _=>simp[Rs] at hf
  |_=>walk_at "";rfl
 |succ k ih=>
  intro f g m m' n hk hf hg he hd nf ng dj
  show ∃n',n<=n'/\runF 3 (z1K (z0y (k+1))) _ _=_
  have e0:z1K (z0y (k+1))=(seqS (sIf (mNot (z0P (z5X ["list", "tuple"] (mVar 0)))) (sRet (mC (.bool true))) sNx)
   (seqS (sFor (z39 [(mCB [(mVar 1)] lenD)]) (.nm 2) (apB (z0y (k+1))))
   (seqS (sIf (z0P (mIsi "list" (mVar 0))) (z0V (z0X (mVar 0) [(mC (.int 7))] appD)) sNx)
   (sRet (mC (.bool true)))))):=rfl
  rw[e0]
  have mem: ∀{x:D} {xs:List D},x∈xs->(labsL xs).Nodup->(labs x).Nodup:=fun{x xs} hx hn=>by
   obtain⟨a,b,rfl⟩:=List.append_of_mem hx
   rw[labsL_app,labsL] at hn
   exact(List.nodup_append.1 (List.nodup_append.1 hn).2.1).1
  cases f with
  |tup ds=>
   cases g with
   |tup gs=>
    simp only[Rs,Bool.and_eq_true,decide_eq_true_eq] at hf hg
    simp only[er,PyData.tuple.injEq] at he
    simp only[er,PyData.depth] at hd
    simp only[labs] at nf ng dj
    have hd':=z2E.mp (Nat.le_of_succ_le_succ hd)
    have hlen:ds.length=gs.length:=by rw[<-z22 ds,<-z22 gs,he]
    obtain⟨n1,o',h1,e1⟩:=z6d (self:=z0y (k+1)) boxT boxT ze6 ze6 (N:=gs.length) ds gs [] [] n none rfl (by simp[hlen]) (by simpa using nf) (by simpa using ng) (by simpa using dj) hf.2 hg.2 (by simpa using rsL_sp gs hg.2) he (by lia) (fun x hx y hy hxy n'=>ih x y m m' n' (by lia) (z0C.1 hf.2 x hx) (z0C.1 hg.2 y hy) hxy (hd' y hy) (mem hx nf) (mem hy ng) fun j h1 h2=>dj j (z0L hx h1) (z0L hy h2))
    refine⟨n1,h1, ?_⟩
    simp only[chL,List.nil_append,List.length_nil] at e1
    walk_at ""
    rw[z4F (by lia),Int.toNat_natCast]
    walk_at ""
    rw[<-hlen] at e1⊢
    rw[e1]
    walk_at ""
    rfl
   |_=>simp[er] at he<;>simp[Rs] at hg
  |lst l ds=>
   cases g with
   |lst l' gs=>
    simp only[Rs,Bool.and_eq_true,decide_eq_true_eq] at hf hg
    simp only[er,PyData.list.injEq] at he
    simp only[er,PyData.depth] at hd
    simp only[labs] at nf ng dj
    have hd':=z2E.mp (Nat.le_of_succ_le_succ hd)
    have hlen:ds.length=gs.length:=by rw[<-z22 ds,<-z22 gs,he]
    obtain⟨n1,o',h1,e1⟩:=z6d (self:=z0y (k+1)) (boxL (l:=l)) (boxL (l:=l')) ze7 ze7 (N:=gs.length) ds gs [] [] n none rfl (by simp[hlen]) (by simpa using nf) (by simpa using ng) (by simpa using dj) hf.2.2 hg.2.2 (by simpa using rsL_sp gs hg.2.2) he (by lia) (fun x hx y hy hxy n'=>ih x y m m' n' (by lia) (z0C.1 hf.2.2 x hx) (z0C.1 hg.2.2 y hy) hxy (hd' y hy) (mem hx (List.nodup_cons.1 nf).2) (mem hy (List.nodup_cons.1 ng).2) fun j h1 h2=>dj j (List.mem_cons_of_mem _ (z0L hx h1)) (List.mem_cons_of_mem _ (z0L hy h2)))
    refine⟨n1,h1, ?_⟩
    simp only[chL,List.nil_append,List.length_nil] at e1
    have fG: ∀q,rp (pl l q) (.lst l' gs)= .lst l' gs:=fun q=>z0a (by simp only[labs];exact dj l (by simp))
    walk_at ""
    rw[z4F (by lia),Int.toNat_natCast]
    walk_at ""
    rw[<-hlen] at e1⊢
    rw[e1]
    walk_at ""
    rw[z5b ⟨by rw[zl,z1u];lia,by simp[labs]⟩]
    walk_at ""
    simp only[fG]
    try (walk_at "")
    rfl
   |_=>simp[er] at he<;>simp[Rs] at hg
  |ro _=>simp[Rs] at hf
  |dct _ _ _=>simp[Rs] at hf
  |obj _ _ _ _=>simp[Rs] at hf
  |fdc _ _=>simp[Rs] at hf
  |exc _=>simp[Rs] at hf
  |fn _=>simp[Rs] at hf
  |_=>refine⟨n,Nat.le_refl _, ?_⟩;walk_at "";rfl
theorem z8P{K:ItK}{mt:M Bool}{me:M D}{p:D->D->Bool}{g:D->D->D}{items:List (D×D)}{its fr σ0 tm0:List (Option D)}{ol:Nat}(hk:its.length=K.k)(hol:σ0.length=ol)(hz:items.length<sizeLine)(hat: ∀i rest,K.at' i (its++rest)=some ((items[i]?).map fun q=> .tup [q.1,q.2]))
 (hmt: ∀q∈items,∀tm n,∃n',n<=n'/\mt ⟨some q.1::some q.2::fr,tm,n⟩= .ok (p q.1 q.2) ⟨some q.1::some q.2::fr,tm,n'⟩)
 (hme: ∀q∈items,p q.1 q.2=true->∀tm n,∃n',n<=n'/\me ⟨some q.1::some q.2::fr,tm,n⟩= .ok (g q.1 q.2) ⟨some q.1::some q.2::fr,tm,n'⟩):
 ∀(f i:Nat) (acc:List D) (o o':Option D) (n:Nat),i+f=items.length->acc.length<=i->∃n',n<=n'/\z1v K (.tp [.nm 0, .nm 1]) mt me ol f i acc.length ⟨o::o'::fr,(acc.reverse.map some)++(σ0++(its++tm0)),n⟩= .ok (.lst n' (acc++((items.drop i).filter fun q=>p q.1 q.2).map fun q=>g q.1 q.2)) ⟨σ0,tm0,n'+1⟩:=by
 intro f
 induction f with
 |zero=>
  intro i acc o o' n hi ha
  have hi:i=items.length:=by lia
  refine⟨n,Nat.le_refl _, ?_⟩
  have l1:(acc.reverse.map some).length=acc.length:=by simp
  have e1:((acc.reverse.map some)++(σ0++(its++tm0))).drop (acc.length+ol)=its++tm0:=by
   rw[<-List.append_assoc];exact z0K _ _ _ (by simp[hol])
  have e0:K.at' i (its++tm0)=some none:=by
   rw[hat,List.getElem?_eq_none (show items.length<=i by lia)];rfl
  unfold z1v
  simp only[e1,e0]
  rw[z2k _ _ _ l1]
  have e2:(acc.reverse.map some).reverse=acc.map some:=by simp
  rw[e2,z21]
  simp only[Res.ok.injEq,Stt.mk.injEq,and_true,List.drop_eq_nil_of_le (show items.length<=i by lia),List.filter_nil,List.map_nil,List.append_nil,true_and]
  constructor
  ·rw[z0K _ _ _ l1,z2k _ _ _ hol]
  ·have:((acc.reverse.map some)++(σ0++(its++tm0))).drop (acc.length+ol+K.k)=(((acc.reverse.map some)++(σ0++(its++tm0))).drop (acc.length+ol)).drop K.k:=by rw[List.drop_drop]
   rw[this,e1]
   exact z0K _ _ _ hk
 |succ f ih=>
  intro i acc o o' n hi ha
  have hlt:i<items.length:=by lia
  have e1:((acc.reverse.map some)++(σ0++(its++tm0))).drop (acc.length+ol)=its++tm0:=by
   rw[<-List.append_assoc];exact z0K _ _ _ (by simp[hol])
  have e0:K.at' i (its++tm0)=some (some (.tup [items[i].1,items[i].2])):=by
   rw[hat,List.getElem?_eq_getElem hlt];rfl
  obtain⟨n1,hn1,h1⟩:=hmt items[i] (List.getElem_mem hlt) ((acc.reverse.map some)++(σ0++(its++tm0))) n
  rw[List.drop_eq_getElem_cons hlt,List.filter_cons]
  unfold z1v
  simp only[e1,e0,asg,asgL,List.set_cons_zero,List.set_cons_succ,h1]
  cases hp:p items[i].1 items[i].2 with
  |false=>
   obtain⟨n2,hn2,h2⟩:=ih (i+1) acc (some items[i].1) (some items[i].2) n1 (by lia) (by lia)
   exact⟨n2,by lia,h2⟩
  |true=>
   obtain⟨n2,hn2,h2⟩:=hme items[i] (List.getElem_mem hlt) hp ((acc.reverse.map some)++(σ0++(its++tm0))) n1
   obtain⟨n3,hn3,h3⟩:=ih (i+1) (acc++[g items[i].1 items[i].2]) (some items[i].1) (some items[i].2) n2 (by lia) (by simp;lia)
   refine⟨n3,by lia, ?_⟩
   simp only[if_pos (show acc.length<sizeLine by lia),h2]
   simp only[List.length_append,List.length_cons,List.length_nil,Nat.zero_add,List.reverse_append,List.reverse_cons,List.reverse_nil,List.nil_append,List.map_append,List.map_cons,List.map_nil,List.cons_append,List.append_assoc,if_true] at h3⊢
   exact h3
theorem z6O{mi:M ItK}{K:ItK}{mt:M Bool}{me:M D}{p:D->D->Bool}{g:D->D->D}{items:List (D×D)}{its:List (Option D)}{ix:List Nat}{s:Stt}{σ tm:List (Option D)}{n:Nat}(hc:mi s= .ok K ⟨σ,its++tm,n⟩)(hk:its.length=K.k)(hz:items.length<sizeLine)(hat: ∀i rest,K.at' i (its++rest)=some ((items[i]?).map fun q=> .tup [q.1,q.2]))(hlen:K.len (its++tm)=items.length)
 (hmt: ∀q∈items,∀tm n,∃n',n<=n'/\mt ⟨some q.1::some q.2::(ix.map fun i=>(σ[i]?).getD none),tm,n⟩= .ok (p q.1 q.2) ⟨some q.1::some q.2::(ix.map fun i=>(σ[i]?).getD none),tm,n'⟩)
 (hme: ∀q∈items,p q.1 q.2=true->∀tm n,∃n',n<=n'/\me ⟨some q.1::some q.2::(ix.map fun i=>(σ[i]?).getD none),tm,n⟩= .ok (g q.1 q.2) ⟨some q.1::some q.2::(ix.map fun i=>(σ[i]?).getD none),tm,n'⟩):
 ∃n',n<=n'/\z1i mi (.tp [.nm 0, .nm 1]) mt me 2 ix s= .ok (.lst n' ((items.filter fun q=>p q.1 q.2).map fun q=>g q.1 q.2)) ⟨σ,tm,n'+1⟩:=by
 obtain⟨n',h2,h3⟩:=z8P (K:=K) (mt:=mt) (me:=me) (p:=p) (g:=g) (σ0:=σ) (tm0:=tm) hk rfl hz hat hmt hme items.length 0 [] none none n (by simp) (by simp)
 refine⟨n',h2, ?_⟩
 unfold z1i
 simp only[bd,hc,hlen]
 simp only[List.map_nil,List.reverse_nil,List.nil_append,List.length_nil,List.drop_zero] at h3
 exact h3
noncomputable def IL(ks:List Nat):List D:=ks.map fun k:Nat=>D.int (k:Int)
theorem z1C(ks:List Nat):labsL (IL ks)=[]:=by
 induction ks with
 |nil=>rfl
 |cons k ks ih=>show labsL (.int k::IL ks)=[];rw[labsL,ih];rfl
noncomputable def kids(ps:List Nat)(t:Nat):List Nat:=((List.range ps.length).map fun i=>i+1).filter fun k=>par ps k==t
theorem ze8{i:Int}{s:Stt}:eqD .non (.int i) s= .ok (.bool false) s:=by
 rw[y_eq (by simp[eqC,Mi.plain,er,PyData.canLay0,PyData.depth])];simp only[er,PyData.eqv]
noncomputable def eqI(t:Nat):D->Bool
 | .int i=>i==(t:Int)
 |_=>false
theorem z9V(ps:List Nat):AS ps= .non::((List.range ps.length).map fun i=>D.int (par ps (i+1):Nat)):=by
 unfold AS
 congr 1
 apply List.ext_getElem (by simp)
 intro i h1 h2
 simp only[List.length_map] at h1
 simp[par,List.getElem?_eq_getElem h1]
noncomputable def z3m(ps:List Nat):List (D×D):=(.int ((0:Nat):Int), .non)::(List.range ps.length).map fun i=>(D.int ((i+1:Nat):Int),D.int (par ps (i+1):Nat))
theorem z8Q(ps:List Nat)(i:Nat):((AS ps)[i]?).map (fun d=>D.tup [.int (i:Nat),d])=((z3m ps)[i]?).map fun q=> .tup [q.1,q.2]:=by
 rw[z9V]
 cases i with
 |zero=>rfl
 |succ i=>
  simp only[z3m,List.getElem?_cons_succ,List.getElem?_map]
  cases e:(List.range ps.length)[i]? with
  |none=>rfl
  |some j=>
   have:=(List.getElem?_eq_some_iff.1 e)
   obtain⟨h,hj⟩:=this
   simp at hj
   subst hj
   rfl
theorem z6e(ps:List Nat)(t:Nat):((z3m ps).filter fun q=>eqI t q.2).map (fun q=>q.1)=IL (kids ps t):=by
 unfold z3m IL kids
 rw[List.filter_cons]
 simp only[eqI,Bool.false_eq_true,if_false]
 rw[List.filter_map,List.filter_map,List.map_map,List.map_map]
 have e: ∀r:List Nat,List.filter ((fun q:D×D=>match q.2 with| .int i=>i==(t:Int)|_=>false)∘fun i=>(D.int ((i+1:Nat):Int),D.int (par ps (i+1):Nat))) r=List.filter ((fun k=>par ps k==t)∘fun i=>i+1) r:=fun r=>List.filter_congr fun x _=>by
  simp only[Function.comp]
  rw[Bool.eq_iff_iff,beq_iff_eq,beq_iff_eq]
  lia
 rw[e]
 rfl
theorem z9W{l t n:Nat}{la ld lu:Nat}{ps:List Nat}{ds us:List D}(hz:ps.length<900): ∃n',n<=n'/\z0I [Tre l (.int t) la (AS ps) ld ds lu us] n= .ok (.lst n' (IL (kids ps t))) [Tre l (.int t) la (AS ps) ld ds lu us] (n'+1):=by
 obtain⟨n',h1,h2⟩:=z6O (mi:=mEnm [(mFld (mVar 0) "above" z0j)]) (K:=kEnm) (mt:=(mBoo (mBin (mVar 1) (mFld (mVar 2) "at" z3e) eqD))) (me:=mVar 0) (p:=fun _ d=>eqI t d) (g:=fun a _=>a)
  (items:=z3m ps) (its:=[some (.lst la (AS ps))]) (ix:=[0]) (s:=⟨[some (Tre l (.int t) la (AS ps) ld ds lu us)],[some (Tre l (.int t) la (AS ps) ld ds lu us)],n⟩) (σ:=[some (Tre l (.int t) la (AS ps) ld ds lu us)]) (tm:=[some (Tre l (.int t) la (AS ps) ld ds lu us)]) (n:=n)
  (by unfold mEnm;walk_at "";rfl) rfl (by rw[zl];simp[z3m];lia) (fun i rest=>by
   show some (((AS ps)[i]?).map fun d=>D.tup [.int i,d])=_
   rw[z8Q]) (by show(AS ps).length=_;simp[AS,z3m]) (by
   intro q hq tm m
   refine⟨m,Nat.le_refl _, ?_⟩
   simp only[List.map_cons,List.map_nil,List.getElem?_cons_zero,Option.getD_some]
   unfold z3m at hq
   rcases List.mem_cons.1 hq with rfl|hm
   ·walk_at ""
    rw[ze8]
    walk_at ""
    rfl
   ·obtain⟨z,_,rfl⟩:=List.mem_map.1 hm
    walk_at ""
    rfl) (by
   intro q hq _ tm m
   refine⟨m,Nat.le_refl _, ?_⟩
   walk_at "")
 rw[z6e] at h2
 refine⟨n',h1, ?_⟩
 unfold z0I z1A
 walk_at ""
 rw[h2]
 walk_at ""
noncomputable def DS(B n:Nat)(ds:List D):Prop:= ∀d∈ds,Rs B d=true/\Up n d
noncomputable abbrev Tn(l t:Nat)(ps:List Nat)(ds:List D)(us:List (Option Nat)):D:=Tre l (.int t) (l+1) (AS ps) (l+2) ds (l+3) (US us)
theorem DS.lab{B n k:Nat}{ds:List D}(h:DS B n ds)(hk:k∈labsL ds):B<=k/\k<n:=by
 obtain⟨d,hd,hk⟩:=labsL_mem hk
 exact⟨z0J d (h d hd).1 hk,(h d hd).2 k hk⟩
theorem DS.fnd{B n:Nat}{ds:List D}(h:DS B n ds): ∀k∈labsL ds,(findL k ds).isSome=true:=fun k hk=>findL_sp ds (rsL_sp (n:=B) ds (z0C.mpr fun d hd=>(h d hd).1)) hk
theorem DS.up{B n m:Nat}{ds:List D}(h:DS B n ds)(hm:n<=m):DS B m ds:=fun d hd=>⟨(h d hd).1,fun k hk=>Nat.lt_of_lt_of_le ((h d hd).2 k hk) hm⟩
theorem DS.app{B n:Nat}{ds:List D}{d:D}(h:DS B n ds)(h1:Rs B d=true)(h2:Up n d):DS B n (ds++[d]):=fun e he=>by
 rcases List.mem_append.1 he with he|he
 ·exact h e he
 ·rw[List.mem_singleton.1 he];exact⟨h1,h2⟩
theorem DS.tl{B n l:Nat}{ds:List D}{ps:List Nat}{us:List (Option Nat)}(h:DS B n ds)(hB:l+4<=B):TL l (l+1) (l+2) (l+3) (AS ps) ds (US us):=
 ⟨by lia,by lia,by lia,by lia,by lia,by lia,z8J ps,z6a us,fun k hk=>by have:=h.lab hk;lia⟩
theorem z0z{l t:Nat}{ps:List Nat}{ds:List D}{us:List (Option Nat)}{j:Nat}:j∈labs (Tn l t ps ds us)↔(l<=j/\j<=l+3)\/j∈labsL ds:=by
 simp only[Tn,Tre,labs,labsL,z8J,z6a,List.append_nil,List.nil_append,List.mem_cons,List.mem_append,List.not_mem_nil,or_false]
 constructor
 ·rintro (h|h|(h|h)|h)
  ·exact .inl ⟨by lia,by lia⟩
  ·exact .inl ⟨by lia,by lia⟩
  ·exact .inl ⟨by lia,by lia⟩
  ·exact .inr h
  ·exact .inl ⟨by lia,by lia⟩
 ·rintro (h|h)
  ·by_cases h1:j=l
   ·exact .inl h1
   ·by_cases h2:j=l+1
    ·exact .inr (.inl h2)
    ·by_cases h3:j=l+2
     ·exact .inr (.inr (.inl (.inl h3)))
     ·exact .inr (.inr (.inr (by lia)))
  ·exact .inr (.inr (.inl (.inr h)))
theorem zbO{T x:D}{r:List D}(h: ∀j∈labs x,j∉labs T)(hr:labsL r=[]):rp (fun k=>findL k (T::r)) x=x:=z1h x fun j hj=>findL_none _ (by
 rw[labsL,hr,List.append_nil];exact h j hj)
theorem z2Z{l t t':Nat}{ps ps':List Nat}{ds ds':List D}{us us':List (Option Nat)}{r:List D}:rp (fun k=>findL k (Tn l t' ps' ds' us'::r)) (Tn l t ps ds us)=Tn l t' ps' ds' us':=z49
theorem zbP{l ld lu la:Nat}{t:Int}{as as' ds us:List D}(h:TL l la ld lu as ds us):rp (pl la (.lst la as')) (Tre l (.int t) la as ld ds lu us)=Tre l (.int t) la as' ld ds lu us:=by
 have e1:rpL (pl la (.lst la as')) us=us:=rpL_id us fun k hk=>by rw[h.eu] at hk;cases hk
 have e2:rpL (pl la (.lst la as')) ds=ds:=rpL_id ds fun k hk=>by simp only[pl,if_neg (h.ed k hk).2.1]
 have p1:pl la (.lst la as') l=none:=if_neg h.n1
 have p2:pl la (.lst la as') ld=none:=if_neg fun e=>h.n4 e.symm
 have p3:pl la (.lst la as') lu=none:=if_neg fun e=>h.n5 e.symm
 have p4:pl la (.lst la as') la=some (.lst la as'):=if_pos rfl
 simp only[Tre,rp,rpL,p1,p2,p3,p4,e1,e2]
theorem zbQ{l ld lu la:Nat}{t:Int}{as ds ds' us:List D}(h:TL l la ld lu as ds us):rp (pl ld (.lst ld ds')) (Tre l (.int t) la as ld ds lu us)=Tre l (.int t) la as ld ds' lu us:=by
 have e1:rpL (pl ld (.lst ld ds')) us=us:=rpL_id us fun k hk=>by rw[h.eu] at hk;cases hk
 have e2:rpL (pl ld (.lst ld ds')) as=as:=rpL_id as fun k hk=>by rw[h.ea] at hk;cases hk
 have p1:pl ld (.lst ld ds') l=none:=if_neg h.n2
 have p2:pl ld (.lst ld ds') la=none:=if_neg h.n4
 have p3:pl ld (.lst ld ds') lu=none:=if_neg fun e=>h.n6 e.symm
 have p4:pl ld (.lst ld ds') ld=some (.lst ld ds'):=if_pos rfl
 simp only[Tre,rp,rpL,p1,p2,p3,p4,e1,e2]
theorem z4d{B n l t t' k:Nat}{ps:List Nat}{ds:List D}{us us':List (Option Nat)}(h:DS B n ds)(hB:l+4<=B)(hk:k∈labs (Tn l t ps ds us)):(findT k (Tn l t' ps ds us')).isSome=true:=z5f (r:=[]) (h.tl hB) h.fnd hk
theorem zfN{B n l t:Nat}{ps:List Nat}{ds:List D}{us:List (Option Nat)}{d:D}{m:Nat}(hp:Pp ps)(h:DS B n ds)(hB:l+4<=B)(hn:B<=n)(ht:t<=ps.length)(hu:us.length=ps.length+1)(hb:ps.length<900)(hl:ds.length<1000)(hr:Rs m d=true)(hd:(er d).depth<=11)(hm:l+4<=m)(hx: ∀j∈labs d,j∉labsL ds/\j<n):
 ∃d' n',Cq n n' d d'/\z1t [Tn l t ps ds us,d] n= .ok (.int (ps.length+1:Nat)) [Tn l (ps.length+1) (ps++[t]) (ds++[d']) (z0f (ps++[t]) 1000 (us++[none]) (ps.length+1)),d] n':=by
 obtain⟨d',n',cq,e⟩:=zan d m n hr hd
 have r1:=cq.rs
 have r2:=cq.up
 have hn':=cq.le
 have lo: ∀j∈labs d',n<=j:=fun j hj=>z0J d' r1 hj
 have rB:=z3i hn d' r1
 have fr: ∀(j:Nat) (q:D),j<m->rp (pl j q) d=d:=fun j q hj=>z0a fun hk=>by have:=z0J d hr hk;lia
 have hds:=(h.up hn').app rB r2
 have TL0:TL l (l+1) (l+2) (l+3) (AS ps) ds (US us):=h.tl hB
 have TL1:TL l (l+1) (l+2) (l+3) (AS (ps++[t])) ds (US us):=h.tl hB
 have TL2:TL l (l+1) (l+2) (l+3) (AS (ps++[t])) (ds++[d']) (US us):=hds.tl hB
 have TL3:TL l (l+1) (l+2) (l+3) (AS (ps++[t])) (ds++[d']) (US (us++[none])):=hds.tl hB
 have eA:AS ps++[.int t]=AS (ps++[t]):=by simp[AS]
 have eU:US us++[.non]=US (us++[none]):=by simp[US,oD]
 have zA:(AS ps).length<sizeLine:=by rw[zl];simp[AS];lia
 have zU:(US us).length<sizeLine:=by rw[zl];simp[US];lia
 have zD:ds.length<sizeLine:=by rw[zl];lia
 have c1:objC "Tree" "stand_at" (Tre l (.int t) (l+1) (AS (ps++[t])) (l+2) (ds++[d']) (l+3) (US (us++[none])))=true:=by unfold Tre;simp only[objC];decide
 have hp':Pp (ps++[t]):=hp.app ht
 have e9:((AS (ps++[t])).length:Int) - 1=((ps.length+1:Nat):Int):=by simp[AS]
 refine⟨d',n',cq, ?_⟩
 unfold z1t z2C
 walk_at ""
 rw[z5b ⟨zA,by simp[labs]⟩,eA,z4D]
 simp only[rpO,List.map_cons,List.map_nil,Option.map_some,zbP TL0,fr (l+1) _ (by lia)]
 walk_at ""
 rw[e]
 walk_at ""
 rw[z5b ⟨zD,fun q=>by have:=lo _ q;lia⟩,z4D]
 simp only[rpO,List.map_cons,List.map_nil,Option.map_some,zbQ TL1,fr (l+2) _ (by lia)]
 walk_at ""
 rw[z5b ⟨zU,by simp[labs]⟩,eU,z4D]
 simp only[rpO,List.map_cons,List.map_nil,Option.map_some,z8I TL2,fr (l+3) _ (by lia)]
 walk_at ""
 simp only[c1]
 walk_at ""
 have o1:rp (fun k=>findL k [Tn l (ps.length+1) (ps++[t]) (ds++[d']) (z0f (ps++[t]) 1000 (us++[none]) (ps.length+1)), .int ((ps.length+1:Nat):Int)]) d=d:=zbO (fun j hj=>by
  have h1:=hx j hj
  have h2:=z0J d hr hj
  rw[z0z,labsL_app]
  simp only[labsL,List.append_nil,List.mem_append,not_or]
  exact⟨by lia,h1.1,fun q=>by have:=lo j q;lia⟩) rfl
 rw[e9,z6M hp' TL3 (by simp) (by simp;lia) (by lia),z0s]
 ·simp only[rpO,List.map_cons,List.map_nil,Option.map_some,z49,o1]
  walk_at ""
 ·intro k hk
  rw[labsL,show labsL [D.int ((ps.length+1:Nat):Int)]=[] from rfl,List.append_nil] at hk
  exact z0h (List.mem_cons_self ..) (z5f (r:=[]) TL3 hds.fnd hk)
 ·intro e
  injection e with e _
  simp only[rpO,List.map_cons,List.map_nil,Option.map_some,z49,o1]
  simp only[e,and_self]
noncomputable def wy(ps:List Nat):Nat->Nat->List Nat
 |0,_=>[]
 |f+1,k=>if k=0 then[] else k::wy ps f (par ps k)
theorem z30: ∀ds:List D,(labsL ds.reverse).Perm (labsL ds)
 |[]=> .refl _
 |d::ds=>by
  rw[List.reverse_cons,labsL_app,labsL,labsL,labsL,List.append_nil]
  exact((z30 ds).append_right _).trans List.perm_append_comm
theorem z4e: ∀ds:List D,erL ds.reverse=(erL ds).reverse
 |[]=>rfl
 |d::ds=>by rw[List.reverse_cons,z4c,z4e ds];simp[erL]
theorem CqL.rev{lo hi:Nat}{ds ys:List D}(h:CqL lo hi ds ys):CqL lo hi ds.reverse ys.reverse where
 er:=by rw[z4e,z4e,h.er]
 rs:=z0C.2 fun d hd=>z0C.1 h.rs d (List.mem_reverse.1 hd)
 up:=fun k hk=>h.up k ((z30 ys).mem_iff.1 hk)
 nd:=(z30 ys).nodup_iff.2 h.nd
 le:=h.le
noncomputable def paB:MS:=(seqS (z0V (z0X (mVar 1) [(z0d (z0E 12) [(mBin (mFld (mVar 0) "deeds" z1k) (mVar 2) ixD)])] appD))
 (sAsg (.nm 2) (mBin (mFld (mVar 0) "above" z0j) (mVar 2) ixD)))
theorem zbR{a b:D}{k n:Nat}{r:List (Option D)}:(mBoo (mBin (mVar 2) (mC (.int 0)) gtD)) ⟨[some a,some b,some (.int k)],r,n⟩= .ok (decide (0<k)) ⟨[some a,some b,some (.int k)],r,n⟩:=by
 walk_at ""
 have e:decide ((0:Int)<(k:Int))=decide (0<k):=by simp
 first|rw[e]|skip
theorem zbS{B p l t k n lo:Nat}{ps:List Nat}{ds pre acc:List D}{us:List (Option Nat)}(h:DS B p ds)(hB:l+4<=B)(hp:B<=p)(h0:0<k)(hk:k<=ps.length)(hl:ds.length=ps.length+1)(hd: ∀d∈ds,(er d).depth<=11)(hz:pre.length<2000)(c:CqL lo n pre acc)(hlo:p<lo):
 ∃acc' n',CqL lo n' (pre++[ds.getD k .non]) acc'/\paB ⟨[some (Tn l t ps ds us),some (.lst p acc),some (.int k)],[some (Tn l t ps ds us)],n⟩= .nx ⟨[some (Tn l t ps ds us),some (.lst p acc'),some (.int (par ps k:Nat))],[some (Tn l t ps ds us)],n'⟩:=by
 have hlt:k<ds.length:=by lia
 have hdk:ds.getD k .non∈ds:=by rw[List.getD_eq_getElem?_getD,List.getElem?_eq_getElem hlt];exact List.getElem_mem hlt
 obtain⟨y,n',q,e⟩:=zan (ds.getD k .non) B n (h _ hdk).1 (hd _ hdk)
 have e1:atI ds (k:Int)=some (ds.getD k .non):=z2t (by lia) (by rw[Int.toNat_natCast,List.getD_eq_getElem?_getD,List.getElem?_eq_getElem hlt];rfl)
 have e2:atI (AS ps) (k:Int)=some (.int (par ps k)):=z2t (by lia) (ze4 h0 hk)
 have ln:=c.len
 have fT: ∀q,rp (pl p q) (Tn l t ps ds us)=Tn l t ps ds us:=fun q=>z0a fun hj=>(z0z.1 hj).elim (fun hj=>by lia) fun hj=>by have:=h.lab hj;lia
 refine⟨acc++[y],n',c.snoc q, ?_⟩
 unfold paB
 walk_at ""
 rw[e1]
 walk_at ""
 rw[e]
 walk_at ""
 rw[z5b ⟨by rw[zl];lia,fun hj=>by have:=z0J y q.rs hj;have:=c.le;lia⟩]
 walk_at ""
 simp only[fT]
 try (walk_at "")
 rw[e2]
 walk_at ""
theorem z8R{B p l t lo:Nat}{ps:List Nat}{ds:List D}{us:List (Option Nat)}(hpp:Pp ps)(h:DS B p ds)(hB:l+4<=B)(hp:B<=p)(hl:ds.length=ps.length+1)(hd: ∀d∈ds,(er d).depth<=11)(hlo:p<lo): ∀(f k n:Nat) (pre acc:List D),k<=ps.length->k<f->pre.length+k<2000->CqL lo n pre acc->
 ∃acc' n',CqL lo n' (pre++(wy ps f k).map fun j=>ds.getD j .non) acc'/\z0Z (mBoo (mBin (mVar 2) (mC (.int 0)) gtD)) paB f ⟨[some (Tn l t ps ds us),some (.lst p acc),some (.int k)],[some (Tn l t ps ds us)],n⟩= .nx ⟨[some (Tn l t ps ds us),some (.lst p acc'),some (.int (0:Nat))],[some (Tn l t ps ds us)],n'⟩
 |0,k,n,pre,acc,_,hf,_,_=>absurd hf (Nat.not_lt_zero _)
 |f+1,k,n,pre,acc,hk,hf,hz,c=>by
  have cd:=zbR (a:=Tn l t ps ds us) (b:= .lst p acc) (k:=k) (n:=n) (r:=[some (Tn l t ps ds us)])
  by_cases h0:0<k
  ·have hq:=hpp k h0 hk
   rw[decide_eq_true h0] at cd
   obtain⟨acc1,n1,c1,e1⟩:=zbS (t:=t) (us:=us) h hB hp h0 hk hl hd (by lia) c hlo
   obtain⟨acc2,n2,c2,e2⟩:=z8R (t:=t) (us:=us) hpp h hB hp hl hd hlo f (par ps k) n1 (pre++[ds.getD k .non]) acc1 (by lia) (by lia) (by simp;lia) c1
   refine⟨acc2,n2, ?_, ?_⟩
   ·rw[wy,if_neg (by lia),List.map_cons]
    rw[List.append_assoc] at c2
    exact c2
   ·rw[z5c cd e1,e2]
  ·have hz:k=0:=by lia
   subst hz
   rw[decide_eq_false h0] at cd
   refine⟨acc,n, ?_, ?_⟩
   ·rw[wy,if_pos rfl,List.map_nil,List.append_nil];exact c
   ·rw[z48 cd]
theorem zbT{B n l t:Nat}{ps:List Nat}{ds:List D}{us:List (Option Nat)}(hpp:Pp ps)(h:DS B n ds)(hB:l+4<=B)(hn:B<=n)(hl:ds.length=ps.length+1)(hd: ∀d∈ds,(er d).depth<=11)(ht:t<=ps.length)(hb:ps.length<900):
 ∃ys n',CqL (n+1) n' ((wy ps 1000 t).map fun j=>ds.getD j .non).reverse ys/\z0S [Tn l t ps ds us] n= .ok (.lst n ys) [Tn l t ps ds us] n':=by
 obtain⟨acc,n',c,e⟩:=z8R (t:=t) (us:=us) (lo:=n+1) hpp h hB hn hl hd (by lia) 1000 t (n+1) [] [] ht (by lia) (by simp;lia) .nil
 have fT: ∀q,rp (pl n q) (Tn l t ps ds us)=Tn l t ps ds us:=fun q=>z0a fun hj=>(z0z.1 hj).elim (fun hj=>by lia) fun hj=>by have:=h.lab hj;lia
 rw[List.nil_append] at c
 refine⟨acc.reverse,n',c.rev, ?_⟩
 unfold z0S z1Y
 rw[show(seqS (z0V (z0X (mVar 1) [(z0d (z0E 12) [(mBin (mFld (mVar 0) "deeds" z1k) (mVar 2) ixD)])] appD))
  (sAsg (.nm 2) (mBin (mFld (mVar 0) "above" z0j) (mVar 2) ixD)))=paB from rfl]
 walk_at ""
 unfold z2L
 rw[e]
 walk_at ""
 rw[show ∀s:Stt,revD (.lst n acc) [] s= .ok .non (s.put n (.lst n acc.reverse)) from fun _=>rfl]
 walk_at ""
 simp only[fT]
 try (walk_at "")
noncomputable def pr(ps:List Nat)(i:Nat):Nat:=if i=0 then 0 else par ps i
noncomputable def ND(ps:List Nat)(cs:List D):List D:=(List.range (ps.length+1)).map fun i=>D.tup [.int (pr ps i:Nat),cs.getD i .non]
theorem ze9{ps:List Nat}{cs:List D}{t:Nat}{c:D}(hl:cs.length=ps.length+1):ND (ps++[t]) (cs++[c])=ND ps cs++[.tup [.int t,c]]:=by
 unfold ND
 rw[List.length_append,List.length_singleton,List.range_succ,List.map_append]
 congr 1
 ·refine List.map_congr_left fun i hi=> ?_
  have:=List.mem_range.1 hi
  have e:(cs++[c]).getD i .non=cs.getD i .non:=by rw[List.getD_eq_getElem?_getD,List.getD_eq_getElem?_getD,List.getElem?_append_left (by lia)]
  rw[e]
  by_cases h0:i=0
  ·simp[pr,h0]
  ·simp only[pr,if_neg h0,z8K (Nat.pos_of_ne_zero h0) (show i<=ps.length by lia)]
 ·have e:(cs++[c]).getD (ps.length+1) .non=c:=by rw[List.getD_eq_getElem?_getD,List.getElem?_append_right (by lia),hl,Nat.sub_self];rfl
  simp only[List.map_cons,List.map_nil,e]
  simp[pr,z8L]
theorem zbU{ps:List Nat}{cs:List D}{k:Nat}(h:k<=ps.length):atI (ND ps cs) (k:Int)=some (.tup [.int (pr ps k:Nat),cs.getD k .non]):=z2t (by lia) (by
 have:k<ps.length+1:=by lia
 simp[ND,this])
theorem z4f(ps:List Nat)(cs:List D):(ND ps cs).length=ps.length+1:=by simp[ND]
theorem z8S{ps:List Nat}{cs:List D}(hl:cs.length=ps.length+1){j:Nat}(h:j∈labsL (ND ps cs)):j∈labsL cs:=by
 obtain⟨e,he,hj⟩:=labsL_mem h
 obtain⟨i,hi,rfl⟩:=List.mem_map.1 he
 have hi:=List.mem_range.1 hi
 simp only[labs,labsL,List.nil_append,List.append_nil] at hj
 rw[List.getD_eq_getElem?_getD,List.getElem?_eq_getElem (by lia)] at hj
 exact z0L (List.getElem_mem _) hj
theorem zea{i j:Int}{s:Stt}(h: -(2^62)<=i/\i<2^62/\-(2^62)<=j/\j<2^62):rng2 [.int i, .int j] s= .ok (kRng i (j -i).toNat) s:=by simp only[rng2,if_pos h];rfl
noncomputable def duB:MS:=(seqS (sAsg (.nm 4) (mBin (mCB [(mBin (mBin (mVar 2) (mVar 5) ixD) (mC (.int 1)) ixD)] lstM) (mVar 4) addD))
 (sAsg (.nm 5) (mBin (mBin (mVar 2) (mVar 5) ixD) (mC (.int 0)) ixD)))
section
variable{T H a1:D}{o6 o7 o8:Option D}{tm:List (Option D)}{ln:Nat}{ps:List Nat}{cs:List D}
theorem zbV{N w:D}{k n:Nat}:(mBoo (mBin (mVar 5) (mC (.int 0)) gtD)) ⟨[some T,some a1,some N,some H,some w,some (.int k),o6,o7,o8],tm,n⟩= .ok (decide (0<k)) ⟨[some T,some a1,some N,some H,some w,some (.int k),o6,o7,o8],tm,n⟩:=by
 walk_at ""
 have e:decide ((0:Int)<(k:Int))=decide (0<k):=by simp
 first|rw[e]|skip
theorem z8T(hpp:Pp ps)(hl:cs.length=ps.length+1): ∀(f k n q:Nat) (ys:List D),k<=ps.length->k<f->ys.length+k<2000->q<n->
 ∃q' n',n<=n'/\q'<n'/\(q'=q\/n<=q')/\z0Z (mBoo (mBin (mVar 5) (mC (.int 0)) gtD)) duB f ⟨[some T,some a1,some (.lst ln (ND ps cs)),some H,some (.lst q ys),some (.int k),o6,o7,o8],tm,n⟩= .nx ⟨[some T,some a1,some (.lst ln (ND ps cs)),some H,some (.lst q' (((wy ps f k).map fun j=>cs.getD j .non).reverse++ys)),some (.int (0:Nat)),o6,o7,o8],tm,n'⟩
 |0,k,n,q,ys,_,hf,_,_=>absurd hf (Nat.not_lt_zero _)
 |f+1,k,n,q,ys,hk,hf,hz,hq=>by
  have cd:=zbV (T:=T) (H:=H) (a1:=a1) (o6:=o6) (o7:=o7) (o8:=o8) (tm:=tm) (N:= .lst ln (ND ps cs)) (w:= .lst q ys) (k:=k) (n:=n)
  by_cases h0:0<k
  ·have hp:=hpp k h0 hk
   rw[decide_eq_true h0] at cd
   have e1:duB ⟨[some T,some a1,some (.lst ln (ND ps cs)),some H,some (.lst q ys),some (.int k),o6,o7,o8],tm,n⟩= .nx ⟨[some T,some a1,some (.lst ln (ND ps cs)),some H,some (.lst (n+1) ([cs.getD k .non]++ys)),some (.int (par ps k:Nat)),o6,o7,o8],tm,n+1+1⟩:=by
    unfold duB
    walk_at ""
    rw[zbU hk]
    walk_at ""
    rw[zdI (by rw[zl];simp;lia)]
    walk_at ""
    rw[zbU hk]
    walk_at ""
    simp only[pr,if_neg (show ¬k=0 by lia)]
    try (walk_at "")
    try rfl
   obtain⟨q2,n2,h1,h2,h3,e2⟩:=z8T hpp hl f (par ps k) (n+1+1) (n+1) ([cs.getD k .non]++ys) (by lia) (by lia) (by simp;lia) (by lia)
   refine⟨q2,n2,by lia,h2, .inr (by lia), ?_⟩
   rw[z5c cd e1,e2,wy,if_neg (by lia),List.map_cons,List.reverse_cons]
   simp
  ·have hz:k=0:=by lia
   subst hz
   rw[decide_eq_false h0] at cd
   refine⟨q,n,Nat.le_refl _,hq, .inl rfl, ?_⟩
   rw[z48 cd,wy,if_pos rfl,List.map_nil,List.reverse_nil,List.nil_append]
end
theorem z9X{ln n t:Nat}{ps:List Nat}{cs:List D}{σ tm:List (Option D)}(hl:ps.length<900)(h1:σ[1]? =some (some (.int t)))(h2:σ[2]? =some (some (.lst ln (ND ps cs)))):
 ∃n',n<=n'/\z1i (z5z [(mC (.int 1)),(mCB [(mVar 2)] lenD)]) (.nm 0) (mBoo (mBin (mBin (mBin (mVar 2) (mVar 0) ixD) (mC (.int 0)) ixD) (mVar 1) eqD)) (mVar 0) 1 [1,2] ⟨σ,tm,n⟩= .ok (.lst n' (IL (kids ps t))) ⟨σ,tm,n'+1⟩:=by
 obtain⟨n',g1,g2⟩:=z8H (mi:=z5z [(mC (.int 1)),(mCB [(mVar 2)] lenD)]) (K:=kRng 1 ps.length) (mt:=(mBoo (mBin (mBin (mBin (mVar 2) (mVar 0) ixD) (mC (.int 0)) ixD) (mVar 1) eqD))) (me:=mVar 0) (p:=fun d=>match d with| .int i=>par ps i.toNat==t|_=>false) (g:=id) (items:=(List.range ps.length).map fun i=>D.int ((i+1:Nat):Int)) (its:=[]) (ix:=[1,2]) (s:=⟨σ,tm,n⟩) (σ:=σ) (tm:=tm) (n:=n)
  (by
   unfold z5z
   walk_at ""
   simp only[h2]
   walk_at ""
   rw[z4f,zea (by lia),show(((ps.length+1:Nat):Int) - 1).toNat=ps.length by lia]
   try rfl) rfl (by rw[zl];simp;lia) (fun i rest=>by
   show some (if i<ps.length then some (D.int (1+(i:Int))) else none)=_
   by_cases h:i<ps.length
   ·rw[if_pos h];simp[h];lia
   ·rw[if_neg h];simp[h]) (by simp;rfl) (by
   intro d hd tm m
   refine⟨m,Nat.le_refl _, ?_⟩
   obtain⟨i,hi,rfl⟩:=List.mem_map.1 hd
   have hi:=List.mem_range.1 hi
   simp only[List.map_cons,List.map_nil,h1,h2,Option.getD_some]
   walk_at ""
   rw[zbU (by lia)]
   walk_at ""
   simp only[pr,if_neg (show ¬i+1=0 by lia),Int.toNat_natCast]
   have e:(((par ps (i+1):Nat):Int)==(t:Int))=(par ps (i+1)==t):=by
    rw[Bool.eq_iff_iff,beq_iff_eq,beq_iff_eq];lia
   rw[e]) (by
   intro d hd _ tm m
   refine⟨m,Nat.le_refl _, ?_⟩
   walk_at ""
   try rfl)
 refine⟨n',g1, ?_⟩
 rw[g2]
 congr 2
 unfold IL kids
 rw[List.filter_map,List.map_map,List.filter_map,List.map_map]
 congr 1
mutual
theorem zao{f:Nat->Option D}: ∀t:D,Sp t=true->(labs t).Nodup->(∀j∈labs t,f j=none\/f j=findT j t)->rp f t=t
 | .non,_,_,_=>rfl
 | .bool _,_,_,_=>rfl
 | .int _,_,_,_=>rfl
 | .str _,_,_,_=>rfl
 | .lst l ds,hs,hn,h=>by
  simp only[Sp] at hs
  simp only[labs] at hn h
  obtain⟨n1,n2⟩:=List.nodup_cons.1 hn
  rw[rp]
  rcases h l (by simp) with e|e
  ·rw[e]
   simp only
   rw[rp_mixL ds hs n2 fun j hj=>(h j (by simp[hj])).imp id fun q=>by
    rw[q,findT,if_neg (fun e2:l=j=>n1 (by rw[e2];exact hj))]]
  ·rw[e,findT,if_pos rfl]
 | .tup ds,hs,hn,h=>by
  simp only[Sp] at hs
  simp only[labs] at hn h
  rw[rp,rp_mixL ds hs hn fun j hj=>(h j hj).imp id fun q=>by rw[q,findT]]
 | .ro _,h,_,_=>by simp[Sp] at h
 | .dct _ _ _,h,_,_=>by simp[Sp] at h
 | .obj _ _ _ _,h,_,_=>by simp[Sp] at h
 | .exc _,h,_,_=>by simp[Sp] at h
 | .fn _,h,_,_=>by simp[Sp] at h
 | .fdc _ _,h,_,_=>by simp[Sp] at h
theorem rp_mixL{f:Nat->Option D}: ∀t:List D,SpL t=true->(labsL t).Nodup->(∀j∈labsL t,f j=none\/f j=findL j t)->rpL f t=t
 |[],_,_,_=>rfl
 |d::ds,hs,hn,h=>by
  simp only[SpL,Bool.and_eq_true] at hs
  simp only[labsL] at hn h
  obtain⟨n1,n2,n3⟩:=List.nodup_append.1 hn
  rw[rpL,zao d hs.1 n1 fun j hj=>(h j (List.mem_append_left _ hj)).imp id fun q=>by rw[q,z1B (z0r _ hs.1 hj)],
   rp_mixL ds hs.2 n2 fun j hj=>(h j (List.mem_append_right _ hj)).imp id fun q=>by rw[q,z0q fun q=>n3 j q j hj rfl]]
end
theorem z6P{j:Nat}: ∀{ds:List D} {x:D},findL j ds=some x->∃g∈ds,findT j g=some x
 |d::ds,x,h=>by
  rw[findL] at h
  cases e:findT j d with
  |some y=>rw[e] at h;injection h with h;subst h;exact⟨d,by simp,e⟩
  |none=>rw[e] at h;obtain⟨g,hg,q⟩:=z6P h;exact⟨g,by simp[hg],q⟩
theorem z5h{cs:List D}{i:Nat}(h:i<cs.length):cs.getD i .non=cs[i]:=by rw[List.getD_eq_getElem?_getD,List.getElem?_eq_getElem h];rfl
theorem z6f: ∀{cs:List D} {i k j:Nat},(labsL cs).Nodup->i<cs.length->k<cs.length->j∈labs (cs.getD i .non)->j∈labs (cs.getD k .non)->i=k
 |c::cs,0,0,j,_,_,_,_,_=>rfl
 |c::cs,0,k+1,j,hn,_,hk,h1,h2=>by
  simp only[labsL] at hn
  have h2':j∈labsL cs:=by
   have e:(c::cs).getD (k+1) .non=cs.getD k .non:=by simp[List.getD_eq_getElem?_getD]
   rw[e,z5h (by simpa using hk)] at h2
   exact z0L (List.getElem_mem _) h2
  exact absurd rfl ((List.nodup_append.1 hn).2.2 j h1 j h2')
 |c::cs,i+1,0,j,hn,hi,_,h1,h2=>by
  simp only[labsL] at hn
  have h1':j∈labsL cs:=by
   have e:(c::cs).getD (i+1) .non=cs.getD i .non:=by simp[List.getD_eq_getElem?_getD]
   rw[e,z5h (by simpa using hi)] at h1
   exact z0L (List.getElem_mem _) h1
  exact absurd rfl ((List.nodup_append.1 hn).2.2 j h2 j h1')
 |c::cs,i+1,k+1,j,hn,hi,hk,h1,h2=>by
  simp only[labsL] at hn
  have e: ∀m,(c::cs).getD (m+1) .non=cs.getD m .non:=fun m=>by simp[List.getD_eq_getElem?_getD]
  rw[e] at h1 h2
  rw[z6f (List.nodup_append.1 hn).2.1 (by simpa using hi) (by simpa using hk) h1 h2]
theorem zeb: ∀{cs:List D} {i:Nat},(labsL cs).Nodup->i<cs.length->(labs (cs.getD i .non)).Nodup:=fun{cs i} hn hi=>by
 rw[z5h hi]
 obtain⟨a,b,e⟩:=List.append_of_mem (List.getElem_mem hi)
 rw[e,labsL_app,labsL] at hn
 exact(List.nodup_append.1 (List.nodup_append.1 hn).2.1).1
theorem z8U{ps:List Nat}(hp:Pp ps): ∀(f k:Nat),k<=ps.length->∀j∈wy ps f k,0<j/\j<=k
 |0,k,_,j,h=>by simp[wy] at h
 |f+1,k,hk,j,h=>by
  rw[wy] at h
  by_cases h0:k=0
  ·rw[if_pos h0] at h;cases h
  ·rw[if_neg h0] at h
   have hq:=hp k (by lia) hk
   rcases List.mem_cons.1 h with rfl|h
   ·exact⟨by lia,Nat.le_refl _⟩
   ·have:=z8U hp f _ (by lia) j h;exact⟨this.1,by lia⟩
theorem zap{ps:List Nat}(hp:Pp ps): ∀(f k:Nat),k<=ps.length->(wy ps f k).length<=k
 |0,k,_=>by simp[wy]
 |f+1,k,hk=>by
  rw[wy]
  by_cases h0:k=0
  ·rw[if_pos h0];simp
  ·rw[if_neg h0]
   have hq:=hp k (by lia) hk
   have:=zap hp f (par ps k) (by lia)
   simp;lia
theorem zec{ps:List Nat}{cs:List D}(hp:Pp ps)(hl:cs.length=ps.length+1)(hn:(labsL cs).Nodup): ∀(f k:Nat),k<=ps.length->(labsL ((wy ps f k).map fun j=>cs.getD j .non)).Nodup
 |0,k,_=>by simp[wy,labsL]
 |f+1,k,hk=>by
  rw[wy]
  by_cases h0:k=0
  ·rw[if_pos h0];simp[labsL]
  ·rw[if_neg h0,List.map_cons,labsL]
   have hq:=hp k (by lia) hk
   refine List.nodup_append.2 ⟨zeb hn (by lia),zec hp hl hn f _ (by lia),fun x hx y hy e=> ?_⟩
   subst e
   obtain⟨d,hd,hx2⟩:=labsL_mem hy
   obtain⟨m,hm,rfl⟩:=List.mem_map.1 hd
   have hm':=z8U hp f _ (by lia) m hm
   have:=z6f hn (by lia) (by lia) hx hx2
   lia
mutual
noncomputable def chE:PyData->PyData
 | .tuple xs=> .tuple (chEL xs)
 | .list xs=> .list (chEL xs++[.int 7])
 | .none=> .none| .bool b=> .bool b| .int i=> .int i| .str x=> .str x| .dict k=> .dict k
noncomputable def chEL:List PyData->List PyData
 |[]=>[]
 |x::xs=>chE x::chEL xs
end
mutual
theorem zed: ∀t:D,Sp t=true->er (ch t)=chE (er t)
 | .non,_=>by simp only[ch,er,chE]
 | .bool _,_=>by simp only[ch,er,chE]
 | .int _,_=>by simp only[ch,er,chE]
 | .str _,_=>by simp only[ch,er,chE]
 | .tup ds,h=>by simp only[Sp] at h;simp only[ch,er,chE,erL_ch ds h]
 | .lst l ds,h=>by simp only[Sp] at h;simp only[ch,er,chE,z4c,erL_ch ds h,erL]
 | .ro _,h=>by simp[Sp] at h
 | .dct _ _ _,h=>by simp[Sp] at h
 | .obj _ _ _ _,h=>by simp[Sp] at h
 | .exc _,h=>by simp[Sp] at h
 | .fn _,h=>by simp[Sp] at h
 | .fdc _ _,h=>by simp[Sp] at h
theorem erL_ch: ∀t:List D,SpL t=true->erL (chL t)=chEL (erL t)
 |[],_=>rfl
 |d::ds,h=>by simp only[SpL,Bool.and_eq_true] at h;simp only[chL,erL,chEL,zed d h.1,erL_ch ds h.2]
end
structure Sm(E:PyData):Prop where
 a:PyData.leavesShort 64 E=true
 b:E.showable=true
 c:E.bulk<=40
 d:E.depth<=6
theorem smL: ∀{es:List D},(∀e∈es,Sm (er e))->PyData.leavesShortAll 64 (erL es)=true/\PyData.showableAll (erL es)=true/\PyData.bulkAll (erL es)<=41*es.length/\PyData.depthAll (erL es)<=6
 |[],_=>⟨rfl,rfl,Nat.le_refl _,Nat.zero_le _⟩
 |e::es,h=>by
  obtain⟨h1,h2,h3,h4⟩:=smL (es:=es) fun x hx=>h x (by simp[hx])
  have q:=h e (by simp)
  have q3:=q.c
  have q4:=q.d
  refine⟨?_, ?_, ?_, ?_⟩
  ·simp only[erL,PyData.leavesShortAll,Bool.and_eq_true];exact⟨q.a,h1⟩
  ·simp only[erL,PyData.showableAll,Bool.and_eq_true];exact⟨q.b,h2⟩
  ·simp only[erL,PyData.bulkAll,List.length_cons];lia
  ·simp only[erL,PyData.depthAll];lia
mutual
theorem z9Y: ∀t:D,Sp t=true->plain t=true
 | .non,_=>rfl
 | .bool _,_=>rfl
 | .int _,_=>rfl
 | .str _,_=>rfl
 | .tup ds,h=>by simp only[Sp] at h;simp only[Mi.plain];exact spL_plain ds h
 | .lst l ds,h=>by simp only[Sp] at h;simp only[Mi.plain];exact spL_plain ds h
 | .ro _,h=>by simp[Sp] at h
 | .dct _ _ _,h=>by simp[Sp] at h
 | .obj _ _ _ _,h=>by simp[Sp] at h
 | .exc _,h=>by simp[Sp] at h
 | .fn _,h=>by simp[Sp] at h
 | .fdc _ _,h=>by simp[Sp] at h
theorem spL_plain: ∀t:List D,SpL t=true->plainL t=true
 |[],_=>rfl
 |d::ds,h=>by simp only[SpL,Bool.and_eq_true] at h;simp only[plainL,z9Y d h.1,spL_plain ds h.2,Bool.and_self]
end
theorem zbW{l:Nat}{es:List D}{s:Stt}(hp:SpL es=true)(hs: ∀e∈es,Sm (er e))(hl:es.length<=2000):repD [.lst l es] s= .ok (.str (er (.lst l es)).shown) s:=by
 obtain⟨h1,h2,h3,h4⟩:=smL hs
 have b:=PyData.shown_le_bulk 64 (by decide) (er (.lst l es)) (by simp only[er,PyData.leavesShort];exact h1)
 have hc:(plainL es&&(er (.lst l es)).showable&&decide ((er (.lst l es)).depth<=60)&&decide ((er (.lst l es)).shown.length<=sizeLine))=true:=by
  simp only[Bool.and_eq_true,decide_eq_true_eq]
  refine⟨⟨⟨spL_plain es hp,by simp only[er,PyData.showable];exact h2⟩,by simp only[er,PyData.depth];lia⟩, ?_⟩
  rw[zl]
  have e:(er (.lst l es)).bulk=PyData.bulkAll (erL es):=by simp only[er,PyData.bulk]
  rw[e] at b
  lia
 simp only[repD,if_pos hc]
 rfl
noncomputable def Hd(e:D):Prop:= ∃l es,e= .tup [.lst l es, .str (er (.lst l es)).shown]/\SpL es=true/\(∀x∈es,Sm (er x))/\es.length<=2000
structure Hel(h n:Nat)(hs:List D):Prop where
 hd: ∀e∈hs,Hd e
 lo: ∀j∈labsL hs,h<j/\j<n
theorem Hel.up{h n m:Nat}{hs:List D}(H:Hel h n hs)(hm:n<=m):Hel h m hs:=⟨H.hd,fun j hj=>⟨(H.lo j hj).1,Nat.lt_of_lt_of_le (H.lo j hj).2 hm⟩⟩
structure Tw(h B l ln t:Nat)(ps:List Nat)(ds cs:List D)(us:List (Option Nat)):Prop where
 pp:Pp ps
 ht:t<=ps.length
 hu:us.length=ps.length+1
 ld:ds.length=ps.length+1
 lc:cs.length=ps.length+1
 np:ps.length<100
 dd:DS B h ds
 dc:DS B h cs
 nd:(labsL cs).Nodup
 dj: ∀j∈labsL ds,j∉labsL cs
 lB:l+4<=B
 nB:ln<B
 nl:ln<l\/l+3<ln
 Bh:B<=h
 eq: ∀i,0<i->i<=ps.length->er (ds.getD i .non)=er (cs.getD i .non)
 sm: ∀d∈ds,Sm (er d)/\Sm (chE (er d))
theorem zaq{ds cs:List D}: ∀ws:List Nat,(∀j∈ws,er (ds.getD j .non)=er (cs.getD j .non))->erL (ws.map fun j=>ds.getD j .non)=erL (ws.map fun j=>cs.getD j .non)
 |[],_=>rfl
 |w::ws,h=>by rw[List.map_cons,List.map_cons,erL,erL,h w (by simp),zaq ws fun j hj=>h j (by simp[hj])]
theorem z4J{cs:List D}{j:Nat}(h:j<cs.length):cs.getD j .non∈cs:=by rw[z5h h];exact List.getElem_mem h
theorem z8V: ∀{ys ds:List D} {y:D},erL ys=erL ds->y∈ys->∃d∈ds,er y=er d
 |y::ys,[],_,h,_=>by simp[erL] at h
 |y::ys,d::ds,z,h,hz=>by
  simp only[erL,List.cons.injEq] at h
  rcases List.mem_cons.1 hz with rfl|hz
  ·exact⟨d,by simp,h.1⟩
  ·obtain⟨e,he,q⟩:=z8V h.2 hz;exact⟨e,by simp[he],q⟩
theorem z8W: ∀{ys:List D} {z:D},z∈chL ys->∃y∈ys,z=ch y
 |y::ys,z,h=>by
  rw[chL] at h
  rcases List.mem_cons.1 h with rfl|h
  ·exact⟨y,by simp,rfl⟩
  ·obtain⟨e,he,q⟩:=z8W h;exact⟨e,by simp[he],q⟩
theorem z5P{i:Int}(h:i.natAbs<10^61):Sm (.int i):=by
 have e:(PyData.int i).shown.length<=64/\(PyData.int i).showable=true:=by
  constructor
  ·simp only[PyData.shown]
   have:= @PySem.int_text_length_le10 i 61 (by decide) h
   rw[PySem.ofString_length];lia
  ·simp only[PyData.showable,decide_eq_true_eq]
   by_cases h0:i.natAbs=0
   ·rw[h0];decide
   ·rw[Nat.log2_lt h0]
    exact Nat.lt_of_lt_of_le h (Nat.le_trans (show 10^61<=2^203 by decide) (Nat.pow_le_pow_right (by decide) (by decide)))
 exact⟨by simp only[PyData.leavesShort,decide_eq_true_eq];exact e.1,e.2,by simp[PyData.bulk],by simp[PyData.depth]⟩
theorem zfO(ks:List Nat):SpL (IL ks)=true:=by
 induction ks with
 |nil=>rfl
 |cons k ks ih=>show SpL (.int k::IL ks)=true;rw[SpL,ih];rfl
theorem zbX: ∀ks:List Nat,GdL (IL ks)
 |[]=>⟨rfl,rfl⟩
 |b::bs=>by
  show GdL (.int b::IL bs)
  exact GdL.cons.mpr ⟨⟨rfl,rfl⟩,zbX bs⟩
theorem zee(ks:List Nat):PyData.depthAll (erL (IL ks))=0:=by
 induction ks with
 |nil=>rfl
 |cons k ks ih=>show PyData.depthAll (erL (.int k::IL ks))=0;simp only[erL,er,PyData.depthAll,PyData.depth,ih];rfl
theorem zfP{l k:Nat}{ds es:List D}{s:Stt}(h:ds.length+es.length<=sizeLine/\l∉labsL es):extD (.lst l ds) [.lst k es] s= .ok .non (s.put l (.lst l (ds++es))):=by simp only[extD,seqD,if_pos h]
noncomputable def shB:MS:=(seqS (sAsg (.tp [.nm 7, .nm 8]) (mCB [(mMth "Tree" "path" z0S (mVar 0) []),(mMth "Tree" "under" z0I (mVar 0) [])] tupD))
 (seqS (sIf (mOr (mBoo (mBin (mVar 7) (mVar 4) neD)) (mOr (mNot (z0P (mIsi "list" (mVar 7)))) (mNot (z0P (z0d (z0y 12) [(mVar 7),(mVar 4)]))))) (sRet (mC (.bool false))) sNx)
 (seqS (sIf (mBoo (mBin (mVar 8) (z1i (z5z [(mC (.int 1)),(mCB [(mVar 2)] lenD)]) (.nm 0) (mBoo (mBin (mBin (mBin (mVar 2) (mVar 0) ixD) (mC (.int 0)) ixD) (mVar 1) eqD)) (mVar 0) 1 [1,2]) neD)) (sRet (mC (.bool false))) sNx)
 (seqS (z0V (z0X (mVar 8) [(mC (.int 7))] appD))
 (z0V (z0X (mVar 3) [(mCB [(mCB [(mVar 7),(mCB [(mVar 7)] repD)] tupD),(mCB [(mVar 8),(mCB [(mVar 8)] repD)] tupD)] lstM)] extD))))))
theorem zfQ{f:Nat->Option D}{l:Nat}{ds:List D}(h:f l=none):rp f (.lst l ds)= .lst l (rpL f ds):=by rw[rp,h]
theorem z9Z(ps:List Nat)(t:Nat):(kids ps t).length<=ps.length:=by
 unfold kids
 exact Nat.le_trans (List.length_filter_le _ _) (by simp)
theorem zbY{ps:List Nat}{t k:Nat}(h:k∈kids ps t):k<=ps.length:=by
 unfold kids at h
 obtain⟨i,hi,rfl⟩:=List.mem_map.1 (List.mem_filter.1 h).1
 have:=List.mem_range.1 hi;lia
theorem oP{l t:Nat}{ps:List Nat}{ds:List D}{us:List (Option Nat)}:objC "Tree" "path" (Tn l t ps ds us)=true:=by unfold Tn Tre;simp only[objC];decide
theorem oN{l t:Nat}{ps:List Nat}{ds:List D}{us:List (Option Nat)}:objC "Tree" "under" (Tn l t ps ds us)=true:=by unfold Tn Tre;simp only[objC];decide
theorem oH{l t:Nat}{ps:List Nat}{ds:List D}{us:List (Option Nat)}:objC "Tree" "here" (Tn l t ps ds us)=true:=by unfold Tn Tre;simp only[objC];decide
theorem oG{l t:Nat}{ps:List Nat}{ds:List D}{us:List (Option Nat)}:objC "Tree" "go" (Tn l t ps ds us)=true:=by unfold Tn Tre;simp only[objC];decide
theorem oO{l t:Nat}{ps:List Nat}{ds:List D}{us:List (Option Nat)}:objC "Tree" "do" (Tn l t ps ds us)=true:=by unfold Tn Tre;simp only[objC];decide
theorem zbZ{h B l ln t n q:Nat}{ps:List Nat}{ds cs hs:List D}{us:List (Option Nat)}{o6:Int}{o7 o8:Option D}(W:Tw h B l ln t ps ds cs us)(hq:h<q)(qn:q<n)(H:Hel h n hs)(hqs:q∉labsL hs)(hz:hs.length<1900):
 ∃e1 e2 n' o7' o8',n<=n'/\Hel h n' (hs++[e1,e2])/\(∀j∈labsL (hs++[e1,e2]),j∈labsL hs\/n<=j)/\
  shB ⟨[some (Tn l t ps ds us),some (.int t),some (.lst ln (ND ps cs)),some (.lst h hs),some (.lst q ((wy ps 1000 t).map fun j=>cs.getD j .non).reverse),some (.int (0:Nat)),some (.int o6),o7,o8],[some (Tn l t ps ds us),some (.int t),some (.lst ln (ND ps cs)),some (.lst h hs)],n⟩
  = .nx ⟨[some (Tn l t ps ds us),some (.int t),some (.lst ln (ND ps cs)),some (.lst h (hs++[e1,e2])),some (.lst q ((wy ps 1000 t).map fun j=>cs.getD j .non).reverse),some (.int (0:Nat)),some (.int o6),o7',o8'],[some (Tn l t ps ds us),some (.int t),some (.lst ln (ND ps cs)),some (.lst h (hs++[e1,e2]))],n'⟩:=by
 have Bh:=W.Bh
 have np:=W.np
 obtain⟨ys,n1,c,ep⟩:=zbT (l:=l) (us:=us) W.pp (W.dd.up (show h<=n by lia)) W.lB (by lia) W.ld (fun d hd=>by have:=(W.sm d hd).1.d;lia) W.ht (by lia)
 obtain⟨u,hu,eu⟩:=z9W (l:=l) (t:=t) (n:=n1) (la:=l+1) (ld:=l+2) (lu:=l+3) (ps:=ps) (ds:=ds) (us:=US us) (by lia)
 have wm:=z8U W.pp 1000 t W.ht
 have wl:=zap W.pp 1000 t W.ht
 have ht:=W.ht
 generalize hD:((wy ps 1000 t).map fun j=>cs.getD j .non).reverse=G at*
 have eG:erL ys=erL G:=by
  rw[c.er,<-hD,z4e,z4e,zaq _ fun j hj=>W.eq j (wm j hj).1 (by have:=(wm j hj).2;lia)]
 have lcs:=W.lc
 have Gm: ∀g∈G,∃i,i<cs.length/\g=cs.getD i .non:=fun g hg=>by
  rw[<-hD] at hg
  obtain⟨i,hi,rfl⟩:=List.mem_map.1 (List.mem_reverse.1 hg)
  exact⟨i,by have:=(wm i hi).2;lia,rfl⟩
 have Gn:(labsL G).Nodup:=by rw[<-hD];exact(z30 _).nodup_iff.2 (zec W.pp W.lc W.nd 1000 t W.ht)
 have Gr:RsL 0 G=true:=z0C.2 fun g hg=>by
  obtain⟨i,hi,rfl⟩:=Gm g hg
  exact z3i (Nat.zero_le _) _ (W.dc _ (z4J hi)).1
 have Gl: ∀j∈labsL G,B<=j/\j<h/\j∈labsL cs:=fun j hj=>by
  obtain⟨g,hg,hj⟩:=labsL_mem hj
  obtain⟨i,hi,rfl⟩:=Gm g hg
  have m:=z0L (z4J hi) hj
  exact⟨(W.dc.lab m).1,(W.dc.lab m).2,m⟩
 have Gz:G.length<=100:=by rw[<-hD];simp;lia
 have smY: ∀y∈ys,Sm (er y)/\Sm (chE (er y)):=fun y hy=>by
  obtain⟨d,hd,e⟩:=z8V c.er hy
  obtain⟨i,hi,rfl⟩:=List.mem_map.1 (List.mem_reverse.1 hd)
  rw[e]
  exact W.sm _ (z4J (by have:=W.ld;have:=(wm i hi).2;lia))
 have dG:PyData.depthAll (erL G)<=6:=by rw[<-eG];exact(smL fun y hy=>(smY y hy).1).2.2.2
 have yl:ys.length=G.length:=by rw[<-z22 ys,<-z22 G,eG]
 have cle:=c.le
 have dPG: ∀j∈labs (.lst n ys),j∉labs (.lst q G):=fun j hj hg=>by
  simp only[labs,List.mem_cons] at hj hg
  have h1:n<=j:=by
   rcases hj with rfl|hj
   ·exact Nat.le_refl _
   ·obtain⟨y,hy,hj⟩:=labsL_mem hj
    have:=z0J y (z0C.1 c.rs y hy) hj
    lia
  rcases hg with rfl|hg
  ·lia
  ·have:=Gl j hg;lia
 obtain⟨n2,hn2,ea⟩:=z9U 11 (.lst n ys) (.lst q G) 0 0 (u+1) (by decide) (by simp only[Rs,Bool.and_eq_true,decide_eq_true_eq];exact⟨Nat.zero_le _,by lia,RsL_mono (Nat.zero_le _) _ c.rs⟩) (by simp only[Rs,Bool.and_eq_true,decide_eq_true_eq];exact⟨Nat.zero_le _,by lia,Gr⟩) (by simp only[er,eG]) (by simp only[er,PyData.depth];lia) (by
  simp only[labs]
  exact List.nodup_cons.2 ⟨fun hj=>by obtain⟨y,hy,hj⟩:=labsL_mem hj;have:=z0J y (z0C.1 c.rs y hy) hj;lia,c.nd⟩) (by
  simp only[labs]
  exact List.nodup_cons.2 ⟨fun hj=>by have:=Gl q hj;lia,Gn⟩) dPG
 have Pl: ∀j∈labs (.lst n ys),n<=j/\j<n1:=fun j hj=>by
  simp only[labs,List.mem_cons] at hj
  rcases hj with rfl|hj
  ·exact⟨Nat.le_refl _,by lia⟩
  ·refine⟨?_,c.up j hj⟩
   obtain⟨y,hy,hj⟩:=labsL_mem hj
   have:=z0J y (z0C.1 c.rs y hy) hj
   lia
 have off: ∀j,j∉labs (.lst n ys)->j∉labs (.lst q G)->findL j [ch (.lst n ys), .lst q G]=none:=fun j h1 h2=>findL_none _ (by simp only[labsL,List.append_nil,List.mem_append,z0x,not_or];exact⟨h1,h2⟩)
 have offS: ∀j,(j<n\/n1<=j)->j≠q->j∉labsL cs->findL j [ch (.lst n ys), .lst q G]=none:=fun j h1 h2 h3=>off j (fun hj=>by have:=Pl j hj;lia) fun hj=>by
  simp only[labs,List.mem_cons] at hj
  rcases hj with hj|hj
  ·exact h2 hj
  ·exact h3 (Gl j hj).2.2
 have rT:rp (fun j=>findL j [ch (.lst n ys), .lst q G]) (Tn l t ps ds us)=Tn l t ps ds us:=z1h _ fun j hj=>by
  rcases z0z.1 hj with hj|hj
  ·exact offS j (.inl (by have:=W.lB;lia)) (by have:=W.lB;lia) fun q=>by have:=W.dc.lab q;have:=W.lB;lia
  ·have:=W.dd.lab hj
   exact offS j (.inl (by lia)) (by lia) (W.dj j hj)
 have rN:rp (fun j=>findL j [ch (.lst n ys), .lst q G]) (.lst ln (ND ps cs))= .lst ln (ND ps cs):=by
  have e0:findL ln [ch (.lst n ys), .lst q G]=none:=offS ln (.inl (by have:=W.nB;lia)) (by have:=W.nB;lia) fun q=>by have:=W.dc.lab q;have:=W.nB;lia
  have key: ∀r:List Nat,(∀i∈r,i<cs.length)->rpL (fun j=>findL j [ch (.lst n ys), .lst q G]) (r.map fun i=>D.tup [.int (pr ps i:Nat),cs.getD i .non])=r.map fun i=>D.tup [.int (pr ps i:Nat),cs.getD i .non]:=by
   intro r
   induction r with
   |nil=>intro _;rfl
   |cons i r ih=>
    intro hr
    have hi:=hr i (by simp)
    have hc:rp (fun j=>findL j [ch (.lst n ys), .lst q G]) (cs.getD i .non)=cs.getD i .non:=zao (cs.getD i .non) (z4p (n:=B) _ (W.dc _ (z4J hi)).1) (zeb W.nd hi) (by
     intro j hj
     have jm:=z0L (z4J hi) hj
     have jb:=W.dc.lab jm
     have e1:findL j [ch (.lst n ys), .lst q G]=findL j G:=by
      rw[z0q (by rw[z0x];exact fun q=>by have:=Pl j q;lia),z1f,findT,if_neg (by lia)]
     rw[e1]
     cases e2:findL j G with
     |none=>exact .inl rfl
     |some x=>
      obtain⟨g,hg,e3⟩:=z6P e2
      obtain⟨k,hk,rfl⟩:=Gm g hg
      have jk:j∈labs (cs.getD k .non):=by
       by_cases q:j∈labs (cs.getD k .non)
       ·exact q
       ·rw[z3g _ q] at e3;cases e3
      have:=z6f W.nd hi hk hj jk
      subst this
      exact .inr e3.symm)
    rw[List.map_cons,rpL,ih fun x hx=>hr x (by simp[hx]),rp,rpL,rpL,rpL,z0o,hc]
  have k2:rpL (fun j=>findL j [ch (.lst n ys), .lst q G]) (ND ps cs)=ND ps cs:=key (List.range (ps.length+1)) fun i hi=>by have:=List.mem_range.1 hi;lia
  rw[zfQ e0,k2]
 have rH:rp (fun j=>findL j [ch (.lst n ys), .lst q G]) (.lst h hs)= .lst h hs:=z1h _ fun j hj=>by
  simp only[labs,List.mem_cons] at hj
  rcases hj with rfl|hj
  ·exact offS _ (.inl (by lia)) (by lia) fun q=>by have:=W.dc.lab q;lia
  ·have:=H.lo j hj
   exact offS j (.inl (by lia)) (fun e=>hqs (e▸hj)) fun q=>by have:=W.dc.lab q;lia
 have rQ:rp (fun j=>findL j [ch (.lst n ys), .lst q G]) (.lst q G)= .lst q G:=by
  rw[rp,z0q (by rw[z0x];exact fun hj=>by have:=Pl q hj;lia),z1f,findT,if_pos rfl]
 have rP:rp (fun j=>findL j [ch (.lst n ys), .lst q G]) (.lst n ys)= .lst n (chL ys++[.int 7]):=by
  rw[rp,z1B (by rw[ch,findT,if_pos rfl];rfl),ch,findT,if_pos rfl]
 have rU:rp (fun j=>findL j [ch (.lst n ys), .lst q G]) (.lst u (IL (kids ps t)))= .lst u (IL (kids ps t)):=z1h _ fun j hj=>by
  simp only[labs,z1C,List.mem_singleton] at hj
  subst hj
  exact offS _ (.inr hu) (by lia) fun q=>by have:=W.dc.lab q;lia
 obtain⟨v,hv,ek⟩:=z9X (ln:=ln) (n:=n2) (t:=t) (ps:=ps) (cs:=cs) (σ:=[some (Tn l t ps ds us),some (.int t),some (.lst ln (ND ps cs)),some (.lst h hs),some (.lst q G),some (.int (0:Nat)),some (.int o6),some (.lst n (chL ys++[.int 7])),some (.lst u (IL (kids ps t)))]) (tm:=[some (.lst u (IL (kids ps t))),some (Tn l t ps ds us),some (.int t),some (.lst ln (ND ps cs)),some (.lst h hs)]) (by lia) rfl rfl
 have kl:=z9Z ps t
 have sY:SpL (chL ys++[.int 7])=true:=by rw[z4b,sp_chL ys (rsL_sp _ c.rs)];rfl
 have sU:SpL (IL (kids ps t)++[.int 7])=true:=by rw[z4b,zfO];rfl
 have mY: ∀x∈chL ys++[D.int 7],Sm (er x):=fun x hx=>by
  rcases List.mem_append.1 hx with hx|hx
  ·obtain⟨y,hy,rfl⟩:=z8W hx
   rw[zed y (z4p _ (z0C.1 c.rs y hy))]
   exact(smY y hy).2
  ·rw[List.mem_singleton.1 hx];simp only[er];exact z5P (by decide)
 have mU: ∀x∈IL (kids ps t)++[D.int 7],Sm (er x):=fun x hx=>by
  rcases List.mem_append.1 hx with hx|hx
  ·obtain⟨k,hk,rfl⟩:=List.mem_map.1 hx
   have:=zbY hk
   simp only[er]
   refine z5P ?_
   have:((k:Int)).natAbs=k:=by simp
   rw[this]
   exact Nat.lt_of_le_of_lt (show k<=100 by lia) (by decide)
  ·rw[List.mem_singleton.1 hx];simp only[er];exact z5P (by decide)
 have zY:(chL ys++[D.int 7]).length<=2000:=by rw[List.length_append,z1u];simp;lia
 have zU:(IL (kids ps t)++[D.int 7]).length<=2000:=by simp[IL];lia
 have lY: ∀j∈labs (.lst n (chL ys++[.int 7])),n<=j/\j<n1:=fun j hj=>Pl j (by rw[<-z0x,ch];exact hj)
 have lU: ∀j∈labs (.lst u (IL (kids ps t)++[.int 7])),j=u:=fun j hj=>by
  simp only[labs,labsL_app,z1C,labsL,List.nil_append,List.append_nil,List.mem_singleton] at hj;exact hj
 refine⟨.tup [.lst n (chL ys++[.int 7]), .str (er (.lst n (chL ys++[.int 7]))).shown], .tup [.lst u (IL (kids ps t)++[.int 7]), .str (er (.lst u (IL (kids ps t)++[.int 7]))).shown],v+1+1,some (.lst n (chL ys++[.int 7])),some (.lst u (IL (kids ps t)++[.int 7])),by lia, ?_, ?_, ?_⟩
 ·refine⟨fun e he=> ?_,fun j hj=> ?_⟩
  ·rcases List.mem_append.1 he with he|he
   ·exact H.hd e he
   ·simp only[List.mem_cons,List.not_mem_nil,or_false] at he
    rcases he with rfl|rfl
    ·exact⟨_,_,rfl,sY,mY,zY⟩
    ·exact⟨_,_,rfl,sU,mU,zU⟩
  ·rw[labsL_app] at hj
   rcases List.mem_append.1 hj with hj|hj
   ·have:=H.lo j hj;exact⟨this.1,by lia⟩
   ·simp only[labsL,List.append_nil,List.mem_append] at hj
    rcases hj with hj|hj
    ·rw[labs,labsL,labsL,labsL,List.append_nil] at hj
     simp only[labs,List.append_nil] at hj
     have:=lY j (by simpa[labs] using hj);lia
    ·rw[labs,labsL,labsL,labsL,List.append_nil] at hj
     have:=lU j (by simpa[labs] using hj);lia
 ·rw[labsL_app]
  intro j hj
  rcases List.mem_append.1 hj with hj|hj
  ·exact .inl hj
  ·simp only[labsL,List.append_nil,List.mem_append] at hj
   rcases hj with hj|hj
   ·rw[labs,labsL,labsL,labsL,List.append_nil] at hj
    have:=lY j (by simpa[labs] using hj);exact .inr this.1
   ·rw[labs,labsL,labsL,labsL,List.append_nil] at hj
    have:=lU j (by simpa[labs] using hj);exact .inr (by lia)
 have tl: ∀j∈labs (Tn l t ps ds us),j<h:=fun j hj=>by
  rcases z0z.1 hj with hj|hj
  ·have:=W.lB;lia
  ·exact(W.dd.lab hj).2
 have nl: ∀j∈labs (.lst ln (ND ps cs)),j<h:=fun j hj=>by
  simp only[labs,List.mem_cons] at hj
  rcases hj with rfl|hj
  ·have:=W.nB;lia
  ·exact(W.dc.lab (z8S W.lc hj)).2
 have gq: ∀j∈labs (.lst q G),j=q\/j<h:=fun j hj=>by
  simp only[labs,List.mem_cons] at hj
  exact hj.imp id fun hj=>(Gl j hj).2.1
 have g0: ∀w,rp (pl u w) (Tn l t ps ds us)=Tn l t ps ds us:=fun w=>z0a fun hj=>by have:=tl u hj;lia
 have g1: ∀w,rp (pl u w) (.lst ln (ND ps cs))= .lst ln (ND ps cs):=fun w=>z0a fun hj=>by have:=nl u hj;lia
 have g2: ∀w,rp (pl u w) (.lst h hs)= .lst h hs:=fun w=>z0a fun hj=>by
  simp only[labs,List.mem_cons] at hj
  rcases hj with hj|hj
  ·lia
  ·have:=H.lo u hj;lia
 have g3: ∀w,rp (pl u w) (.lst q G)= .lst q G:=fun w=>z0a fun hj=>by have:=gq u hj;lia
 have g4: ∀w,rp (pl u w) (.lst n (chL ys++[.int 7]))= .lst n (chL ys++[.int 7]):=fun w=>z0a fun hj=>by have:=lY u hj;lia
 have g5: ∀w,rp (pl h w) (Tn l t ps ds us)=Tn l t ps ds us:=fun w=>z0a fun hj=>by have:=tl h hj;lia
 have g6: ∀w,rp (pl h w) (.lst ln (ND ps cs))= .lst ln (ND ps cs):=fun w=>z0a fun hj=>by have:=nl h hj;lia
 have g7: ∀w,rp (pl h w) (.lst q G)= .lst q G:=fun w=>z0a fun hj=>by have:=gq h hj;lia
 have g8: ∀w,rp (pl h w) (.lst n (chL ys++[.int 7]))= .lst n (chL ys++[.int 7]):=fun w=>z0a fun hj=>by have:=lY h hj;lia
 have g9: ∀w,rp (pl h w) (.lst u (IL (kids ps t)++[.int 7]))= .lst u (IL (kids ps t)++[.int 7]):=fun w=>z0a fun hj=>by have:=lU h hj;lia
 unfold shB
 walk_at ""
 simp only[oP]
 walk_at ""
 rw[ep]
 walk_at ""
 simp only[oN]
 walk_at ""
 rw[eu]
 walk_at ""
 rw[z69 (Gd.lst.mpr (RsL_gd (n:=n+1) _ c.rs)) (Gd.lst.mpr (RsL_gd (n:=0) _ Gr)) (by simp only[er,eG]) (by simp only[er,PyData.depth];lia)]
 walk_at ""
 rw[ea,z0s]
 ·simp only[rpO,rT,rN,rH,rQ,rP,rU,z0o]
  walk_at ""
  rw[ek]
  walk_at ""
  rw[z69 (y:= .lst u (IL (kids ps t))) (d:= .lst v (IL (kids ps t))) (Gd.lst.mpr (zbX _)) (Gd.lst.mpr (zbX _)) rfl (by simp only[er,PyData.depth,zee];decide)]
  walk_at ""
  rw[z5b ⟨by rw[zl];simp[IL];lia,by simp[labs]⟩]
  walk_at ""
  simp only[g0,g1,g2,g3,g4]
  try (walk_at "")
  rw[zbW sY mY zY]
  walk_at ""
  rw[zbW sU mU zU]
  walk_at ""
  rw[g2,zfP ⟨by rw[zl];simp;lia,fun hj=>by
   simp only[labsL,List.append_nil,List.mem_append] at hj
   rcases hj with hj|hj
   ·rw[labs,labsL,labsL,labsL,List.append_nil] at hj
    have:=lY h (by simpa[labs] using hj);lia
   ·rw[labs,labsL,labsL,labsL,List.append_nil] at hj
    have:=lU h (by simpa[labs] using hj);lia⟩]
  walk_at ""
  simp only[g5,g6,g7,g8,g9]
  try (walk_at "")
 ·intro j hj
  simp only[labsL,List.append_nil,List.mem_append] at hj
  rcases hj with hj|hj
  ·exact z0h (d:=ch (.lst n ys)) (by simp) (z0r _ (z6c _ (by simp only[Sp];exact rsL_sp _ c.rs)) (by rw[z0x];exact hj))
  ·exact z0h (d:= .lst q G) (by simp) (z0r _ (by simp only[Sp];exact rsL_sp _ Gr) hj)
 ·intro e
  exfalso
  injection e with e _
  rw[ch] at e
  injection e with _ e
  have:=congrArg List.length e
  rw[List.length_append,z1u] at this
  simp at this
theorem z6Q{h B l ln t n:Nat}{ps:List Nat}{ds cs hs:List D}{us:List (Option Nat)}(W:Tw h B l ln t ps ds cs us)(hn:h<n)(H:Hel h n hs)(hz:hs.length<1800):
 ∃hs' n',n<=n'/\Hel h n' hs'/\hs'.length<=hs.length+4/\(∀j∈labsL hs',j∈labsL hs\/n<=j)/\(∃es,hs'=hs++es)/\z1e [Tn l t ps ds us, .int t, .lst ln (ND ps cs), .lst h hs] n= .ok (.bool true) [Tn l t ps ds us, .int t, .lst ln (ND ps cs), .lst h hs'] n':=by
 obtain⟨q,n1,h1,h2,h3,e1⟩:=z8T (T:=Tn l t ps ds us) (H:= .lst h hs) (a1:= .int t) (o6:=none) (o7:=none) (o8:=none) (tm:=[some (Tn l t ps ds us),some (.int t),some (.lst ln (ND ps cs)),some (.lst h hs)]) (ln:=ln) W.pp W.lc 1000 t (n+1) n [] W.ht (by have:=W.np;have:=W.ht;lia) (by have:=W.np;have:=W.ht;simp;lia) (by lia)
 rw[List.append_nil] at e1
 obtain⟨s',e2,hs',n2,o6,o7,o8,rfl,g1,g2,g3,g4,g5,g6⟩:=z68 (P:=fun i s=> ∃hs' n' o6 o7 o8,s=⟨[some (Tn l t ps ds us),some (.int t),some (.lst ln (ND ps cs)),some (.lst h hs'),some (.lst q ((wy ps 1000 t).map fun j=>cs.getD j .non).reverse),some (.int (0:Nat)),o6,o7,o8],[some (Tn l t ps ds us),some (.int t),some (.lst ln (ND ps cs)),some (.lst h hs')],n'⟩/\n1<=n'/\Hel h n' hs'/\q∉labsL hs'/\hs'.length=hs.length+2*i/\(∀j∈labsL hs',j∈labsL hs\/n<=j)/\∃es,hs'=hs++es) (lo:=0) (N:=2) (g:= .nm 6) (b:=shB) (by
  rintro i hi s ⟨hs',n',o6,o7,o8,rfl,g1,g2,g3,g4,g5,es,rfl⟩
  refine⟨_,rfl, ?_⟩
  obtain⟨e1,e2,n3,o7',o8',k1,k2,k3,k4⟩:=zbZ (o6:=0+(i:Int)) (o7:=o7) (o8:=o8) W (by lia) (by lia) g2 g3 (by lia)
  exact⟨_,k4,_,n3,_,o7',o8',rfl,by lia,k2,fun hj=>(k3 q hj).elim g3 fun hj=>by lia,by simp at g4⊢;lia,fun j hj=>(k3 j hj).elim (g5 j) fun hj=> .inr (by lia),es++[e1,e2],by rw[List.append_assoc]⟩) 2 0 _ (by lia) ⟨hs,n1,none,none,none,rfl,Nat.le_refl _,H.up (by lia),fun hj=>by have:=H.lo q hj;lia,by simp,fun j hj=> .inl hj,[],by simp⟩
 refine⟨hs',n2,by lia,g2,by lia,g5,g6, ?_⟩
 unfold z1e
 have e0:z47=seqS (sAsg (.nm 4) (mCB [] lstM)) (seqS (sAsg (.nm 5) (mVar 1)) (seqS (z2L (fun _=>1000) (mBoo (mBin (mVar 5) (mC (.int 0)) gtD)) duB) (seqS (sFor (z39 [(mC (.int 2))]) (.nm 6) shB) (sRet (mBin (mMth "Tree" "here" z0e (mVar 0) []) (mVar 1) eqD))))):=rfl
 rw[e0]
 walk_at ""
 unfold z2L
 rw[e1]
 walk_at ""
 rw[z4F (by decide)]
 walk_at ""
 rw[show(2:Int).toNat=2 from rfl,e2]
 walk_at ""
 simp only[oH]
 walk_at ""
 rw[z5e]
 walk_at ""
theorem i0N{s:Stt}:iK tb_0 (.exc ("NoNode" :Str)) s= .ok (.bool false) s:=z5N (by decide+kernel)
theorem i1N{s:Stt}:iK tb_1 (.exc ("NoNode" :Str)) s= .ok (.bool false) s:=z5N (by decide+kernel)
theorem i2N{s:Stt}:iK tb_2 (.exc ("NoNode" :Str)) s= .ok (.bool false) s:=z5N (by decide+kernel)
theorem i3N{s:Stt}:iK tb_3 (.exc ("NoNode" :Str)) s= .ok (.bool true) s:=z5N (by decide+kernel)
theorem i4N{s:Stt}:iK tb_4 (.exc ("NoNode" :Str)) s= .ok (.bool true) s:=z5N (by decide+kernel)
theorem kbN:z1l ("NoNode" :Str)=true:=by decide+kernel
theorem zef{a b:Option D}:z26 2 [a,b]=[a,b]:=(rfl)
theorem za0(n:Nat):z2U [.exc "NoNode"] n= .ok (.bool true) [.exc "NoNode"] n:=by
 unfold z2U z44
 walk_at ""
 rw[i0N]
 walk_at ""
 rw[i1N]
 walk_at ""
 rw[i2N]
 walk_at ""
 rw[i3N]
 walk_at ""
 rw[i4N]
 walk_at ""
theorem zc0{l t n:Nat}{c:Int}{ps:List Nat}{ds:List D}{us:List (Option Nat)}(hc: ¬(0<=c/\c<=ps.length)):z2W [Tn l t ps ds us, .int c] n= .ok (.bool true) [Tn l t ps ds us, .int c] n:=by
 unfold z2W z59
 walk_at ""
 simp only[oG]
 walk_at ""
 rw[zfM hc]
 walk_at ""
 rw[zfB kbN,zef]
 walk_at ""
 rw[za0]
 walk_at ""
theorem zfR{l:Nat}{ds:List D}{i y:Int}{s:Stt}(h:0<=i/\i<2^63)(e:ds[i.toNat]? =some (.int y)):popD (.lst l ds) [.int i] s= .ok (.int y) (s.put l (.lst l (ds.eraseIdx i.toNat))):=by simp only[popD,if_pos h,e]
noncomputable def miB:MS:=(z0V (z0X (mVar 3) [(z0X (mVar 2) [(z0d z0A [(mVar 0),(mCB [(mVar 2)] lenD)])] popD)] appD))
theorem z6R: ∀{ks:List Nat} {i:Nat},(IL ks).eraseIdx i=IL (ks.eraseIdx i)
 |[],_=>rfl
 |k::ks,0=>rfl
 |k::ks,i+1=>by show D.int k::(IL ks).eraseIdx i=D.int k::IL (ks.eraseIdx i);rw[z6R]
theorem za1{b la lb ls n:Nat}{c x:Int}{ks zs:List Nat}{S:D}{o4:Option D}(hc:Bg c x)(h0:0<ks.length)(hk:ks.length<1000)(hz:zs.length<1000)(b1:b<la)(b2:la<lb)(b3:labs S=[ls])(b4:b<ls/\ls<la)(ho: ∀f,Option.map (rp f) o4=o4):
 ∃c' x' z ks',Bg c' x'/\z∈ks/\(∀k∈ks',k∈ks)/\ks'.length+1=ks.length/\miB ⟨[some (.lst b [.int c, .int x]),some S,some (.lst la (IL ks)),some (.lst lb (IL zs)),o4],[some (.lst b [.int c, .int x]),some S],n⟩= .nx ⟨[some (.lst b [.int c', .int x']),some S,some (.lst la (IL ks')),some (.lst lb (IL (zs++[z]))),o4],[some (.lst b [.int c', .int x']),some S],n⟩:=by
 obtain⟨r,c1,x1,r0,r1,b1',e1⟩:=z3h b c x (ks.length:Int) n hc (by lia) (by lia)
 obtain⟨r,rfl⟩:=Int.eq_ofNat_of_zero_le r0
 have hr:r<ks.length:=by lia
 have rS: ∀k w,k≠ls->rp (pl k w) S=S:=fun k w hk=>z0a (by rw[b3];simp;exact hk)
 have rA: ∀k w ys,k≠la->rp (pl k w) (.lst la (IL ys))= .lst la (IL ys):=fun k w ys hk=>z0a (by simp only[labs,z1C];simp;exact hk)
 have rZ: ∀k w ys,k≠lb->rp (pl k w) (.lst lb (IL ys))= .lst lb (IL ys):=fun k w ys hk=>z0a (by simp only[labs,z1C];simp;exact hk)
 have rB: ∀k w,k≠b->rp (pl k w) (.lst b [.int c1, .int x1])= .lst b [.int c1, .int x1]:=fun k w hk=>z0a (by simp only[labs,labsL];simp;exact hk)
 refine⟨c1,x1,ks[r],ks.eraseIdx r,b1',List.getElem_mem hr,fun k hk=>List.mem_of_mem_eraseIdx hk,by rw[List.length_eraseIdx,if_pos hr];lia, ?_⟩
 unfold miB
 walk_at ""
 rw[show(IL ks).length=ks.length by simp[IL],e1,z4G rfl rfl rfl (fun q=>by walk_at "";simp only[rS b q (by lia),rA b q ks (by lia),rZ b q zs (by lia),ho];rfl) (fun q=>by walk_at "";simp only[rS b q (by lia),rA b q ks (by lia),rZ b q zs (by lia)];rfl)]
 walk_at ""
 rw[zfR (y:=(ks[r]:Nat)) (by lia) (by simp[IL,hr])]
 walk_at ""
 simp only[Int.toNat_natCast,z6R,rS la _ (by lia),rB la _ (by lia),rZ la _ zs (by lia),ho]
 try (walk_at "")
 rw[z5b ⟨by rw[zl];simp[IL];lia,by simp[labs]⟩,show IL zs++[D.int ((ks[r]:Nat):Int)]=IL (zs++[ks[r]]) by simp[IL]]
 walk_at ""
 simp only[rS lb _ (by lia),rB lb _ (by lia),rA lb _ _ (show lb≠la by lia),ho]
 try (walk_at "")
theorem z6S{b la lb ls n N:Nat}{S:D}(b1:b<la)(b2:la<lb)(b3:labs S=[ls])(b4:b<ls/\ls<la)(hN:N<900): ∀(f i:Nat) (c x:Int) (ks zs:List Nat) (o4:Option D),i+f=N->ks.length=f->zs.length=i->Bg c x->(∀k∈ks,k<N)->(∀k∈zs,k<N)->(∀f,Option.map (rp f) o4=o4)->
 ∃c' x' zs' ks' o',Bg c' x'/\zs'.length=N/\(∀k∈zs',k<N)/\forGo (kRng 0 N) (.nm 4) miB f i ⟨[some (.lst b [.int c, .int x]),some S,some (.lst la (IL ks)),some (.lst lb (IL zs)),o4],[some (.lst b [.int c, .int x]),some S],n⟩= .nx ⟨[some (.lst b [.int c', .int x']),some S,some (.lst la (IL ks')),some (.lst lb (IL zs')),o'],[some (.lst b [.int c', .int x']),some S],n⟩
 |0,i,c,x,ks,zs,o4,hi,hk,hz,hc,a1,a2,ho=>⟨c,x,zs,ks,o4,hc,by lia,a2,z5d (by show some (if i<N then _ else none)=_;rw[if_neg (by lia)])⟩
 |f+1,i,c,x,ks,zs,o4,hi,hk,hz,hc,a1,a2,ho=>by
  obtain⟨c1,x1,z,ks1,hc1,hz1,hk1,hl1,e1⟩:=za1 (n:=n) (o4:=some (.int (0+(i:Int)))) (ks:=ks) (zs:=zs) hc (by lia) (by lia) (by lia) b1 b2 b3 b4 (fun f=>rfl)
  obtain⟨c2,x2,zs2,ks2,o2,h1,h2,h3,e2⟩:=z6S (N:=N) (n:=n) b1 b2 b3 b4 hN f (i+1) c1 x1 ks1 (zs++[z]) (some (.int (0+(i:Int)))) (by lia) (by lia) (by simp;lia) hc1 (fun k hk=>a1 k (hk1 k hk)) (fun k hk=>by
   rcases List.mem_append.1 hk with hk|hk
   ·exact a2 k hk
   ·rw[List.mem_singleton.1 hk];exact a1 z hz1) (fun f=>rfl)
  refine⟨c2,x2,zs2,ks2,o2,h1,h2,h3, ?_⟩
  have ha:(kRng 0 N).at' i [some (.lst b [.int c, .int x]),some S]=some (some (.int (0+(i:Int)))):=by
   show some (if i<N then _ else none)=_
   rw[if_pos (by lia)]
  have e3:=z3t (K:=kRng 0 N) (g:= .nm 4) (b:=miB) (f:=f) (s:=⟨[some (.lst b [.int c, .int x]),some S,some (.lst la (IL ks)),some (.lst lb (IL zs)),o4],[some (.lst b [.int c, .int x]),some S],n⟩) ha rfl e1
  rw[e3,e2]
theorem za2{b ls n N:Nat}{c x:Int}(hc:Bg c x)(hb:b<ls)(hl:ls<n)(hN:N<900): ∃c' x' zs,Bg c' x'/\zs.length=N/\(∀k∈zs,k<N)/\z1s [.lst b [.int c, .int x], .lst ls (IL (List.range N))] n= .ok (.lst (n+1) (IL zs)) [.lst b [.int c', .int x'], .lst ls (IL (List.range N))] (n+2):=by
 obtain⟨c1,x1,zs,ks,o,h1,h2,h3,e⟩:=z6S (n:=n+2) (N:=N) (b:=b) (la:=n) (lb:=n+1) (ls:=ls) (S:= .lst ls (IL (List.range N))) (by lia) (by lia) (by simp[labs,z1C]) ⟨hb,hl⟩ hN N 0 c x (List.range N) [] none (by lia) (by simp) rfl hc (fun k hk=>List.mem_range.1 hk) (fun k hk=>by cases hk) (fun f=>rfl)
 refine⟨c1,x1,zs,h1,h2,h3, ?_⟩
 unfold z1s
 have e0:z45=seqS (sAsg (.nm 2) (mCB [(mVar 1)] z7i)) (seqS (sAsg (.nm 3) (mCB [] lstM)) (seqS (sFor (z39 [(mCB [(mVar 1)] lenD)]) (.nm 4) miB) (sRet (mVar 3)))):=rfl
 rw[e0]
 walk_at ""
 rw[z4F (by simp[IL];lia),show(((IL (List.range N)).length:Nat):Int).toNat=N by simp[IL]]
 walk_at ""
 have e2:forGo (kRng 0 N) (.nm 4) miB N 0 ⟨[some (.lst b [.int c, .int x]),some (.lst ls (IL (List.range N))),some (.lst n (IL (List.range N))),some (.lst (n+1) []),none],[some (.lst b [.int c, .int x]),some (.lst ls (IL (List.range N)))],n+1+1⟩=_:=e
 rw[e2]
 walk_at ""
noncomputable def z7B(i:Int)(n:Nat):List D:=[.tup [.str "mark", .tup [.int i]], .tup [], .tup [.lst n [.int i], .lst (n+1) [.int i], .tup []], .tup [.str "key", .int i], .tup [.non, .tup [.lst (n+2) [], .lst (n+3) [.int i]]]]
structure Sz(k m:Nat)(E:PyData):Prop where
 a:PyData.leavesShort 64 E=true
 b:E.showable=true
 c:E.bulk<=k
 d:E.depth<=m
structure SzL(k m:Nat)(xs:List PyData):Prop where
 a:PyData.leavesShortAll 64 xs=true
 b:PyData.showableAll xs=true
 c:PyData.bulkAll xs<=k
 d:PyData.depthAll xs<=m
theorem Sz.sm{k m:Nat}{E:PyData}(h:Sz k m E)(hk:k<=40)(hm:m<=6):Sm E:=⟨h.a,h.b,Nat.le_trans h.c hk,Nat.le_trans h.d hm⟩
theorem zar{m:Nat}{i:Int}(h:i.natAbs<10^61):Sz 0 m (.int i):=⟨(z5P h).a,(z5P h).b,by simp[PyData.bulk],by simp[PyData.depth]⟩
theorem zas{m:Nat}:Sz 0 m .none:=⟨rfl,rfl,by simp[PyData.bulk],by simp[PyData.depth]⟩
theorem zat{m:Nat}{x:Str}(h1:(x.cps.toList.all fun c=>decide (c<16^8))=true)(h2:x.cps.size<=4):Sz 4 m (.str x):=⟨by simp only[PyData.leavesShort];exact h1,by simp only[PyData.showable],by simp only[PyData.bulk];lia,by simp[PyData.depth]⟩
theorem z0B{m:Nat}:SzL 0 m []:=⟨rfl,rfl,Nat.le_refl _,Nat.zero_le _⟩
theorem z0b{k l m:Nat}{E:PyData}{xs:List PyData}(h:Sz k m E)(r:SzL l m xs):SzL (k+1+l) m (E::xs):=⟨by simp only[PyData.leavesShortAll,h.a,r.a,Bool.and_self],by simp only[PyData.showableAll,h.b,r.b,Bool.and_self],by simp only[PyData.bulkAll];have:=h.c;have:=r.c;lia,by simp only[PyData.depthAll];have:=h.d;have:=r.d;lia⟩
theorem z1g{k m:Nat}{xs:List PyData}(h:SzL k m xs):Sz k (m+1) (.tuple xs):=⟨by simp only[PyData.leavesShort];exact h.a,by simp only[PyData.showable];exact h.b,by simp only[PyData.bulk];exact h.c,by simp only[PyData.depth];have:=h.d;lia⟩
theorem z3n{k m:Nat}{xs:List PyData}(h:SzL k m xs):Sz k (m+1) (.list xs):=⟨by simp only[PyData.leavesShort];exact h.a,by simp only[PyData.showable];exact h.b,by simp only[PyData.bulk];exact h.c,by simp only[PyData.depth];have:=h.d;lia⟩
theorem za3{i:Int}{n:Nat}{d:D}(hi:i.natAbs<10^61)(h:d∈z7B i n):Rs n d=true/\(er d).depth<=11/\Up (n+5) d/\(labs d).Nodup/\Sm (er d)/\Sm (chE (er d)):=by
 unfold z7B at h
 simp only[List.mem_cons,List.not_mem_nil,or_false] at h
 have oM:PyData.strOk ("mark" :Str)=true:=by decide+kernel
 have oK:PyData.strOk ("key" :Str)=true:=by decide+kernel
 have sM: ∀{m},Sz 4 m (.str "mark"):=fun{m}=>zat (by decide+kernel) (by decide+kernel)
 have sK: ∀{m},Sz 4 m (.str "key"):=fun{m}=>zat (by decide+kernel) (by decide+kernel)
 have sI: ∀{m},Sz 0 m (.int i):=fun{m}=>zar hi
 have s7: ∀{m},Sz 0 m (.int 7):=fun{m}=>zar (by decide)
 rcases h with rfl|rfl|rfl|rfl|rfl
 ·refine⟨by simp[Rs,RsL,oM],by simp[er,erL,PyData.depth,PyData.depthAll],by simp[Up,labs,labsL],by simp[labs,labsL], ?_, ?_⟩<;>simp only[er,erL,chE,chEL,List.nil_append,List.cons_append]
  ·exact(z1g (m:=1) (z0b sM (z0b (z1g (m:=0) (z0b sI z0B)) z0B))).sm (by decide) (by decide)
  ·exact(z1g (m:=1) (z0b sM (z0b (z1g (m:=0) (z0b sI z0B)) z0B))).sm (by decide) (by decide)
 ·refine⟨by simp[Rs,RsL],by simp[er,erL,PyData.depth,PyData.depthAll],by simp[Up,labs,labsL],by simp[labs,labsL], ?_, ?_⟩<;>simp only[er,erL,chE,chEL,List.nil_append,List.cons_append]
  ·exact(z1g (m:=0) z0B).sm (by decide) (by decide)
  ·exact(z1g (m:=0) z0B).sm (by decide) (by decide)
 ·refine⟨by simp[Rs,RsL],by simp[er,erL,PyData.depth,PyData.depthAll],by simp[Up,labs,labsL],by simp[labs,labsL], ?_, ?_⟩<;>simp only[er,erL,chE,chEL,List.nil_append,List.cons_append]
  ·exact(z1g (m:=1) (z0b (z3n (m:=0) (z0b sI z0B)) (z0b (z3n (m:=0) (z0b sI z0B)) (z0b (z1g (m:=0) z0B) z0B)))).sm (by decide) (by decide)
  ·exact(z1g (m:=1) (z0b (z3n (m:=0) (z0b sI (z0b s7 z0B))) (z0b (z3n (m:=0) (z0b sI (z0b s7 z0B))) (z0b (z1g (m:=0) z0B) z0B)))).sm (by decide) (by decide)
 ·refine⟨by simp[Rs,RsL,oK],by simp[er,erL,PyData.depth,PyData.depthAll],by simp[Up,labs,labsL],by simp[labs,labsL], ?_, ?_⟩<;>simp only[er,erL,chE,chEL,List.nil_append,List.cons_append]
  ·exact(z1g (m:=0) (z0b sK (z0b sI z0B))).sm (by decide) (by decide)
  ·exact(z1g (m:=0) (z0b sK (z0b sI z0B))).sm (by decide) (by decide)
 ·refine⟨by simp[Rs,RsL],by simp[er,erL,PyData.depth,PyData.depthAll],by simp[Up,labs,labsL],by simp[labs,labsL], ?_, ?_⟩<;>simp only[er,erL,chE,chEL,List.nil_append,List.cons_append]
  ·exact(z1g (m:=2) (z0b zas (z0b (z1g (m:=1) (z0b (z3n (m:=0) z0B) (z0b (z3n (m:=0) (z0b sI z0B)) z0B))) z0B))).sm (by decide) (by decide)
  ·exact(z1g (m:=2) (z0b zas (z0b (z1g (m:=1) (z0b (z3n (m:=0) (z0b s7 z0B)) (z0b (z3n (m:=0) (z0b sI (z0b s7 z0B))) z0B))) z0B))).sm (by decide) (by decide)
theorem zc1(b:Nat)(c x i:Int)(n:Nat)(h:Bg c x)(hn:b<n): ∃d c' x',d∈z7B i n/\Bg c' x'/\z2V [.lst b [.int c, .int x], .int i] n= .ok d [.lst b [.int c', .int x'], .int i] (n+5):=by
 obtain⟨r,c1,x1,r0,r1,b1,e1⟩:=z3h b c x 5 (n+1) h (by decide) (by decide)
 obtain⟨d,hd,ed⟩:=ze0 (ds:=z7B i n) r0 (by simp[z7B];lia)
 have rS: ∀w,rp (pl b w) (.lst n [.int i])= .lst n [.int i]:=fun w=>z0a (by simp[labs,labsL];lia)
 refine⟨d,c1,x1,hd,b1, ?_⟩
 unfold z2V z58
 walk_at ""
 rw[e1,z4G rfl rfl rfl (fun q=>by walk_at "";simp only[rS];rfl) (fun q=>by walk_at "";rfl)]
 walk_at ""
 rw[k5]
 walk_at ""
 unfold z7B at ed
 rw[ed]
 walk_at ""
theorem z6T{cs:List D}{c:D}{i:Nat}(h:i<cs.length):(cs++[c]).getD i .non=cs.getD i .non:=by rw[List.getD_eq_getElem?_getD,List.getD_eq_getElem?_getD,List.getElem?_append_left h]
theorem z6U{cs:List D}{c:D}:(cs++[c]).getD cs.length .non=c:=by rw[List.getD_eq_getElem?_getD,List.getElem?_append_right (Nat.le_refl _),Nat.sub_self];rfl
theorem Tw.up{h h' B l ln t:Nat}{ps:List Nat}{ds cs:List D}{us:List (Option Nat)}(W:Tw h B l ln t ps ds cs us)(hh:h<=h'):Tw h' B l ln t ps ds cs us:=
 ⟨W.pp,W.ht,W.hu,W.ld,W.lc,W.np,W.dd.up hh,W.dc.up hh,W.nd,W.dj,W.lB,W.nB,W.nl,Nat.le_trans W.Bh hh,W.eq,W.sm⟩
theorem Tw.go{h B l ln t t':Nat}{ps:List Nat}{ds cs:List D}{us us':List (Option Nat)}(W:Tw h B l ln t ps ds cs us)(ht:t'<=ps.length)(hu:us'.length=ps.length+1):Tw h B l ln t' ps ds cs us':=
 ⟨W.pp,ht,hu,W.ld,W.lc,W.np,W.dd,W.dc,W.nd,W.dj,W.lB,W.nB,W.nl,W.Bh,W.eq,W.sm⟩
theorem Tw.grow{h B l ln t lo1 hi1 lo2 hi2:Nat}{ps:List Nat}{ds cs:List D}{us us':List (Option Nat)}{d c d':D}(W:Tw h B l ln t ps ds cs us)(q1:Cq lo1 hi1 d c)(q2:Cq lo2 hi2 d d')(a1:h<=lo1)(a2:hi1<=lo2)(hu:us'.length=ps.length+2)(np:ps.length+1<100)(sm:Sm (er d)/\Sm (chE (er d))):
 Tw hi2 B l ln (ps.length+1) (ps++[t]) (ds++[d']) (cs++[c]) us' where
 pp:=W.pp.app W.ht
 ht:=by simp
 hu:=by rw[hu];simp
 ld:=by simp[W.ld]
 lc:=by simp[W.lc]
 np:=by simp;lia
 dd:=(W.dd.up (by have:=q1.le;have:=q2.le;lia)).app (z3i (by have:=q1.le;have:=W.Bh;lia) _ q2.rs) q2.up
 dc:=(W.dc.up (by have:=q1.le;have:=q2.le;lia)).app (z3i (by have:=W.Bh;lia) _ q1.rs) (fun j hj=>by have:=q1.up j hj;have:=q2.le;lia)
 nd:=by
  rw[labsL_app]
  refine List.nodup_append.2 ⟨W.nd,by simpa[labsL] using q1.nd,fun a ha b hb=> ?_⟩
  have h1:=W.dc.lab ha
  have h2:=z0J c q1.rs (by simpa[labsL] using hb)
  lia
 dj:=fun j hj hc=>by
  rw[labsL_app] at hj hc
  have c1: ∀j∈labsL [c],lo1<=j/\j<hi1:=fun j hj=>⟨z0J c q1.rs (by simpa[labsL] using hj),q1.up j (by simpa[labsL] using hj)⟩
  have d1: ∀j∈labsL [d'],lo2<=j:=fun j hj=>z0J d' q2.rs (by simpa[labsL] using hj)
  have:=q1.le
  rcases List.mem_append.1 hj with hj|hj<;>rcases List.mem_append.1 hc with hc|hc
  ·exact W.dj j hj hc
  ·have:=W.dd.lab hj;have:=c1 j hc;lia
  ·have:=W.dc.lab hc;have:=d1 j hj;lia
  ·have:=c1 j hc;have:=d1 j hj;lia
 lB:=W.lB
 nB:=W.nB
 nl:=W.nl
 Bh:=by have:=W.Bh;have:=q1.le;have:=q2.le;lia
 eq:=fun i h0 hi=>by
  simp at hi
  by_cases e:i=ps.length+1
  ·subst e
   rw[<-W.ld,z6U,W.ld,<-W.lc,z6U,q1.er,q2.er]
  ·rw[z6T (by rw[W.ld];lia),z6T (by rw[W.lc];lia)]
   exact W.eq i h0 (by lia)
 sm:=fun x hx=>by
  rcases List.mem_append.1 hx with hx|hx
  ·exact W.sm x hx
  ·rw[List.mem_singleton.1 hx,q2.er];exact sm
structure Ph(B b l ln n t:Nat)(ps:List Nat)(ds cs:List D)(us:List (Option Nat))(o6:Option D):Prop where
 W:Tw n B l ln t ps ds cs us
 hb:b<n
 b1:b<l\/l+3<b
 b2:b∉labsL ds
 b3:b∉labsL cs
 b4:b≠ln
 o6: ∀d,o6=some d->∀j∈labs d,B<=j/\j<n/\j≠b/\j∉labsL ds/\j∉labsL cs
noncomputable abbrev st1(ns:List Int)(b:Nat)(c x:Int)(l t:Nat)(ps:List Nat)(ds:List D)(us:List (Option Nat))(ln:Nat)(cs:List D)(o4 o5 o6 o7 o8:Option D):List (Option D):=[some (.ro (ns.map .int)),some (.lst b [.int c, .int x]),some (Tn l t ps ds us),some (.lst ln (ND ps cs)),o4,o5,o6,o7,o8]
theorem z0Y{f:Nat->Option D}{ns:List Int}:rp f (.ro (ns.map .int))= .ro (ns.map .int):=z1h _ fun j hj=>by
 simp only[labs] at hj;obtain⟨e,he,hk⟩:=labsL_mem hj;obtain⟨i,_,rfl⟩:=List.mem_map.mp he;simp[labs] at hk
theorem nLab{B h l ln t:Nat}{ps:List Nat}{ds cs:List D}{us:List (Option Nat)}(W:Tw h B l ln t ps ds cs us){j:Nat}(hj:j∈labs (.lst ln (ND ps cs))):j=ln\/j∈labsL cs:=by
 simp only[labs,List.mem_cons] at hj
 exact hj.imp id fun hj=>z8S W.lc hj
theorem Ph.fT{B b l ln n t:Nat}{ps:List Nat}{ds cs:List D}{us:List (Option Nat)}{o6:Option D}(P:Ph B b l ln n t ps ds cs us o6)(q:D):rp (pl b q) (Tn l t ps ds us)=Tn l t ps ds us:=z0a fun hj=>(z0z.1 hj).elim (fun h=>by have:=P.b1;lia) P.b2
theorem Ph.fN{B b l ln n t:Nat}{ps:List Nat}{ds cs:List D}{us:List (Option Nat)}{o6:Option D}(P:Ph B b l ln n t ps ds cs us o6)(q:D):rp (pl b q) (.lst ln (ND ps cs))= .lst ln (ND ps cs):=z0a fun hj=>(nLab P.W hj).elim P.b4 P.b3
theorem Ph.f6{B b l ln n t:Nat}{ps:List Nat}{ds cs:List D}{us:List (Option Nat)}{o6:Option D}(P:Ph B b l ln n t ps ds cs us o6)(q:D):Option.map (rp (pl b q)) o6=o6:=by
 cases o6 with
 |none=>rfl
 |some d=>rw[Option.map_some,z0a fun hj=>(P.o6 d rfl b hj).2.2.1 rfl]
noncomputable def pA:MS:=(sIf (mBoo (mBin (mVar 4) (mC (.int 0)) gtD)) (sAsg (.nm 1) (z0d z2A [(mVar 0),(mVar 4)])) sNx)
noncomputable def pB:MS:=(sAsg (.nm 5) (mMth "Tree" "here" z0e (mVar 2) []))
noncomputable def pC:MS:=(sAsg (.nm 6) (z0d z2V [(mVar 1),(mVar 4)]))
noncomputable def pD:MS:=(z0V (z0X (mVar 3) [(mCB [(mVar 5),(z0d (z1W 12) [(mVar 6)])] tupD)] appD))
noncomputable def pE:MS:=(sIf (mBoo (mBin (mMth "Tree" "do" z1t (mVar 2) [(mVar 6)]) (mBin (mCB [(mVar 3)] lenD) (mC (.int 1)) subD) neD)) (sRet (mC (.bool false))) sNx)
noncomputable def pF:MS:=(z0V (z0d (f_l_change 12) [(mVar 6)]))
noncomputable def pG:MS:=(sIf (mAnd (mBoo (mBin (z0d z0A [(mVar 1),(mC (.int 3))]) (mC (.int 0)) eqD)) (mBoo (mBin (mMth "Tree" "go" z0w (mVar 2) [(z0d z0A [(mVar 1),(mCB [(mVar 3)] lenD)])]) (mCB [(mVar 3)] lenD) geD))) (sRet (mC (.bool false))) sNx)
section
variable{ns:List Int}{B b l ln n t:Nat}{c x:Int}{ps:List Nat}{ds cs:List D}{us:List (Option Nat)}{o5 o6:Option D}
theorem zfS{i:Nat}(hl:ns.length<1000)(hi:i<900)(P:Ph B b l ln n t ps ds cs us o6)(hc:Bg c x): ∃b' c' x' n',n<=n'/\Bg c' x'/\Ph B b' l ln n' t ps ds cs us o6/\pA ⟨st1 ns b c x l t ps ds us ln cs (some (.int (i:Nat))) o5 o6 none none,[some (.ro (ns.map .int))],n⟩= .nx ⟨st1 ns b' c' x' l t ps ds us ln cs (some (.int (i:Nat))) o5 o6 none none,[some (.ro (ns.map .int))],n'⟩:=by
 unfold pA
 by_cases h0:0<i
 ·obtain⟨c1,x1,b1,e1⟩:=zam ns i n (by lia) hl
  refine⟨n,c1,x1,n+1,by lia,b1,⟨P.W.up (by lia),by lia, .inr (by have:=P.W.lB;have:=P.W.Bh;lia),fun q=>by have:=P.W.dd.lab q;lia,fun q=>by have:=P.W.dc.lab q;lia,by have:=P.W.nB;have:=P.W.Bh;lia,fun d hd j hj=>by have:=P.o6 d hd j hj;exact⟨this.1,by lia,by lia,this.2.2.2⟩⟩, ?_⟩
  walk_at ""
  simp only[show decide ((0:Int)<(i:Int))=true by simp;lia]
  walk_at ""
  rw[e1]
  walk_at ""
 ·refine⟨b,c,x,n,Nat.le_refl _,hc,P, ?_⟩
  walk_at ""
  simp only[show decide ((0:Int)<(i:Int))=false by simp;lia]
  walk_at ""
theorem zfT{o4:Option D}:pB ⟨st1 ns b c x l t ps ds us ln cs o4 o5 o6 none none,[some (.ro (ns.map .int))],n⟩= .nx ⟨st1 ns b c x l t ps ds us ln cs o4 (some (.int (t:Nat))) o6 none none,[some (.ro (ns.map .int))],n⟩:=by
 unfold pB
 walk_at ""
 simp only[oH]
 walk_at ""
 rw[z5e]
 walk_at ""
end
theorem zeg{T d:D}(h: ∀j∈labs d,j∉labs T)(hd:rp (fun j=>findT j d) d=d):rp (fun k=>findL k [T,d]) d=d:=by
 rw[z2h (g:=fun j=>findT j d) d fun j hj=>by rw[z0q (h j hj)];exact z1f]
 exact hd
theorem z8X{T d x:D}(h: ∀j∈labs x,j∉labs T/\j∉labs d):rp (fun k=>findL k [T,d]) x=x:=z1h x fun j hj=>findL_none _ (by
 simp only[labsL,List.append_nil,List.mem_append,not_or];exact h j hj)
theorem z6g{d x:D}(h: ∀j∈labs x,j∉labs d):rp (fun k=>findL k [d]) x=x:=z1h x fun j hj=>findL_none _ (by
 simp only[labsL,List.append_nil];exact h j hj)
theorem bLab{a j:Nat}{c x:Int}(h:j∈labs (.lst a [.int c, .int x])):j=a:=by simpa[labs,labsL] using h
section
variable{ns:List Int}{B b l ln n t:Nat}{c x:Int}{ps:List Nat}{ds cs:List D}{us:List (Option Nat)}{o6:Option D}
theorem zeh{i:Nat}(hi:i<100)(P:Ph B b l ln n t ps ds cs us o6)(hc:Bg c x)(np:ps.length+1<100):
 ∃c' x' d' c0 d n',n<=n'/\Bg c' x'/\Ph B b l ln n' (ps.length+1) (ps++[t]) (ds++[d']) (cs++[c0]) (z0f (ps++[t]) 1000 (us++[none]) (ps.length+1)) (some d)/\
  (seqS pC (seqS pD (seqS pE pF))) ⟨st1 ns b c x l t ps ds us ln cs (some (.int (i:Nat))) (some (.int (t:Nat))) o6 none none,[some (.ro (ns.map .int))],n⟩= .nx ⟨st1 ns b c' x' l (ps.length+1) (ps++[t]) (ds++[d']) (z0f (ps++[t]) 1000 (us++[none]) (ps.length+1)) ln (cs++[c0]) (some (.int (i:Nat))) (some (.int (t:Nat))) (some d) none none,[some (.ro (ns.map .int))],n'⟩:=by
 have W:=P.W
 have Bh:=W.Bh
 have lB:=W.lB
 have nB:=W.nB
 have hbn:=P.hb
 obtain⟨d,c1,x1,hd,bg1,e1⟩:=zc1 b c x (i:Int) n hc P.hb
 obtain⟨r1,r2,r3,r4,r5⟩:=za3 (i:=(i:Int)) (by
  have:((i:Int)).natAbs=i:=by simp
  rw[this];exact Nat.lt_of_lt_of_le hi (by decide)) hd
 obtain⟨c0,n1,q1,e2⟩:=zbL d n (n+5) r1 r2
 have lod: ∀j∈labs d,n<=j/\j<n+5:=fun j hj=>⟨z0J d r1 hj,r3 j hj⟩
 have le1:=q1.le
 obtain⟨d',n2,q2,e3⟩:=zfN (l:=l) (t:=t) (us:=us) (m:=n) W.pp (W.dd.up (show n<=n1 by lia)) lB (by lia) W.ht W.hu (by lia) (by have:=W.ld;lia) r1 r2 (by lia) fun j hj=>⟨fun q=>by have:=W.dd.lab q;have:=lod j hj;lia,by have:=lod j hj;lia⟩
 have le2:=q2.le
 have us':(z0f (ps++[t]) 1000 (us++[none]) (ps.length+1)).length=ps.length+2:=by rw[z2l,List.length_append,W.hu];rfl
 have W2:=W.grow q1 q2 (by lia) (by lia) us' np r5
 have e4:=ze5 11 d n r1 r2 r4
 have rb:=fun w=>P.fT w
 generalize hT:Tn l (ps.length+1) (ps++[t]) (ds++[d']) (z0f (ps++[t]) 1000 (us++[none]) (ps.length+1))=T' at e3⊢
 have lT: ∀j∈labs T',(l<=j/\j<=l+3)\/j∈labsL ds\/n1<=j:=fun j hj=>by
  rw[<-hT,z0z,labsL_app] at hj
  simp only[labsL,List.append_nil,List.mem_append] at hj
  rcases hj with hj|hj|hj
  ·exact .inl hj
  ·exact .inr (.inl hj)
  ·exact .inr (.inr (z0J d' q2.rs hj))
 have lN: ∀j∈labs (.lst ln (ND (ps++[t]) (cs++[c0]))),j=ln\/j∈labsL cs\/(n+5<=j/\j<n1):=fun j hj=>by
  rcases nLab W2 hj with hj|hj
  ·exact .inl hj
  ·rw[labsL_app] at hj
   rcases List.mem_append.1 hj with hj|hj
   ·exact .inr (.inl hj)
   ·have hj:j∈labs c0:=by simpa[labsL] using hj
    exact .inr (.inr ⟨z0J c0 q1.rs hj,q1.up j hj⟩)
 have dT: ∀j∈labs d,j∉labs T':=fun j hj q=>by
  have:=lod j hj
  rcases lT j q with q|q|q
  ·lia
  ·have:=W.dd.lab q;lia
  ·lia
 have bT:b∉labs T':=fun q=>by
  rcases lT b q with q|q|q
  ·have:=P.b1;lia
  ·exact P.b2 q
  ·lia
 have bD:b∉labs d:=fun q=>by have:=lod b q;lia
 have NT: ∀j∈labs (.lst ln (ND (ps++[t]) (cs++[c0]))),j∉labs T'/\j∉labs d:=fun j hj=>by
  rcases lN j hj with h|h|h
  ·subst h
   exact⟨fun q=>by
    rcases lT _ q with q|q|q
    ·have:=W.nl;lia
    ·have:=W.dd.lab q;lia
    ·lia,fun q=>by have:=lod _ q;lia⟩
  ·have:=W.dc.lab h
   exact⟨fun q=>by
    rcases lT _ q with q|q|q
    ·lia
    ·exact W.dj j q h
    ·lia,fun q=>by have:=lod _ q;lia⟩
  ·exact⟨fun q=>by
    rcases lT _ q with q|q|q
    ·lia
    ·have:=W.dd.lab q;lia
    ·lia,fun q=>by have:=lod _ q;lia⟩
 have a0: ∀w,rp (pl ln w) (.lst b [.int c1, .int x1])= .lst b [.int c1, .int x1]:=fun w=>z0a fun hj=>P.b4 (bLab hj).symm
 have a1: ∀w,rp (pl ln w) (Tn l t ps ds us)=Tn l t ps ds us:=fun w=>z0a fun hj=>(z0z.1 hj).elim (fun h=>by have:=W.nl;lia) fun h=>by have:=W.dd.lab h;lia
 have a2: ∀w,rp (pl ln w) d=d:=fun w=>z0a fun hj=>by have:=lod _ hj;lia
 have u0:rp (fun k=>findL k [T',d]) (.lst b [.int c1, .int x1])= .lst b [.int c1, .int x1]:=z8X fun j hj=>by rw[bLab hj];exact⟨bT,bD⟩
 have u1:rp (fun k=>findL k [T',d]) (Tn l t ps ds us)=T':=by rw[<-hT];exact z2Z
 have u2:rp (fun k=>findL k [T',d]) (.lst ln (ND (ps++[t]) (cs++[c0])))= .lst ln (ND (ps++[t]) (cs++[c0])):=z8X NT
 have u3:rp (fun k=>findL k [T',d]) d=d:=zeg dT (zbK d (z4p d r1) r4)
 have v0:rp (fun k=>findL k [ch d]) (.lst b [.int c1, .int x1])= .lst b [.int c1, .int x1]:=z6g fun j hj=>by rw[bLab hj,z0x];exact bD
 have v1:rp (fun k=>findL k [ch d]) T'=T':=z6g fun j hj q=>dT j (by rw[z0x] at q;exact q) hj
 have v2:rp (fun k=>findL k [ch d]) (.lst ln (ND (ps++[t]) (cs++[c0])))= .lst ln (ND (ps++[t]) (cs++[c0])):=z6g fun j hj q=>(NT j hj).2 (by rw[z0x] at q;exact q)
 have v3:rp (fun k=>findL k [ch d]) d=ch d:=by rw[z2h (g:=fun j=>findT j (ch d)) d fun j _=>z1f];exact z9T d (z4p d r1) r4
 refine⟨c1,x1,d',c0,ch d,n2,by lia,bg1,⟨W2,by lia,P.b1,fun q=> ?_,fun q=> ?_,P.b4,fun z hz j hj=> ?_⟩, ?_⟩
 ·rw[labsL_app] at q
  rcases List.mem_append.1 q with q|q
  ·exact P.b2 q
  ·have:=z0J d' q2.rs (k:=b) (by simpa[labsL] using q);lia
 ·rw[labsL_app] at q
  rcases List.mem_append.1 q with q|q
  ·exact P.b3 q
  ·have:=z0J c0 q1.rs (k:=b) (by simpa[labsL] using q);lia
 ·injection hz with hz
  subst hz
  rw[z0x] at hj
  have:=lod j hj
  refine⟨by lia,by lia,fun e=>bD (e▸hj),fun q=> ?_,fun q=> ?_⟩
  ·rw[labsL_app] at q
   rcases List.mem_append.1 q with q|q
   ·have:=W.dd.lab q;lia
   ·have:=z0J d' q2.rs (k:=j) (by simpa[labsL] using q);lia
  ·rw[labsL_app] at q
   rcases List.mem_append.1 q with q|q
   ·have:=W.dc.lab q;lia
   ·have:=z0J c0 q1.rs (k:=j) (by simpa[labsL] using q);lia
 have lc:=W.lc
 have hp6:=fun w=>P.f6 w
 have sC:pC ⟨st1 ns b c x l t ps ds us ln cs (some (.int (i:Nat))) (some (.int (t:Nat))) o6 none none,[some (.ro (ns.map .int))],n⟩= .nx ⟨st1 ns b c1 x1 l t ps ds us ln cs (some (.int (i:Nat))) (some (.int (t:Nat))) (some d) none none,[some (.ro (ns.map .int))],n+5⟩:=by
  unfold pC
  walk_at ""
  rw[e1,z1L rfl rfl rfl (by simp only[z07,z0g,Option.map_some,Option.map_none,z0Y,z4E,P.fT,P.fN,z0o,P.f6]) (by simp only[z07,z0g,Option.map_some,z0Y])]
  simp only[z07,z0g,Option.map_some,Option.map_none,z0Y,z4E,P.fT,P.fN,z0o,P.f6]
  walk_at ""
 have sD:pD ⟨st1 ns b c1 x1 l t ps ds us ln cs (some (.int (i:Nat))) (some (.int (t:Nat))) (some d) none none,[some (.ro (ns.map .int))],n+5⟩= .nx ⟨[some (.ro (ns.map .int)),some (.lst b [.int c1, .int x1]),some (Tn l t ps ds us),some (.lst ln (ND (ps++[t]) (cs++[c0]))),some (.int (i:Nat)),some (.int (t:Nat)),some d,none,none],[some (.ro (ns.map .int))],n1⟩:=by
  unfold pD
  walk_at ""
  rw[e2]
  walk_at ""
  rw[z5b ⟨by rw[zl,z4f];lia,fun hj=>by
   simp only[labs,labsL,List.nil_append,List.append_nil] at hj
   have:=z0J c0 q1.rs hj;lia⟩,<-ze9 W.lc,z4D]
  simp only[z07,z0g,Option.map_some,Option.map_none,z0Y,z4E,a0,a1,a2,z0o]
  walk_at ""
 have sE:pE ⟨[some (.ro (ns.map .int)),some (.lst b [.int c1, .int x1]),some (Tn l t ps ds us),some (.lst ln (ND (ps++[t]) (cs++[c0]))),some (.int (i:Nat)),some (.int (t:Nat)),some d,none,none],[some (.ro (ns.map .int))],n1⟩= .nx ⟨[some (.ro (ns.map .int)),some (.lst b [.int c1, .int x1]),some T',some (.lst ln (ND (ps++[t]) (cs++[c0]))),some (.int (i:Nat)),some (.int (t:Nat)),some d,none,none],[some (.ro (ns.map .int))],n2⟩:=by
  unfold pE
  walk_at ""
  simp only[oO]
  walk_at ""
  rw[e3,z0s]
  ·simp only[z07,z0g,Option.map_some,Option.map_none,z0Y,u0,u1,u2,u3,z0o]
   walk_at ""
   rw[z4f,List.length_append,List.length_singleton,show((ps.length+1+1:Nat):Int) - 1=((ps.length+1:Nat):Int) by lia]
   simp only[beq_self_eq_true,Bool.not_true]
   walk_at ""
  ·intro k hk
   simp only[labsL,List.append_nil,List.mem_append] at hk
   rcases hk with hk|hk
   ·refine z0h (d:=T') (by simp) ?_
    rw[<-hT]
    refine z4d (t:=t) (us:=us) W2.dd lB ?_
    rw[z0z,labsL_app]
    exact(z0z.1 hk).imp id fun q=>List.mem_append_left _ q
   ·exact z0h (d:=d) (by simp) (z0r d (z4p d r1) hk)
  ·intro e
   injection e with e _
   simp only[z07,z0g,Option.map_some,Option.map_none,z0Y,u0,u1,u2,u3,z0o]
   simp only[e,and_self]
 have sF:pF ⟨[some (.ro (ns.map .int)),some (.lst b [.int c1, .int x1]),some T',some (.lst ln (ND (ps++[t]) (cs++[c0]))),some (.int (i:Nat)),some (.int (t:Nat)),some d,none,none],[some (.ro (ns.map .int))],n2⟩= .nx ⟨[some (.ro (ns.map .int)),some (.lst b [.int c1, .int x1]),some T',some (.lst ln (ND (ps++[t]) (cs++[c0]))),some (.int (i:Nat)),some (.int (t:Nat)),some (ch d),none,none],[some (.ro (ns.map .int))],n2⟩:=by
  unfold pF
  walk_at ""
  rw[e4,z0s]
  ·simp only[z07,z0g,Option.map_some,Option.map_none,z0Y,v0,v1,v2,v3,z0o]
   walk_at ""
  ·intro j hj
   rw[z1f]
   exact z0r _ (z6c d (z4p d r1)) (by rw[z0x];simpa[labsL] using hj)
  ·intro e
   injection e with e _
   simp only[z07,z0g,Option.map_some,Option.map_none,z0Y,v0,v1,v2,v3,z0o]
   simp only[e,and_self]
 rw[z2D,sC,z2g,z2D,sD,z2g,z2D,sE,z2g,sF,<-hT]
end
theorem Ph.go{B b l ln n t t':Nat}{ps:List Nat}{ds cs:List D}{us us':List (Option Nat)}{o6:Option D}(P:Ph B b l ln n t ps ds cs us o6)(ht:t'<=ps.length)(hu:us'.length=ps.length+1):Ph B b l ln n t' ps ds cs us' o6:=
 ⟨P.W.go ht hu,P.hb,P.b1,P.b2,P.b3,P.b4,P.o6⟩
theorem z8Y{B b l ln n t t':Nat}{ps:List Nat}{ds cs:List D}{us us':List (Option Nat)}{o6:Option D}{r:List D}(P:Ph B b l ln n t ps ds cs us o6)(hr:labsL r=[]){j:Nat}(h:j=b\/j=ln\/j∈labsL cs\/(∃d,o6=some d/\j∈labs d)\/n<=j):findL j (Tn l t' ps ds us'::r)=none:=findL_none _ (by
 rw[labsL,hr,List.append_nil,z0z]
 have W:=P.W
 have lB:=W.lB
 have Bh:=W.Bh
 rcases h with rfl|rfl|h|⟨d,hd,h⟩|h
 ·exact fun q=>q.elim (fun q=>by have:=P.b1;lia) P.b2
 ·exact fun q=>q.elim (fun q=>by have:=W.nl;lia) fun q=>by have:=W.dd.lab q;have:=W.nB;lia
 ·exact fun q=>q.elim (fun q=>by have:=W.dc.lab h;lia) fun q=>W.dj j q h
 ·have:=P.o6 d hd j h
  exact fun q=>q.elim (fun q=>by lia) this.2.2.2.1
 ·exact fun q=>q.elim (fun q=>by lia) fun q=>by have:=W.dd.lab q;lia)
section
variable{ns:List Int}{B b l ln n t:Nat}{c x:Int}{ps:List Nat}{ds cs:List D}{us:List (Option Nat)}{o6:Option D}
theorem goB{t':Nat}{c1 x1:Int}{us':List (Option Nat)}{r:List D}(P:Ph B b l ln n t ps ds cs us o6)(hr:labsL r=[]):rp (fun j=>findL j (Tn l t' ps ds us'::r)) (.lst b [.int c1, .int x1])= .lst b [.int c1, .int x1]:=z1h _ fun j hj=>z8Y P hr (.inl (bLab hj))
theorem goN{t':Nat}{us':List (Option Nat)}{r:List D}(P:Ph B b l ln n t ps ds cs us o6)(hr:labsL r=[]):rp (fun j=>findL j (Tn l t' ps ds us'::r)) (.lst ln (ND ps cs))= .lst ln (ND ps cs):=z1h _ fun j hj=>z8Y P hr ((nLab P.W hj).elim (fun h=> .inr (.inl h)) fun h=> .inr (.inr (.inl h)))
theorem go6{t':Nat}{us':List (Option Nat)}{r:List D}(P:Ph B b l ln n t ps ds cs us o6)(hr:labsL r=[]):Option.map (rp (fun j=>findL j (Tn l t' ps ds us'::r))) o6=o6:=by
 cases o6 with
 |none=>rfl
 |some d=>rw[Option.map_some,z1h _ fun j hj=>z8Y P hr (.inr (.inr (.inr (.inl ⟨d,rfl,hj⟩))))]
theorem zfU{o4 o5:Int}(P:Ph B b l ln n t ps ds cs us o6)(hc:Bg c x): ∃c' x' t' us',Bg c' x'/\Ph B b l ln n t' ps ds cs us' o6/\pG ⟨st1 ns b c x l t ps ds us ln cs (some (.int o4)) (some (.int o5)) o6 none none,[some (.ro (ns.map .int))],n⟩= .nx ⟨st1 ns b c' x' l t' ps ds us' ln cs (some (.int o4)) (some (.int o5)) o6 none none,[some (.ro (ns.map .int))],n⟩:=by
 have W:=P.W
 obtain⟨r,c1,x1,r0,r1,b1,e1⟩:=z3h b c x 3 n hc (by decide) (by decide)
 have f1: ∀w y z,rpO (pl b w) (st1 ns b y z l t ps ds us ln cs (some (.int o4)) (some (.int o5)) o6 none none)=[some (.ro (ns.map .int)),some w,some (Tn l t ps ds us),some (.lst ln (ND ps cs)),some (.int o4),some (.int o5),o6,none,none]:=fun w y z=>by
  simp only[z07,z0g,Option.map_some,Option.map_none,z0Y,z4E,P.fT,P.fN,z0o,P.f6]
 have f2: ∀w,rpO (pl b w) [some (.ro (ns.map .int))]=[some (.ro (ns.map .int))]:=fun w=>by simp only[z07,z0g,Option.map_some,z0Y]
 have f3: ∀w,rpO (pl b w) [some (Tn l t ps ds us),some (.ro (ns.map .int))]=[some (Tn l t ps ds us),some (.ro (ns.map .int))]:=fun w=>by simp only[z07,z0g,Option.map_some,z0Y,P.fT]
 unfold pG
 walk_at ""
 rw[e1,z1L rfl rfl rfl (f1 _ _ _) (f2 _),f1,f2]
 walk_at ""
 cases hr:(r==0) with
 |false=>
  refine⟨c1,x1,t,us,b1,P, ?_⟩
  walk_at ""
 |true=>
  obtain⟨k,c2,x2,k0,k1,b2,e2⟩:=z3h b c1 x1 ((ps.length+1:Nat):Int) n b1 (by lia) (by have:=W.np;lia)
  obtain⟨k,rfl⟩:=Int.eq_ofNat_of_zero_le k0
  have hk:k<=ps.length:=by lia
  refine⟨c2,x2,k,z0f ps 1000 us k,b2,P.go hk (by rw[z2l];exact W.hu), ?_⟩
  walk_at ""
  simp only[oG]
  walk_at ""
  rw[z4f,e2,z1L rfl rfl rfl (f1 _ _ _) (f3 _),f1,f3]
  walk_at ""
  have y1:=goB (t':=k) (us':=z0f ps 1000 us k) (c1:=c2) (x1:=x2) (r:=[.int (k:Int)]) P rfl
  have y2:=goN (t':=k) (us':=z0f ps 1000 us k) (r:=[.int (k:Int)]) P rfl
  have y3:=go6 (t':=k) (us':=z0f ps 1000 us k) (r:=[.int (k:Int)]) P rfl
  have y4:rp (fun j=>findL j [Tn l k ps ds (z0f ps 1000 us k), .int (k:Int)]) (Tn l t ps ds us)=Tn l k ps ds (z0f ps 1000 us k):=z2Z
  rw[go_c W.pp (W.dd.tl W.lB) W.dd.fnd hk W.hu (by have:=W.np;lia),z0s]
  ·simp only[z07,z0g,Option.map_some,Option.map_none,z0Y,y1,y2,y3,y4,z0o]
   walk_at ""
   rw[z4f]
   simp only[show decide (((ps.length+1:Nat):Int)<=(k:Int))=false by simp;lia]
   walk_at ""
  ·intro j hj
   rw[labsL,show labsL [D.int (k:Int)]=[] from rfl,List.append_nil] at hj
   exact z0h (List.mem_cons_self ..) (z4d W.dd W.lB hj)
  ·intro e
   injection e with e _
   simp only[z07,z0g,Option.map_some,Option.map_none,z0Y,y1,y2,y3,y4,z0o]
   simp only[e,and_self]
end
theorem seq4{a b c d g:MS}{s s':Stt}(h:seqS a (seqS b (seqS c d)) s= .nx s'):seqS a (seqS b (seqS c (seqS d g))) s=g s':=by
 rw[z2D] at h⊢
 cases ea:a s with
 |nx s1=>
  rw[ea,z2g,z2D] at h
  rw[z2g,z2D]
  cases eb:b s1 with
  |nx s2=>
   rw[eb,z2g,z2D] at h
   rw[z2g,z2D]
   cases ec:c s2 with
   |nx s3=>
    rw[ec,z2g] at h
    rw[z2g,z2D,h,z2g]
   |_=>rw[ec] at h;cases h
  |_=>rw[eb] at h;cases h
 |_=>rw[ea] at h;cases h
noncomputable def turnM:MS:=(seqS pA (seqS pB (seqS pC (seqS pD (seqS pE (seqS pF pG))))))
noncomputable def Iv1(ns:List Int)(B l ln:Nat)(i:Nat)(s:Stt):Prop:= ∃(b n t:Nat) (c x:Int) (ps:List Nat) (ds cs:List D) (us:List (Option Nat)) (o4 o5 o6:Option D),s=⟨st1 ns b c x l t ps ds us ln cs o4 o5 o6 none none,[some (.ro (ns.map .int))],n⟩/\Bg c x/\Ph B b l ln n t ps ds cs us o6/\ps.length=i/\(∀f,Option.map (rp f) o4=o4)/\(∀f,Option.map (rp f) o5=o5)
theorem zc2{ns:List Int}{B l ln i:Nat}(hl:ns.length<1000)(hi:i<60)(s:Stt)(h:Iv1 ns B l ln i s): ∃σ',asg (.nm 4) (.int (0+i)) s.σ=some σ'/\∃s',turnM {s with σ:=σ'}= .nx s'/\Iv1 ns B l ln (i+1) s':=by
 obtain⟨b,n,t,c,x,ps,ds,cs,us,o4,o5,o6,rfl,hc,P,hp,_,_⟩:=h
 refine⟨_,rfl, ?_⟩
 show ∃s',turnM ⟨st1 ns b c x l t ps ds us ln cs (some (.int (0+(i:Int)))) o5 o6 none none,[some (.ro (ns.map .int))],n⟩= .nx s'/\_
 rw[Int.zero_add]
 obtain⟨b1,c1,x1,n1,h1,g1,P1,e1⟩:=zfS (ns:=ns) (i:=i) (o5:=o5) hl (by lia) P hc
 have e2:=zfT (ns:=ns) (b:=b1) (l:=l) (ln:=ln) (n:=n1) (t:=t) (c:=c1) (x:=x1) (ps:=ps) (ds:=ds) (cs:=cs) (us:=us) (o5:=o5) (o6:=o6) (o4:=some (.int (i:Nat)))
 obtain⟨c3,x3,d',c0,d,n3,h3,g3,P3,e3⟩:=zeh (ns:=ns) (i:=i) (by lia) P1 g1 (by lia)
 obtain⟨c4,x4,t4,us4,g4,P4,e4⟩:=zfU (ns:=ns) (o4:=(i:Int)) (o5:=(t:Int)) P3 g3
 refine⟨_, ?_,b1,n3,t4,c4,x4,_,_,_,us4,some (.int (i:Int)),some (.int (t:Int)),_,rfl,g4,P4,by simp[hp],fun _=>rfl,fun _=>rfl⟩
 unfold turnM
 rw[z2D,e1,z2g,z2D,e2,z2g,seq4 e3,e4]
theorem z6h{K:ItK}{g:Tg}{b:MS}{P:Nat->Stt->Prop}{item:Nat->D}{N:Nat}(hat: ∀i s,P i s->K.at' i s.tm=some (if i<N then some (item i) else none))
 (body: ∀i,i<N->∀s,P i s->∃σ',asg g (item i) s.σ=some σ'/\∃s',b {s with σ:=σ'}= .nx s'/\P (i+1) s'):
 ∀(f i:Nat) (s:Stt),i+f=N->P i s->∃s',forGo K g b f i s= .nx (s'.popn K.k)/\P N s'
 |0,i,s,hi,h=>by
  have e:i=N:=by lia
  subst e
  exact⟨s,z5d (by rw[hat i s h,if_neg (Nat.lt_irrefl _)]),h⟩
 |f+1,i,s,hi,h=>by
  obtain⟨σ',h1,s1,h2,h3⟩:=body i (by lia) s h
  obtain⟨s2,h4,h5⟩:=z6h hat body f (i+1) s1 (by lia) h3
  exact⟨s2,by rw[z3t (by rw[hat i s h,if_pos (by lia)]) h1 h2,h4],h5⟩
theorem zau{h n:Nat}{hs:List D}(H:Hel h n hs):SpL hs=true:=by
 have:=H.hd
 clear H
 induction hs with
 |nil=>rfl
 |cons e hs ih=>
  obtain⟨l,es,rfl,q,_⟩:=this e (by simp)
  rw[SpL,ih fun x hx=>this x (by simp[hx])]
  simp only[Sp,SpL,q,Bool.and_self]
theorem zei{h B l ln t:Nat}{ps:List Nat}{ds cs:List D}{us:List (Option Nat)}(W:Tw h B l ln t ps ds cs us):SpL (ND ps cs)=true:=by
 have key: ∀r:List Nat,(∀i∈r,i<cs.length)->SpL (r.map fun i=>D.tup [.int (pr ps i:Nat),cs.getD i .non])=true:=by
  intro r
  induction r with
  |nil=>intro _;rfl
  |cons i r ih=>
   intro hr
   rw[List.map_cons,SpL,ih fun x hx=>hr x (by simp[hx])]
   simp only[Sp,SpL,z4p _ (W.dc _ (z4J (hr i (by simp)))).1,Bool.and_self]
 exact key _ fun i hi=>by have:=List.mem_range.1 hi;have:=W.lc;lia
noncomputable abbrev st2(ns:List Int)(b:Nat)(c x:Int)(l t:Nat)(ps:List Nat)(ds:List D)(us:List (Option Nat))(ln:Nat)(cs:List D)(o4:Option D)(k:Nat)(o6:Option D)(h:Nat)(hs:List D)(o8:Option D):List (Option D):=[some (.ro (ns.map .int)),some (.lst b [.int c, .int x]),some (Tn l t ps ds us),some (.lst ln (ND ps cs)),o4,some (.int (k:Nat)),o6,some (.lst h hs),o8]
noncomputable def qA:MS:=(sIf (mOr (mBoo (mBin (mMth "Tree" "go" z0w (mVar 2) [(mVar 5)]) (mVar 5) neD)) (mNot (z0P (z0d z1e [(mVar 2),(mVar 5),(mVar 3),(mVar 7)])))) (sRet (mC (.bool false))) sNx)
noncomputable def faB:MS:=(sIf (mOr (mNot (z0P (z0d z2W [(mVar 2),(mVar 8)]))) (mBoo (mBin (mMth "Tree" "here" z0e (mVar 2) []) (mVar 5) neD))) (sRet (mC (.bool false))) sNx)
noncomputable def qB:MS:=(sFor (z0W (mCB [(bd (mC (.int 1)) negD),(mCB [(mVar 3)] lenD),(mBin (mCB [(mVar 3)] lenD) (z0d z0A [(mVar 1),(mBin (mC (.int 10)) (mC (.int 30)) powD)]) addD),(mBin (mBin (mC (.int 0)) (mC (.int 1)) subD) (z0d z0A [(mVar 1),(mBin (mC (.int 10)) (mC (.int 30)) powD)]) subD)] lstM)) (.nm 8) faB)
theorem z8Z{B b l ln h t k:Nat}{ps:List Nat}{ds cs hs':List D}{us:List (Option Nat)}{o6:Option D}(P:Ph B b l ln h t ps ds cs us o6){j:Nat}(h1:(j<l\/l+3<j)/\j∉labsL ds)(h2:j≠ln)(h3:j∉labsL cs)(h4:j≠h)(h5:j∉labsL hs'):findL j [Tn l t ps ds us, .int (k:Int), .lst ln (ND ps cs), .lst h hs']=none:=by
 rw[z0q fun q=>(z0z.1 q).elim (fun q=>by lia) h1.2,z0q (by simp[labs]),z0q fun q=>(nLab P.W q).elim h2 h3,z0q (by simp only[labs,List.mem_cons,not_or];exact⟨h4,h5⟩)]
 rfl
section
variable{ns:List Int}{B b l ln h n t z k:Nat}{c x:Int}{ps zs:List Nat}{ds cs hs:List D}{us:List (Option Nat)}{o4 o6 o8:Option D}
theorem zfV(P:Ph B b l ln h t ps ds cs us o6)(hk:k<=ps.length)(f4: ∀f,Option.map (rp f) o4=o4)(f8: ∀f,Option.map (rp f) o8=o8)(hz:h<z)(zn:z<n)(H:Hel h n hs)(hzs:z∉labsL hs)(hl:hs.length<1800):
 ∃hs' n',n<=n'/\Hel h n' hs'/\hs'.length<=hs.length+4/\z∉labsL hs'/\Ph B b l ln h k ps ds cs (z0f ps 1000 us k) o6/\qA ⟨st2 ns b c x l t ps ds us ln cs o4 k o6 h hs o8,[some (.lst z (IL zs)),some (.ro (ns.map .int))],n⟩= .nx ⟨st2 ns b c x l k ps ds (z0f ps 1000 us k) ln cs o4 k o6 h hs' o8,[some (.lst z (IL zs)),some (.ro (ns.map .int))],n'⟩:=by
 have W:=P.W
 have P1:Ph B b l ln h k ps ds cs (z0f ps 1000 us k) o6:=P.go hk (by rw[z2l];exact W.hu)
 have W1:=P1.W
 obtain⟨hs',n',h1,h2,h3,h4,⟨es,h5⟩,e1⟩:=z6Q W1 (by lia) H hl
 have y1:=goB (t':=k) (us':=z0f ps 1000 us k) (c1:=c) (x1:=x) (r:=[.int (k:Int)]) P rfl
 have y2:=goN (t':=k) (us':=z0f ps 1000 us k) (r:=[.int (k:Int)]) P rfl
 have y3:=go6 (t':=k) (us':=z0f ps 1000 us k) (r:=[.int (k:Int)]) P rfl
 have y4:rp (fun j=>findL j [Tn l k ps ds (z0f ps 1000 us k), .int (k:Int)]) (Tn l t ps ds us)=Tn l k ps ds (z0f ps 1000 us k):=z2Z
 have y5:rp (fun j=>findL j [Tn l k ps ds (z0f ps 1000 us k), .int (k:Int)]) (.lst h hs)= .lst h hs:=z1h _ fun j hj=>z8Y P rfl (.inr (.inr (.inr (.inr (by
  simp only[labs,List.mem_cons] at hj
  rcases hj with rfl|hj
  ·exact Nat.le_refl _
  ·have:=H.lo j hj;lia)))))
 have y6:rp (fun j=>findL j [Tn l k ps ds (z0f ps 1000 us k), .int (k:Int)]) (.lst z (IL zs))= .lst z (IL zs):=z1h _ fun j hj=>z8Y P rfl (.inr (.inr (.inr (.inr (by
  simp only[labs,z1C,List.mem_singleton] at hj;lia)))))
 have lB:=W.lB
 have Bh:=W.Bh
 have nB:=W.nB
 have zh:z∉labsL hs':=fun q=>(h4 z q).elim hzs fun q=>by lia
 have q1:rp (fun j=>findL j [Tn l k ps ds (z0f ps 1000 us k), .int (k:Int), .lst ln (ND ps cs), .lst h hs']) (.lst b [.int c, .int x])= .lst b [.int c, .int x]:=z1h _ fun j hj=>by
  have:=bLab hj;subst this
  exact z8Z P1 ⟨P.b1,P.b2⟩ P.b4 P.b3 (by have:=P.hb;lia) fun q=>by have:=h2.lo _ q;have:=P.hb;lia
 have q2:rp (fun j=>findL j [Tn l k ps ds (z0f ps 1000 us k), .int (k:Int), .lst ln (ND ps cs), .lst h hs']) (Tn l k ps ds (z0f ps 1000 us k))=Tn l k ps ds (z0f ps 1000 us k):=z2Z
 have q3:rp (fun j=>findL j [Tn l k ps ds (z0f ps 1000 us k), .int (k:Int), .lst ln (ND ps cs), .lst h hs']) (.lst ln (ND ps cs))= .lst ln (ND ps cs):=by
  rw[rp,z0q fun q=>(z0z.1 q).elim (fun q=>by have:=W.nl;lia) fun q=>by have:=W.dd.lab q;lia,z0q (by simp[labs]),z1B (by rw[findT,if_pos rfl];rfl),findT,if_pos rfl]
 have q4:rp (fun j=>findL j [Tn l k ps ds (z0f ps 1000 us k), .int (k:Int), .lst ln (ND ps cs), .lst h hs']) (.lst h hs)= .lst h hs':=by
  rw[rp,z0q fun q=>(z0z.1 q).elim (fun q=>by lia) fun q=>by have:=W.dd.lab q;lia,z0q (by simp[labs]),z0q fun q=>(nLab W q).elim (fun q=>by lia) fun q=>by have:=W.dc.lab q;lia,z1B (by rw[findT,if_pos rfl];rfl),findT,if_pos rfl]
 have q5:rp (fun j=>findL j [Tn l k ps ds (z0f ps 1000 us k), .int (k:Int), .lst ln (ND ps cs), .lst h hs']) (.lst z (IL zs))= .lst z (IL zs):=z1h _ fun j hj=>by
  simp only[labs,z1C,List.mem_singleton] at hj;subst hj
  exact z8Z P1 ⟨.inr (by lia),fun q=>by have:=W.dd.lab q;lia⟩ (by lia) (fun q=>by have:=W.dc.lab q;lia) (by lia) zh
 have q6:Option.map (rp (fun j=>findL j [Tn l k ps ds (z0f ps 1000 us k), .int (k:Int), .lst ln (ND ps cs), .lst h hs'])) o6=o6:=by
  cases o6 with
  |none=>rfl
  |some d=>
   rw[Option.map_some,z1h _ fun j hj=>by
    have:=P.o6 d rfl j hj
    exact z8Z P1 ⟨.inr (by lia),this.2.2.2.1⟩ (by lia) this.2.2.2.2 (by lia) fun q=>by have:=h2.lo _ q;lia]
 refine⟨hs',n',h1,h2,h3,zh,P1, ?_⟩
 unfold qA
 walk_at ""
 simp only[oG]
 walk_at ""
 rw[go_c W.pp (W.dd.tl W.lB) W.dd.fnd hk W.hu (by have:=W.np;lia),z0s]
 ·simp only[z07,z0g,Option.map_some,Option.map_none,z0Y,y1,y2,y3,y4,y5,y6,f4,f8,z0o]
  walk_at ""
  rw[e1,z0s]
  ·simp only[z07,z0g,Option.map_some,Option.map_none,z0Y,q1,q2,q3,q4,q5,q6,f4,f8,z0o]
   walk_at ""
  ·intro j hj
   simp only[labsL,List.append_nil,List.mem_append] at hj
   rcases hj with hj|hj|hj|hj
   ·exact z0h (List.mem_cons_self ..) (z4d W1.dd W.lB hj)
   ·simp[labs] at hj
   ·exact z0h (d:= .lst ln (ND ps cs)) (by simp) (z0r _ (by simp only[Sp];exact zei W) hj)
   ·refine z0h (d:= .lst h hs') (by simp) (z0r _ (by simp only[Sp];exact zau h2) ?_)
    simp only[labs,List.mem_cons] at hj⊢
    exact hj.imp id fun q=>by rw[h5,labsL_app];exact List.mem_append_left _ q
  ·intro e
   injection e with _ e
   injection e with _ e
   injection e with _ e
   injection e with e _
   simp only[z07,z0g,Option.map_some,Option.map_none,z0Y,q1,q2,q3,q4,q5,q6,f4,f8,z0o]
   simp only[e,and_self]
 ·intro j hj
  rw[labsL,show labsL [D.int (k:Int)]=[] from rfl,List.append_nil] at hj
  exact z0h (List.mem_cons_self ..) (z4d W.dd W.lB hj)
 ·intro e
  injection e with e _
  simp only[z07,z0g,Option.map_some,Option.map_none,z0Y,y1,y2,y3,y4,y5,y6,f4,f8,z0o]
  simp only[e,and_self]
theorem zej{f:Int}(hf: ¬(0<=f/\f<=ps.length)){tm:List (Option D)}:faB ⟨st2 ns b c x l k ps ds us ln cs o4 k o6 h hs (some (.int f)),tm,n⟩= .nx ⟨st2 ns b c x l k ps ds us ln cs o4 k o6 h hs (some (.int f)),tm,n⟩:=by
 unfold faB
 walk_at ""
 rw[zc0 hf]
 walk_at ""
 simp only[oH]
 walk_at ""
 rw[z5e]
 walk_at ""
theorem zfW(P:Ph B b l ln h k ps ds cs us o6)(hc:Bg c x)(f4: ∀f,Option.map (rp f) o4=o4)(f8: ∀f,Option.map (rp f) o8=o8)(hz:h<z)(H:Hel h n hs):
 ∃c' x' n' p8,n<=n'/\Bg c' x'/\(∀f,Option.map (rp f) p8=p8)/\qB ⟨st2 ns b c x l k ps ds us ln cs o4 k o6 h hs o8,[some (.lst z (IL zs)),some (.ro (ns.map .int))],n⟩= .nx ⟨st2 ns b c' x' l k ps ds us ln cs o4 k o6 h hs p8,[some (.lst z (IL zs)),some (.ro (ns.map .int))],n'⟩:=by
 have hb:=P.hb
 obtain⟨r,c1,x1,r0,r1,b1,e1⟩:=z3h b c x 1000000000000000000000000000000 n hc (by decide) (by decide)
 obtain⟨r',c2,x2,r0',r1',b2,e2⟩:=z3h b c1 x1 1000000000000000000000000000000 n b1 (by decide) (by decide)
 have fh: ∀w,rp (pl b w) (.lst h hs)= .lst h hs:=fun w=>z0a fun hj=>by
  simp only[labs,List.mem_cons] at hj
  rcases hj with hj|hj
  ·lia
  ·have:=H.lo b hj;lia
 have fz: ∀w,rp (pl b w) (.lst z (IL zs))= .lst z (IL zs):=fun w=>z0a fun hj=>by
  simp only[labs,z1C,List.mem_singleton] at hj;lia
 have f1: ∀w y y',rpO (pl b w) (st2 ns b y y' l k ps ds us ln cs o4 k o6 h hs o8)=[some (.ro (ns.map .int)),some w,some (Tn l k ps ds us),some (.lst ln (ND ps cs)),o4,some (.int (k:Nat)),o6,some (.lst h hs),o8]:=fun w y y'=>by
  simp only[z07,z0g,Option.map_some,z0Y,z4E,P.fT,P.fN,z0o,P.f6,fh,f4,f8]
 obtain⟨s',e3,p8,rfl,f8'⟩:=z6h (K:=kLst) (g:= .nm 8) (b:=faB) (P:=fun _ s=> ∃p8,s=⟨st2 ns b c2 x2 l k ps ds us ln cs o4 k o6 h hs p8,[some (.lst n [.int (-1), .int (ps.length+1:Nat), .int ((ps.length+1:Nat)+r), .int (-1 -r')]),some (.lst z (IL zs)),some (.ro (ns.map .int))],n+1⟩/\∀f,Option.map (rp f) p8=p8)
  (item:=fun i=>[D.int (-1), .int (ps.length+1:Nat), .int ((ps.length+1:Nat)+r), .int (-1 -r')].getD i .non) (N:=4) (by
   rintro i s ⟨p8,rfl,_⟩
   show some ([D.int (-1), .int (ps.length+1:Nat), .int ((ps.length+1:Nat)+r), .int (-1 -r')][i]?)=_
   by_cases hi:i<4
   ·rw[if_pos hi,List.getD_eq_getElem?_getD,List.getElem?_eq_getElem (by simpa using hi)];rfl
   ·rw[if_neg hi,List.getElem?_eq_none (by simp;lia)]) (by
   rintro i hi s ⟨p8,rfl,_⟩
   refine⟨_,rfl, ?_⟩
   have key: ∃f:Int,[D.int (-1), .int (ps.length+1:Nat), .int ((ps.length+1:Nat)+r), .int (-1 -r')].getD i .non= .int f/\¬(0<=f/\f<=ps.length):=by
    rcases(show i=0\/i=1\/i=2\/i=3 by lia) with rfl|rfl|rfl|rfl
    ·exact⟨-1,rfl,by lia⟩
    ·exact⟨_,rfl,by lia⟩
    ·exact⟨_,rfl,by lia⟩
    ·exact⟨_,rfl,by lia⟩
   obtain⟨f,ef,hf⟩:=key
   rw[ef]
   exact⟨_,zej hf,some (.int f),rfl,fun _=>rfl⟩) 4 0 ⟨st2 ns b c2 x2 l k ps ds us ln cs o4 k o6 h hs o8,[some (.lst n [.int (-1), .int (ps.length+1:Nat), .int ((ps.length+1:Nat)+r), .int (-1 -r')]),some (.lst z (IL zs)),some (.ro (ns.map .int))],n+1⟩ (by lia) ⟨o8,rfl,f8⟩
 refine⟨c2,x2,n+1,p8,by lia,b2,f8', ?_⟩
 unfold qB
 unfold z0W
 walk_at ""
 rw[z4f]
 try (walk_at "")
 rw[z8E ⟨by decide,by decide,by decide⟩]
 walk_at ""
 rw[show(10:Int)^(30:Int).toNat=1000000000000000000000000000000 by decide]
 rw[e1,z1L rfl rfl rfl (f1 _ _ _) (by simp only[z07,z0g,Option.map_some,z0Y,z0o,fz]),f1]
 simp only[z07,z0g,Option.map_some,z0Y,z0o,fz]
 walk_at ""
 rw[z8E ⟨by decide,by decide,by decide⟩]
 walk_at ""
 rw[show(10:Int)^(30:Int).toNat=1000000000000000000000000000000 by decide]
 rw[e2,z1L rfl rfl rfl (f1 _ _ _) (by simp only[z07,z0g,Option.map_some,z0Y,z0o,fz]),f1]
 simp only[z07,z0g,Option.map_some,z0Y,z0o,fz]
 walk_at ""
 have e4:forGo kLst (.nm 8) faB 4 0 ⟨[some (.ro (ns.map .int)),some (.lst b [.int c2, .int x2]),some (Tn l k ps ds us),some (.lst ln (ND ps cs)),o4,some (.int (k:Nat)),o6,some (.lst h hs),o8],[some (.lst n [.int (-1), .int (ps.length+1:Nat), .int ((ps.length+1:Nat)+r), .int (0 - 1 -r')]),some (.lst z (IL zs)),some (.ro (ns.map .int))],n+1⟩=_:=e3
 rw[show ∀a b c d:D,∀tm:List (Option D),kLst.len (some (.lst n [a,b,c,d])::tm)=4 from fun _ _ _ _ _=>rfl,e4]
 rfl
end
noncomputable def endM:MS:=(sRet (z3F (z0d z1e [(mVar 2),(mMth "Tree" "here" z0e (mVar 2) []),(mVar 3),(mVar 7)]) (mCB [(z1i (z0W (mVar 7)) (.tp [(.nm 0),(.nm 1)]) (rt true) (mBin (mCB [(mVar 0)] repD) (mVar 1) eqS) 2 [])] allD)))
noncomputable abbrev T0(l:Nat):D:=Tn l 0 [] [.non] [none]
section
variable{l m m1 m2:Nat}{s:Stt}
theorem f_at:z4k "at" z3e (.obj l "Tree" [] []) (.int 0) s= .nx (s.put l (.obj l "Tree" ["at"] [.int 0])):=z5O ⟨by decide,by decide,by simp[labs]⟩
theorem f_ab(h:l≠m):z4k "above" z0j (.obj l "Tree" ["at"] [.int 0]) (.lst m [.non]) s= .nx (s.put l (.obj l "Tree" ["at", "above"] [.int 0, .lst m [.non]])):=z5O ⟨by decide,by decide,by simp[labs,labsL,h]⟩
theorem f_de(h:l≠m1):z4k "deeds" z1k (.obj l "Tree" ["at", "above"] [.int 0, .lst m [.non]]) (.lst m1 [.non]) s= .nx (s.put l (.obj l "Tree" ["at", "above", "deeds"] [.int 0, .lst m [.non], .lst m1 [.non]])):=z5O ⟨by decide,by decide,by simp[labs,labsL,h]⟩
theorem f_la(h:l≠m2):z4k "last_under" z0l (.obj l "Tree" ["at", "above", "deeds"] [.int 0, .lst m [.non], .lst m1 [.non]]) (.lst m2 [.non]) s= .nx (s.put l (Tre l (.int 0) m [.non] m1 [.non] m2 [.non])):=z5O ⟨by decide,by decide,by simp[labs,labsL,h]⟩
end
theorem z6V{l:Nat}{c:Str}{ks:List Str}{vs:List D}{d:D}:rp (pl l d) (.obj l c ks vs)=d:=by simp only[rp,pl,if_true]
theorem zc3(N:Nat):z8j 0 N=IL (List.range N):=by simp[z8j,IL]
theorem zfX{j:Int}{σ tm:List (Option D)}{n:Nat}(h:(-(2^62)<=j/\j<2^62)/\j.toNat<=sizeLine):lrM1 [.int j] ⟨σ,tm,n⟩= .ok (.lst n (z8j 0 j.toNat)) ⟨σ,tm,n+1⟩:=by
 simp only[lrM1,if_pos h];rfl
theorem z6W: ∀{ds:List D},(∀d∈ds,d= .bool true)->∃bs,boolsD ds=some bs/\bs.all id=true
 |[],_=>⟨[],rfl,rfl⟩
 |d::ds,h=>by
  obtain⟨bs,e,q⟩:=z6W (ds:=ds) fun x hx=>h x (by simp[hx])
  rw[h d (by simp)]
  exact⟨true::bs,by rw[boolsD,e];rfl,by simp[q]⟩
theorem tw0{n:Nat}:Tw (n+6) (n+6) (n+1) (n+5) 0 [] [.non] [.tup []] [none] where
 pp:=fun k h0 hk=>by simp at hk;lia
 ht:=Nat.le_refl _
 hu:=rfl
 ld:=rfl
 lc:=rfl
 np:=by decide
 dd:=fun d hd=>by cases List.mem_singleton.1 hd;exact⟨rfl,fun k hk=>by cases hk⟩
 dc:=fun d hd=>by cases List.mem_singleton.1 hd;exact⟨rfl,fun k hk=>by simp[labs,labsL] at hk⟩
 nd:=by simp[labsL,labs]
 dj:=fun j hj=>by simp[labsL,labs] at hj
 lB:=by lia
 nB:=by lia
 nl:= .inr (by lia)
 Bh:=Nat.le_refl _
 eq:=fun i h0 hi=>by simp at hi;lia
 sm:=fun d hd=>by
  cases List.mem_singleton.1 hd
  exact⟨⟨rfl,rfl,by simp[er,PyData.bulk],by simp[er,PyData.depth]⟩,⟨rfl,rfl,by simp[er,chE,PyData.bulk],by simp[er,chE,PyData.depth]⟩⟩
theorem zc4{l:Nat}:z0i [.obj l "Tree" [] []] (l+1)= .ok .non [T0 l] (l+4):=by
 unfold z0i z18
 walk_at ""
 rw[f_at]
 walk_at ""
 simp only[z6V]
 try (walk_at "")
 rw[f_ab (by lia)]
 walk_at ""
 simp only[z6V]
 try (walk_at "")
 rw[f_de (by lia)]
 walk_at ""
 simp only[z6V]
 try (walk_at "")
 rw[f_la (by lia)]
 walk_at ""
 simp only[z6V]
 try (walk_at "")
 rfl
theorem zc5{σ tm:List (Option D)}{n:Nat}(h1:rpO (fun j=>findL j [T0 n]) σ=σ)(h2:rpO (fun j=>findL j [T0 n]) tm=tm):mkK "Tree" z0i [] ⟨σ,tm,n⟩= .ok (T0 n) ⟨σ,tm,n+4⟩:=by
 have e:z2a (z0i [.obj n "Tree" [] []] (n+1)) [.obj n "Tree" [] []] ⟨σ,some (.obj n "Tree" [] [])::tm,n+1⟩= .ok .non ⟨σ,some (T0 n)::tm,n+4⟩:=by
  rw[zc4,z0s]
  ·rw[h1,z6L,h2,rp,show findL n [T0 n]=some (T0 n) by unfold T0 Tn Tre;rw[findL,findT,if_pos rfl]]
  ·intro j hj
   simp only[labsL,labs,List.append_nil,List.mem_singleton] at hj
   subst hj
   unfold T0 Tn Tre;rw[findL,findT,if_pos rfl];rfl
  ·intro q
   injection q with q _
   injection q with _ _ q _
   cases q
 unfold mkK bd
 dsimp only[Stt.nxt,Stt.psh]
 rw[e]
 rfl
theorem zc6{h m:Nat}{hs:List D}{σ tm:List (Option D)}{n:Nat}(H:Hel h m hs)(hz:hs.length<2000)(h7:σ[7]? =some (some (.lst h hs))): ∃n',mCB [(z1i (z0W (mVar 7)) (.tp [(.nm 0),(.nm 1)]) (rt true) (mBin (mCB [(mVar 0)] repD) (mVar 1) eqS) 2 [])] allD ⟨σ,tm,n⟩= .ok (.bool true) ⟨σ,tm,n'⟩:=by
 have pairs: ∃items:List (D×D),hs=items.map (fun q=>D.tup [q.1,q.2])/\∀q∈items,∃l es,q=(D.lst l es, .str (er (.lst l es)).shown)/\SpL es=true/\(∀x∈es,Sm (er x))/\es.length<=2000:=by
  have:=H.hd
  clear H hz h7
  induction hs with
  |nil=>exact⟨[],rfl,nofun⟩
  |cons e hs ih=>
   obtain⟨items,h1,h2⟩:=ih fun x hx=>this x (by simp[hx])
   obtain⟨l,es,rfl,q1,q2,q3⟩:=this e (by simp)
   refine⟨(D.lst l es, .str (er (.lst l es)).shown)::items,by rw[h1];rfl,fun q hq=> ?_⟩
   rcases List.mem_cons.1 hq with rfl|hq
   ·exact⟨l,es,rfl,q1,q2,q3⟩
   ·exact h2 q hq
 obtain⟨items,hi,hp⟩:=pairs
 obtain⟨n',g1,g2⟩:=z6O (mi:=z0W (mVar 7)) (K:=kLst) (mt:=rt true) (me:=(mBin (mCB [(mVar 0)] repD) (mVar 1) eqS)) (p:=fun _ _=>true) (g:=fun _ _=> .bool true) (items:=items) (its:=[some (.lst h hs)]) (ix:=[]) (s:=⟨σ,tm,n⟩) (σ:=σ) (tm:=tm) (n:=n)
  (by unfold z0W;walk_at "";simp only[h7];walk_at "") rfl (by have q:hs.length=items.length:=(by rw[hi];simp);rw[zl];lia) (fun i rest=>by
   show some (hs[i]?)=_
   rw[hi,List.getElem?_map]) (by show hs.length=_;rw[hi];simp) (fun q hq tm n=>⟨n,Nat.le_refl _,rfl⟩) (by
   intro q hq _ tm n
   refine⟨n,Nat.le_refl _, ?_⟩
   obtain⟨l,es,rfl,q1,q2,q3⟩:=hp q hq
   simp only[List.map_nil]
   walk_at ""
   rw[zbW q1 q2 q3]
   walk_at ""
   rw[show ∀(i j:Str) (s:Stt),eqS (.str i) (.str j) s= .ok (.bool (i==j)) s from fun _ _ _=>rfl]
   simp only[beq_self_eq_true])
 obtain⟨bs,e1,e2⟩:=z6W (ds:=(items.filter fun q=>true).map fun _=>D.bool true) fun d hd=>by obtain⟨_,_,rfl⟩:=List.mem_map.1 hd;rfl
 refine⟨n'+1, ?_⟩
 walk_at ""
 rw[g2]
 walk_at ""
 rw[zfs e1,e2]
section
variable{ns:List Int}{B b l ln h n t z:Nat}{c x:Int}{ps:List Nat}{ds cs hs:List D}{us:List (Option Nat)}{o4 o5 o6 o8:Option D}
theorem zek(P:Ph B b l ln h t ps ds cs us o6)(f4: ∀f,Option.map (rp f) o4=o4)(f5: ∀f,Option.map (rp f) o5=o5)(f8: ∀f,Option.map (rp f) o8=o8)(hn:h<n)(H:Hel h n hs)(hl:hs.length<1800):
 ∃σ' n',endM ⟨[some (.ro (ns.map .int)),some (.lst b [.int c, .int x]),some (Tn l t ps ds us),some (.lst ln (ND ps cs)),o4,o5,o6,some (.lst h hs),o8],[some (.ro (ns.map .int))],n⟩= .rt (.bool true) ⟨σ',[some (.ro (ns.map .int))],n'⟩:=by
 have W:=P.W
 obtain⟨hs',n',h1,h2,h3,h4,⟨es,h5⟩,e1⟩:=z6Q W hn H hl
 have lB:=W.lB
 have Bh:=W.Bh
 have nB:=W.nB
 have q1:rp (fun j=>findL j [Tn l t ps ds us, .int (t:Int), .lst ln (ND ps cs), .lst h hs']) (.lst b [.int c, .int x])= .lst b [.int c, .int x]:=z1h _ fun j hj=>by
  have:=bLab hj;subst this
  exact z8Z P ⟨P.b1,P.b2⟩ P.b4 P.b3 (by have:=P.hb;lia) fun q=>by have:=h2.lo _ q;have:=P.hb;lia
 have q2:rp (fun j=>findL j [Tn l t ps ds us, .int (t:Int), .lst ln (ND ps cs), .lst h hs']) (Tn l t ps ds us)=Tn l t ps ds us:=z2Z
 have q3:rp (fun j=>findL j [Tn l t ps ds us, .int (t:Int), .lst ln (ND ps cs), .lst h hs']) (.lst ln (ND ps cs))= .lst ln (ND ps cs):=by
  rw[rp,z0q fun q=>(z0z.1 q).elim (fun q=>by have:=W.nl;lia) fun q=>by have:=W.dd.lab q;lia,z0q (by simp[labs]),z1B (by rw[findT,if_pos rfl];rfl),findT,if_pos rfl]
 have q4:rp (fun j=>findL j [Tn l t ps ds us, .int (t:Int), .lst ln (ND ps cs), .lst h hs']) (.lst h hs)= .lst h hs':=by
  rw[rp,z0q fun q=>(z0z.1 q).elim (fun q=>by lia) fun q=>by have:=W.dd.lab q;lia,z0q (by simp[labs]),z0q fun q=>(nLab W q).elim (fun q=>by lia) fun q=>by have:=W.dc.lab q;lia,z1B (by rw[findT,if_pos rfl];rfl),findT,if_pos rfl]
 have q6:Option.map (rp (fun j=>findL j [Tn l t ps ds us, .int (t:Int), .lst ln (ND ps cs), .lst h hs'])) o6=o6:=by
  cases o6 with
  |none=>rfl
  |some d=>
   rw[Option.map_some,z1h _ fun j hj=>by
    have:=P.o6 d rfl j hj
    exact z8Z P ⟨.inr (by lia),this.2.2.2.1⟩ (by lia) this.2.2.2.2 (by lia) fun q=>by have:=h2.lo _ q;lia]
 obtain⟨n2,e2⟩:=zc6 (σ:=[some (.ro (ns.map .int)),some (.lst b [.int c, .int x]),some (Tn l t ps ds us),some (.lst ln (ND ps cs)),o4,o5,o6,some (.lst h hs'),o8]) (tm:=[some (.ro (ns.map .int))]) (n:=n') h2 (by lia) rfl
 refine⟨[some (.ro (ns.map .int)),some (.lst b [.int c, .int x]),some (Tn l t ps ds us),some (.lst ln (ND ps cs)),o4,o5,o6,some (.lst h hs'),o8],n2, ?_⟩
 unfold endM
 rw[zai,zag]
 have e3:z0d z1e [(mVar 2),(mMth "Tree" "here" z0e (mVar 2) []),(mVar 3),(mVar 7)] ⟨[some (.ro (ns.map .int)),some (.lst b [.int c, .int x]),some (Tn l t ps ds us),some (.lst ln (ND ps cs)),o4,o5,o6,some (.lst h hs),o8],[some (.ro (ns.map .int))],n⟩= .ok (.bool true) ⟨[some (.ro (ns.map .int)),some (.lst b [.int c, .int x]),some (Tn l t ps ds us),some (.lst ln (ND ps cs)),o4,o5,o6,some (.lst h hs'),o8],[some (.ro (ns.map .int))],n'⟩:=by
  walk_at ""
  simp only[oH]
  walk_at ""
  rw[z5e]
  walk_at ""
  rw[e1,z0s]
  ·simp only[z07,z0g,Option.map_some,Option.map_none,z0Y,q1,q2,q3,q4,q6,f4,f5,f8,z0o]
  ·intro j hj
   simp only[labsL,List.append_nil,List.mem_append] at hj
   rcases hj with hj|hj|hj|hj
   ·exact z0h (List.mem_cons_self ..) (z4d W.dd W.lB hj)
   ·simp[labs] at hj
   ·exact z0h (d:= .lst ln (ND ps cs)) (by simp) (z0r _ (by simp only[Sp];exact zei W) hj)
   ·refine z0h (d:= .lst h hs') (by simp) (z0r _ (by simp only[Sp];exact zau h2) ?_)
    simp only[labs,List.mem_cons] at hj⊢
    exact hj.imp id fun q=>by rw[h5,labsL_app];exact List.mem_append_left _ q
  ·intro e
   injection e with _ e
   injection e with _ e
   injection e with _ e
   injection e with e _
   simp only[z07,z0g,Option.map_some,Option.map_none,z0Y,q1,q2,q3,q4,q6,f4,f5,f8,z0o]
   simp only[e,and_self]
 rw[e3,z2Y,zaf,z2Y]
 show Res.lf _ (mCB _ _ _)=_
 rw[e2]
 rfl
end
theorem zel(ns:List Int)(hl:ns.length<1000)(n:Nat): ∃n',f_law [.ro (ns.map .int)] n= .ok (.bool true) [.ro (ns.map .int)] n':=by
 have e0:zbu=seqS (sAsg (.nm 1) (z0d z2A [(mVar 0),(mC (.int 0))]))
  (seqS (sAsg (.nm 2) (z61 "Tree" z0i []))
  (seqS (sAsg (.nm 3) (mCB [(mCB [(mC (.int 0)),(mCB [] tupD)] tupD)] lstM))
  (seqS (sFor (z39 [(mCB [(mC (.int 6)),(mCB [(mCB [(mVar 0)] lenD),(mC (.int 40))] minD)] maxD)]) (.nm 4) turnM)
  (seqS (sAsg (.nm 7) (mCB [] lstM))
  (seqS (sFor (z0W (z0d z1s [(mVar 1),(mCB [(mCB [(mVar 3)] lenD)] lrM1)])) (.nm 5) (seqS qA qB)) endM))))):=rfl
 obtain⟨c,x,b0,e1⟩:=zam ns 0 n (by lia) hl
 have off0: ∀j,j≠n+1->j≠n+2->j≠n+3->j≠n+4->findL j [T0 (n+1)]=none:=fun j h1 h2 h3 h4=>findL_none _ (by
  rw[labsL,show labsL ([]:List D)=[] from rfl,List.append_nil,z0z]
  intro q
  rcases q with q|q
  ·lia
  ·simp[labsL,labs] at q)
 have rb:rp (fun j=>findL j [T0 (n+1)]) (.lst n [.int c, .int x])= .lst n [.int c, .int x]:=z1h _ fun j hj=>by
  have:=bLab hj;exact off0 j (by lia) (by lia) (by lia) (by lia)
 have m1:=zc5 (σ:=[some (.ro (ns.map .int)),some (.lst n [.int c, .int x]),none,none,none,none,none,none,none]) (tm:=[some (.ro (ns.map .int))]) (n:=n+1) (by simp only[z07,z0g,Option.map_some,Option.map_none,z0Y,rb]) (by simp only[z07,z0g,Option.map_some,z0Y])
 have hM: ∃M:Nat,M<=40/\(if(if(40:Int)<((ns.map D.int).length:Int) then(40:Int) else((ns.map D.int).length:Int))>6 then(if(40:Int)<((ns.map D.int).length:Int) then(40:Int) else((ns.map D.int).length:Int)) else 6)=(M:Int):=by
  refine⟨(if(if(40:Int)<((ns.map D.int).length:Int) then(40:Int) else((ns.map D.int).length:Int))>6 then(if(40:Int)<((ns.map D.int).length:Int) then(40:Int) else((ns.map D.int).length:Int)) else 6).toNat, ?_, ?_⟩
  ·split<;>split<;>lia
  ·split<;>split<;>lia
 obtain⟨M,hM0,hM⟩:=hM
 obtain⟨s',e2,b,n1,t,c1,x1,ps,ds,cs,us,o4,o5,o6,rfl,hc1,P,hp,f4,f5⟩:=z68 (P:=Iv1 ns (n+6) (n+1) (n+5)) (lo:=0) (N:=M) (g:= .nm 4) (b:=turnM) (fun i hi s h=>zc2 hl (by lia) s h) M 0 ⟨st1 ns n c x (n+1) 0 [] [.non] [none] (n+5) [.tup []] none none none none none,[some (.ro (ns.map .int))],n+6⟩ (by lia)
  ⟨n,n+6,0,c,x,[],[.non],[.tup []],[none],none,none,none,rfl,b0,⟨tw0,by lia, .inl (by lia),by simp[labsL,labs],by simp[labsL,labs],by lia,nofun⟩,rfl,fun _=>rfl,fun _=>rfl⟩
 obtain⟨c2,x2,zs,hc2,zl2,zr,e3⟩:=za2 (b:=b) (ls:=n1+1) (n:=n1+2) (N:=ps.length+1) hc1 (by have:=P.hb;lia) (by lia) (by lia)
 have W:=P.W
 have off2: ∀j,j≠b->j≠n1+1->findL j [.lst b [.int c2, .int x2], .lst (n1+1) (IL (List.range (ps.length+1)))]=none:=fun j h1 h2=>findL_none _ (by
  simp only[labsL,labs,z1C,List.append_nil,List.mem_append,List.mem_singleton,not_or];exact⟨h1,h2⟩)
 have y1:rp (fun j=>findL j [.lst b [.int c2, .int x2], .lst (n1+1) (IL (List.range (ps.length+1)))]) (.lst b [.int c1, .int x1])= .lst b [.int c2, .int x2]:=by rw[rp,z1B (by rw[findT,if_pos rfl];rfl),findT,if_pos rfl]
 have y2:rp (fun j=>findL j [.lst b [.int c2, .int x2], .lst (n1+1) (IL (List.range (ps.length+1)))]) (Tn (n+1) t ps ds us)=Tn (n+1) t ps ds us:=z1h _ fun j hj=>by
  have lB:=W.lB
  have Bh:=W.Bh
  rcases z0z.1 hj with q|q
  ·exact off2 j (by have:=P.b1;lia) (by lia)
  ·have:=W.dd.lab q
   exact off2 j (fun e=>P.b2 (e▸q)) (by lia)
 have y3:rp (fun j=>findL j [.lst b [.int c2, .int x2], .lst (n1+1) (IL (List.range (ps.length+1)))]) (.lst (n+5) (ND ps cs))= .lst (n+5) (ND ps cs):=z1h _ fun j hj=>by
  have Bh:=W.Bh
  rcases nLab W hj with q|q
  ·exact off2 j (fun e=>P.b4 (e▸q)) (by lia)
  ·have:=W.dc.lab q
   exact off2 j (fun e=>P.b3 (e▸q)) (by lia)
 have y4:Option.map (rp (fun j=>findL j [.lst b [.int c2, .int x2], .lst (n1+1) (IL (List.range (ps.length+1)))])) o6=o6:=by
  cases o6 with
  |none=>rfl
  |some d=>
   rw[Option.map_some,z1h _ fun j hj=>by
    have:=P.o6 d rfl j hj
    exact off2 j this.2.2.1 (by lia)]
 have y5:rp (fun j=>findL j [.lst b [.int c2, .int x2], .lst (n1+1) (IL (List.range (ps.length+1)))]) (.lst n1 [])= .lst n1 []:=z1h _ fun j hj=>by
  simp only[labs,labsL,List.mem_singleton] at hj
  exact off2 j (by have:=P.hb;lia) (by lia)
 have e4:z0d z1s [(mVar 1),(mCB [(mCB [(mVar 3)] lenD)] lrM1)] ⟨[some (.ro (ns.map .int)),some (.lst b [.int c1, .int x1]),some (Tn (n+1) t ps ds us),some (.lst (n+5) (ND ps cs)),o4,o5,o6,some (.lst n1 []),none],[some (.ro (ns.map .int))],n1+1⟩= .ok (.lst (n1+2+1) (IL zs)) ⟨[some (.ro (ns.map .int)),some (.lst b [.int c2, .int x2]),some (Tn (n+1) t ps ds us),some (.lst (n+5) (ND ps cs)),o4,o5,o6,some (.lst n1 []),none],[some (.ro (ns.map .int))],n1+2+2⟩:=by
  walk_at ""
  rw[z4f,zfX (by rw[zl];lia),Int.toNat_natCast,zc3]
  walk_at ""
  rw[e3,z0s]
  ·simp only[z07,z0g,Option.map_some,Option.map_none,z0Y,y1,y2,y3,y4,y5,f4,f5]
  ·intro j hj
   simp only[labsL,labs,z1C,List.append_nil,List.mem_append,List.mem_singleton] at hj
   rcases hj with rfl|rfl
   ·exact z0h (d:= .lst j [.int c2, .int x2]) (by simp) (by rw[findT,if_pos rfl];rfl)
   ·exact z0h (d:= .lst (n1+1) (IL (List.range (ps.length+1)))) (by simp) (by rw[findT,if_pos rfl];rfl)
  ·intro e
   injection e with e _
   simp only[z07,z0g,Option.map_some,Option.map_none,z0Y,y1,y2,y3,y4,y5,f4,f5]
   simp only[e,and_self]
 obtain⟨s',e5,c3,x3,t3,us3,hs3,n3,p5,p8,rfl,hc3,P3,hn3,H3,hz3,hl3,g5,g8⟩:=z6h (K:=kLst) (g:= .nm 5) (b:=seqS qA qB) (P:=fun i s=> ∃(c x:Int) (t:Nat) (us:List (Option Nat)) (hs:List D) (m:Nat) (o5 o8:Option D),s=⟨[some (.ro (ns.map .int)),some (.lst b [.int c, .int x]),some (Tn (n+1) t ps ds us),some (.lst (n+5) (ND ps cs)),o4,o5,o6,some (.lst n1 hs),o8],[some (.lst (n1+2+1) (IL zs)),some (.ro (ns.map .int))],m⟩/\Bg c x/\Ph (n+6) b (n+1) (n+5) n1 t ps ds cs us o6/\n1+2+1<m/\Hel n1 m hs/\n1+2+1∉labsL hs/\hs.length<=4*i/\(∀f,Option.map (rp f) o5=o5)/\(∀f,Option.map (rp f) o8=o8))
  (item:=fun i=> .int (zs.getD i 0:Nat)) (N:=ps.length+1) (by
   rintro i s ⟨c,x,t,us,hs,m,o5,o8,rfl,_⟩
   show some ((IL zs)[i]?)=_
   by_cases hi:i<ps.length+1
   ·rw[if_pos hi,IL,List.getElem?_map,List.getD_eq_getElem?_getD,List.getElem?_eq_getElem (by lia)];rfl
   ·rw[if_neg hi,List.getElem?_eq_none (by simp[IL];lia)]) (by
   rintro i hi s ⟨c,x,t,us,hs,m,o5,o8,rfl,hc,P,hm,H,hz,hh,g5,g8⟩
   refine⟨_,rfl, ?_⟩
   have hk:zs.getD i 0<=ps.length:=by
    rw[List.getD_eq_getElem?_getD,List.getElem?_eq_getElem (by lia)]
    have:=zr zs[i] (List.getElem_mem _)
    simp only[Option.getD_some];lia
   obtain⟨hs1,m1,k1,k2,k3,k4,P1,e6⟩:=zfV (ns:=ns) (zs:=zs) (c:=c) (x:=x) (k:=zs.getD i 0) P hk f4 g8 (by lia) hm H hz (by lia)
   obtain⟨c7,x7,m7,p8,k5,k6,k7,e7⟩:=zfW (ns:=ns) (zs:=zs) (z:=n1+2+1) P1 hc f4 g8 (by lia) k2
   have e8:seqS qA qB ⟨st2 ns b c x (n+1) t ps ds us (n+5) cs o4 (zs.getD i 0) o6 n1 hs o8,[some (.lst (n1+2+1) (IL zs)),some (.ro (ns.map .int))],m⟩= .nx ⟨st2 ns b c7 x7 (n+1) (zs.getD i 0) ps ds (z0f ps 1000 us (zs.getD i 0)) (n+5) cs o4 (zs.getD i 0) o6 n1 hs1 p8,[some (.lst (n1+2+1) (IL zs)),some (.ro (ns.map .int))],m7⟩:=by rw[z2D,e6,z2g,e7]
   refine⟨_,e8,c7,x7,_,_,hs1,m7,some (.int (zs.getD i 0:Nat)),p8,rfl,k6,P1,by lia,k2.up k5,k4,by lia,fun _=>rfl,k7⟩) (ps.length+1) 0 ⟨[some (.ro (ns.map .int)),some (.lst b [.int c2, .int x2]),some (Tn (n+1) t ps ds us),some (.lst (n+5) (ND ps cs)),o4,o5,o6,some (.lst n1 []),none],[some (.lst (n1+2+1) (IL zs)),some (.ro (ns.map .int))],n1+2+2⟩ (by lia)
  ⟨c2,x2,t,us,[],n1+2+2,o5,none,rfl,hc2,P,by lia,⟨nofun,nofun⟩,by simp[labsL],by simp,f5,fun _=>rfl⟩
 obtain⟨σ9,n9,e9⟩:=zek (ns:=ns) (c:=c3) (x:=x3) P3 f4 g5 g8 (by lia) H3 (by lia)
 refine⟨n9, ?_⟩
 unfold f_law
 rw[e0]
 walk_at ""
 rw[show(0:Int)=((0:Nat):Int) from rfl,e1]
 walk_at ""
 rw[m1]
 walk_at ""
 rw[hM,z4F (by lia),Int.toNat_natCast]
 walk_at ""
 have e2':forGo (kRng 0 M) (.nm 4) turnM M 0 ⟨[some (.ro (ns.map .int)),some (.lst n [.int c, .int x]),some (T0 (n+1)),some (.lst (n+1+4) [.tup [.int ((0:Nat):Int), .tup []]]),none,none,none,none,none],[some (.ro (ns.map .int))],n+1+4+1⟩=_:=e2
 rw[e2',z2g,z2D]
 have e10:sAsg (.nm 7) (mCB [] lstM) ⟨st1 ns b c1 x1 (n+1) t ps ds us (n+5) cs o4 o5 o6 none none,[some (.ro (ns.map .int))],n1⟩= .nx ⟨[some (.ro (ns.map .int)),some (.lst b [.int c1, .int x1]),some (Tn (n+1) t ps ds us),some (.lst (n+5) (ND ps cs)),o4,o5,o6,some (.lst n1 []),none],[some (.ro (ns.map .int))],n1+1⟩:=by
  walk_at ""
 have e11:sFor (z0W (z0d z1s [(mVar 1),(mCB [(mCB [(mVar 3)] lenD)] lrM1)])) (.nm 5) (seqS qA qB) ⟨[some (.ro (ns.map .int)),some (.lst b [.int c1, .int x1]),some (Tn (n+1) t ps ds us),some (.lst (n+5) (ND ps cs)),o4,o5,o6,some (.lst n1 []),none],[some (.ro (ns.map .int))],n1+1⟩=forGo kLst (.nm 5) (seqS qA qB) (ps.length+1) 0 ⟨[some (.ro (ns.map .int)),some (.lst b [.int c2, .int x2]),some (Tn (n+1) t ps ds us),some (.lst (n+5) (ND ps cs)),o4,o5,o6,some (.lst n1 []),none],[some (.lst (n1+2+1) (IL zs)),some (.ro (ns.map .int))],n1+2+2⟩:=by
  rw[zdP]
  unfold z0W
  rw[x_bd,e4,z2Y]
  show forGo kLst _ _ (kLst.len [some (.lst (n1+2+1) (IL zs)),some (.ro (ns.map .int))]) 0 _=_
  rw[show kLst.len [some (.lst (n1+2+1) (IL zs)),some (.ro (ns.map .int))]=ps.length+1 by show(IL zs).length=_;simp[IL,zl2]]
  rfl
 rw[e10,z2g,z2D,e11,e5,z2g]
 have e12:endM (Stt.popn ⟨[some (.ro (ns.map .int)),some (.lst b [.int c3, .int x3]),some (Tn (n+1) t3 ps ds us3),some (.lst (n+5) (ND ps cs)),o4,p5,o6,some (.lst n1 hs3),p8],[some (.lst (n1+2+1) (IL zs)),some (.ro (ns.map .int))],n3⟩ kLst.k)=_:=e9
 rw[e12]
 walk_at ""
end My
set_option maxHeartbeats 4000000
namespace Mi
open PySem L2 PySem.Spec PyProof.Rows
noncomputable def z90(K:W.Frag)(np:Nat)(f:FM):Sp:=fun vs H Q E=>vs.length=np/\∀G:Gx,G.K=K->KD K H->spM G np f vs H Q E
theorem zem{P:Program}{w:World}{K:W.Frag}{mg:Str->Option Value}{base:Heap}{CX:CXT}{k:Nat}{fa:Addr}{fd:FuncData}{x:Str}{f:FM}{G:Gx}(hG:G.K=K)(F:FnOk P w K mg base CX k fa fd [x] (spM G 1 f)):FnOk P w K mg base CX k fa fd [x] (z90 K 1 f):=
 ⟨fun _ _ _ _ h=>h.1,fun A outer s H args us vs Q E hr e0 hb hv h=>F.run A outer s H args us vs Q E hr e0 hb hv (h.2 G hG fun a o e=>(e0.bs a o (e0.mod.kin a o e)).2)⟩
theorem RDs.ints{G:Gx}{ρ:Nat->Addr}{H:Hp}: ∀ns:List Int,RDs G ρ H (ns.map D.int) (ns.map V.int)
 |[]=>by simp only[List.map_nil,RDs]
 |n::ns=>by
  simp only[List.map_cons,RDs]
  exact⟨_,_,rfl,by simp only[RD],RDs.ints ns⟩
theorem z5Q: ∀ns:List Int,labsL (ns.map D.int)=[]
 |[]=>by simp only[List.map_nil,labsL]
 |n::ns=>by simp only[List.map_cons,labsL,labs,z5Q ns,List.nil_append]
theorem zen{K:W.Frag}{H:Hp}{a:Addr}{ns:List Int}{f:FM}{E:XK}(e: ∀n,∃n',f [.ro (ns.map D.int)] n= .ok (.bool true) [.ro (ns.map D.int)] n')(hO:Only H)(hS:SqL K H a (ns.map V.int)):z90 K 1 f [.ref a] H (fun v _=>v= .bl true) E:=by
 refine⟨rfl,fun G hG kd=> ?_⟩
 subst hG
 refine⟨rfl,fun _=>a,0,[.ro (ns.map D.int)], ?_,fun i j hi=>absurd hi (Nat.not_lt_zero _),fun l hl=>absurd hl (Nat.not_lt_zero _),fun l hl=> ?_,kd, ?_⟩
 ·simp only[RDs,RD]
  refine⟨_,_,rfl,⟨a,ns.map V.int,rfl, ?_,RDs.ints ns⟩,rfl⟩
  rcases hS with(h|h)|h
  ·rcases hO a with z|⟨o,xs,z⟩<;>rw[h] at z<;>cases z
  ·exact .inl h
  ·exact .inr h
 ·simp only[labsL,labs,z5Q,List.append_nil] at hl
  cases hl
 ·obtain⟨n',e⟩:=e 0
  rw[e]
  intro ρ' v H' _ rd _
  simp only[RD] at rd
  exact rd
end Mi
namespace My
open PySem L2 Mi
structure DA(K:W.Frag)(x:Str)(st:Stmt)(f:Addr)(d:FuncData):Prop where
 a:W.nsIn K mainGlobals x=some (some (.ref f))
 F:Fun K x x st f d
theorem zfY{K:W.Frag}{x:Str}{st:Stmt}{f:Addr}{oc:Value}{od an:Option Addr}{sl:Array (Option Value)}{kV dc pm cd ct:Value}(a:W.nsIn K mainGlobals x=some (some (.ref f)))
 (l:K.lookup f=some ⟨oc,od, .func (W.fnOf x x (z1y st) (z0p st) (z00 st) .none kV dc pm an cd ct),sl⟩) (c:W.codeIn K cd x=true) (k:W.keepIn K (.ref f)=true):
 DA K x st f (W.fnOf x x (z1y st) (z0p st) (z00 st) .none kV dc pm an cd ct):=⟨a,za8 l c k⟩
noncomputable def dx{K:W.Frag}{h:Heap}{mg:Str->Option Value}{x:Str}{st:Stmt}{f:Addr}{d:FuncData}{ps:List Str}(X:K.In h)(G:h.Ns mainGlobals mg)(a:DA K x st f d)
 (b: ∀(kV dc pm:Value) (an:Option Addr) (cd ct:Value) (us:List Value),us.length=ps.length->bindArgs (W.fnOf x x (z1y st) (z0p st) (z00 st) .none kV dc pm an cd ct) ⟨us,[]⟩=pure (ps.zip us)):Dx K mg x st ps:=
 ⟨f,d,a.F,a.F.binds b,W.mg_of X G a.a⟩
structure DM(K:W.Frag)(C:Addr)(x q:Str)(st:Stmt)(f:Addr)(d:FuncData):Prop where
 h:Meth K C x f
 F:Fun K x q st f d
theorem zfZ{K:W.Frag}{C:Addr}{x q:Str}{st:Stmt}{f:Addr}{oc:Value}{od an:Option Addr}{sl:Array (Option Value)}{kV dc pm cd ct:Value}(a:W.findIn K (.ref C) x=some (some (.ref f)))
 (l:K.lookup f=some ⟨oc,od, .func (W.fnOf x q (z1y st) (z0p st) (z00 st) .none kV dc pm an cd ct),sl⟩) (c:W.codeIn K cd q=true) (i:W.isFn K (.ref f)=true) (k:W.keepIn K (.ref f)=true):
 DM K C x q st f (W.fnOf x q (z1y st) (z0p st) (z00 st) .none kV dc pm an cd ct):=⟨⟨a,i,k⟩,za8 l c k⟩
noncomputable def dmx{K:W.Frag}{C:Addr}{x q:Str}{st:Stmt}{f:Addr}{d:FuncData}{ps:List Str}(a:DM K C x q st f d)
 (b: ∀(kV dc pm:Value) (an:Option Addr) (cd ct:Value) (us:List Value),us.length=ps.length->bindArgs (W.fnOf x q (z1y st) (z0p st) (z00 st) .none kV dc pm an cd ct) ⟨us,[]⟩=pure (ps.zip us)):Dm K C x q st ps:=
 ⟨f,d,a.F,a.F.binds b,a.h⟩
theorem zeo{l:W.OpenLaw}{w:World}{K:W.Frag}{h:Heap}{mg:Str->Option Value}{fa f0 f1 f2 f3 f4 f5 f6 f7 f8 f9 f10 f11 f12 f13 f14 f15 f16 f17 f18 f19 f20 f21:Addr}{d0 d1 d2 d3 d4 d5 d6 d7 d8 d9 d10 d11 d12 d13 d14 d15 d16 d17 d18 d19 d20 d21:FuncData}(X:K.In h)(G:h.Ns mainGlobals mg)(hfa:mg "law" =some (.ref fa))
 {kbj:Addr} (kbd:nI K "Tree" kbj) (cc_Tree:Cls K kbj)
 (a0:DA K "_wall" z3P f0 d0)
 (a1:DA K "is_number" z1P f1 d1)
 (a2:DA K "is_whole" z2c f2 d2)
 (a3:DA K "copied" z3c f3 d3)
 (a4:DA K "_law_bag" z62 f4 d4)
 (a5:DA K "_law_take" z4W f5 d5)
 (a6:DA K "_law_copy" z4X f6 d6)
 (a7:DA K "_law_change" z3d f7 d7)
 (a8:DA K "_law_alone" z3Q f8 d8)
 (a9:DA K "_law_mixed" z3R f9 d9)
 (a10:DA K "_law_deed" z4Y f10 d10)
 (a11:DA K "_law_apart" z3S f11 d11)
 (a12:DA K "_law_shown" z3T f12 d12)
 (a13:DA K "_law_none" z4Z f13 d13)
 (a14:DA K "law" zbr f14 d14)
 (a15:DM K kbj "__init__" "Tree.__init__" z14 f15 d15)
 (a16:DM K kbj "do" "Tree.do" z2w f16 d16)
 (a17:DM K kbj "go" "Tree.go" z2x f17 d17)
 (a18:DM K kbj "stand_at" "Tree.stand_at" z15 f18 d18)
 (a19:DM K kbj "here" "Tree.here" z1Q f19 d19)
 (a20:DM K kbj "path" "Tree.path" z1R f20 d20)
 (a21:DM K kbj "under" "Tree.under" z1z f21 d21)
 (z0:W.nsIn K mainGlobals "ValueError" =some none)
 (z1:W.nsIn K mainGlobals "abs" =some none)
 (z2:W.nsIn K mainGlobals "all" =some none)
 (z3:W.nsIn K mainGlobals "bool" =some none)
 (z4:W.nsIn K mainGlobals "enumerate" =some none)
 (z5:W.nsIn K mainGlobals "int" =some none)
 (z6:W.nsIn K mainGlobals "isinstance" =some none)
 (z7:W.nsIn K mainGlobals "len" =some none)
 (z8:W.nsIn K mainGlobals "list" =some none)
 (z9:W.nsIn K mainGlobals "max" =some none)
 (z10:W.nsIn K mainGlobals "min" =some none)
 (z11:W.nsIn K mainGlobals "range" =some none)
 (z12:W.nsIn K mainGlobals "repr" =some none)
 (z13:W.nsIn K mainGlobals "tuple" =some none)
 {kaX:Addr}
 (q1:nI K "Barred" kaX)
 {kai:Addr}
 (q3:nI K "BenchError" kai)
 {kbg:Addr}
 (q5:nI K "Fight" kbg)
 {kbi:Addr}
 (q7:nI K "Full" kbi)
 {kaZ:Addr}
 (q9:nI K "Marked" kaZ)
 {kaT:Addr}
 (q11:nI K "Missing" kaT)
 {kaz:Addr}
 (q13:nI K "NoChoice" kaz)
 {kap:Addr}
 (q15:nI K "NoCutting" kap)
 {ka9:Addr}
 (q17:nI K "NoDeed" ka9)
 {ka6:Addr}
 (q19:nI K "NoMark" ka6)
 {ka5:Addr}
 (q21:nI K "NoNode" ka5)
 {kaN:Addr}
 (q23:nI K "NoPlace" kaN)
 {kau:Addr}
 (q25:nI K "NoSaying" kau)
 {kak:Addr}
 (q27:nI K "NoStanding" kak)
 {kaR:Addr}
 (q29:nI K "NoTable" kaR)
 {kaW:Addr}
 (q31:nI K "NoText" kaW)
 {ka2:Addr}
 (q33:nI K "NoTurn" ka2)
 {ka3:Addr}
 (q35:nI K "NoWish" ka3)
 {kaY:Addr}
 (q37:nI K "NoWord" kaY)
 {kaU:Addr}
 (q39:nI K "Nothing" kaU)
 {kaV:Addr}
 (q41:nI K "TooLong" kaV)
 {kaL:Addr}
 (q43:nI K "TooMany" kaL)
 {kbh:Addr}
 (q45:nI K "Twice" kbh)
 {kbf:Addr}
 (q47:nI K "Waits" kbf)
 (q48:xA K ka5)
 (q49:mO K ka5 "object")
 (q50:mO K ka5 "BaseException")
 (q51:fA K ka5)
 (q52:fB K ka5)
 (q53:fC K ka5)
 (q54:eB K ka5 kai)
 (q55:kN K ka5 [kaX,kaZ,ka9,ka6,kaN,kak,kaV,kaY,kbh,kaL,kbi])
 (q56:kN K ka5 [kaT,kaz,kaW,kaU,ka3,kbg,kap,kbf,ka2])
 (q57:kN K ka5 [kaR,kau])
 (q58:kV K ka5)
 (q59:kF K ka5 ka5 true)
 (q60:z0t K kbj "above")
 (q61:z0t K kbj "at")
 (q62:z0t K kbj "deeds")
 (q63:z0t K kbj "last_under")
 (q64:Mk K kbj f15)
 (q65:[ka5,kbj].Nodup)
 : ∃fd:FuncData,(∀(s:Shared) (v:Value),BindsTo s fd ⟨[v],[]⟩ [("_law_script",v)])/\∀base:Heap,K.In base->base.Ns mainGlobals mg->FnOk l.prog w K mg base CX0 16 fa fd ["_law_script"] (z90 K 1 f_law):=by
 have e:=hfa.symm.trans (W.mg_of X G a14.a)
 cases e
 obtain⟨oc,od,kV,doc,pm,an,cdv,ct,osl,rfl,lk,hcd⟩:=a14.F.ex
 exact⟨_,fun s v=> .of_eq rfl,fun base _ _=>zem rfl (zdA ⟨kbj,W.mg_of X G kbd,cc_Tree,dx X G a0 fun _ _ _ _ _ _ us hl=>match us,hl with|[_],_=>rfl,dx X G a1 fun _ _ _ _ _ _ us hl=>match us,hl with|[_],_=>rfl,dx X G a2 fun _ _ _ _ _ _ us hl=>match us,hl with|[_,_,_],_=>rfl,dx X G a3 fun _ _ _ _ _ _ us hl=>match us,hl with|[_],_=>rfl,dx X G a4 fun _ _ _ _ _ _ us hl=>match us,hl with|[_,_],_=>rfl,dx X G a5 fun _ _ _ _ _ _ us hl=>match us,hl with|[_,_],_=>rfl,dx X G a6 fun _ _ _ _ _ _ us hl=>match us,hl with|[_],_=>rfl,dx X G a7 fun _ _ _ _ _ _ us hl=>match us,hl with|[_],_=>rfl,dx X G a8 fun _ _ _ _ _ _ us hl=>match us,hl with|[_],_=>rfl,dx X G a9 fun _ _ _ _ _ _ us hl=>match us,hl with|[_,_],_=>rfl,dx X G a10 fun _ _ _ _ _ _ us hl=>match us,hl with|[_,_],_=>rfl,dx X G a11 fun _ _ _ _ _ _ us hl=>match us,hl with|[_,_],_=>rfl,dx X G a12 fun _ _ _ _ _ _ us hl=>match us,hl with|[_,_,_,_],_=>rfl,dx X G a13 fun _ _ _ _ _ _ us hl=>match us,hl with|[_,_],_=>rfl,dx X G a14 fun _ _ _ _ _ _ us hl=>match us,hl with|[_],_=>rfl,dmx a15 fun _ _ _ _ _ _ us hl=>match us,hl with|[_],_=>rfl,dmx a16 fun _ _ _ _ _ _ us hl=>match us,hl with|[_,_],_=>rfl,dmx a17 fun _ _ _ _ _ _ us hl=>match us,hl with|[_,_],_=>rfl,dmx a18 fun _ _ _ _ _ _ us hl=>match us,hl with|[_,_],_=>rfl,dmx a19 fun _ _ _ _ _ _ us hl=>match us,hl with|[_],_=>rfl,dmx a20 fun _ _ _ _ _ _ us hl=>match us,hl with|[_],_=>rfl,dmx a21 fun _ _ _ _ _ _ us hl=>match us,hl with|[_],_=>rfl,W.mg_none_of X G z0,W.mg_none_of X G z1,W.mg_none_of X G z2,W.mg_none_of X G z3,W.mg_none_of X G z4,W.mg_none_of X G z5,W.mg_none_of X G z6,W.mg_none_of X G z7,W.mg_none_of X G z8,W.mg_none_of X G z9,W.mg_none_of X G z10,W.mg_none_of X G z11,W.mg_none_of X G z12,W.mg_none_of X G z13,kaX,W.mg_of X G q1,kai,W.mg_of X G q3,kbg,W.mg_of X G q5,kbi,W.mg_of X G q7,kaZ,W.mg_of X G q9,kaT,W.mg_of X G q11,kaz,W.mg_of X G q13,kap,W.mg_of X G q15,ka9,W.mg_of X G q17,ka6,W.mg_of X G q19,ka5,W.mg_of X G q21,kaN,W.mg_of X G q23,kau,W.mg_of X G q25,kak,W.mg_of X G q27,kaR,W.mg_of X G q29,kaW,W.mg_of X G q31,ka2,W.mg_of X G q33,ka3,W.mg_of X G q35,kaY,W.mg_of X G q37,kaU,W.mg_of X G q39,kaV,W.mg_of X G q41,kaL,W.mg_of X G q43,kbh,W.mg_of X G q45,kbf,W.mg_of X G q47,q48,q49,q50,q51,q52,q53,q54,q55,q56,q57,q58,q59,q60,q61,q62,q63,q64,q65⟩)⟩
theorem walk{l:W.OpenLaw}{q:Program}{loose:List Str}{XP:(Str->Option Value)->Heap->Prop}{YP:World->Heap->Prop}{d:DefRec}{K:Params->W.Frag}(hn:l.most=some 63)(hdf:d.params.defaults=[])
 (hY: ∀(w:World) (h:Heap),YP w h->(K w.params).In h)
 (F: ∀(w:World) (mg:Str->Option Value) (fa:Addr) (h:Heap),(K w.params).In h->h.Ns mainGlobals mg->mg d.name=some (.ref fa)->
  ∃fd:FuncData,(∀(s:Shared) (u:Value),BindsTo s fd ⟨[u],[]⟩ [("_law_script",u)])/\∀base:Heap,(K w.params).In base->base.Ns mainGlobals mg->FnOk l.prog w (K w.params) mg base CX0 16 fa fd ["_law_script"] (z90 (K w.params) 1 f_law)):
 W.WalkO q loose XP YP l.row.toRowW d [] (fun f vs=>PySem.call f vs):=
 L2.zaV (n:=63) (k:=16) (x:= "_law_script") (CX:=fun _=>CX0) (sp:=fun w=>z90 (K w.params) 1 f_law) hn (by decide) hdf ⟨rfl,by decide,by decide,rfl⟩ hY F (fun _ _ a ns hl hO hS=>zen (fun n=>zel ns (by lia) n) hO hS) fun _ _ _ _ _ h=>h.elim
end My
inductive PySem.W.Fast:Prop|tw3902088896216379084|tw14959905945118821556|tw14067987691644929487|tw4817572149246065495|tw6960290286567346750|tw11074758141819547300|tw939811362323528519|tw9028416941720079062|tw6781456909915235581|tw3018894573464258476|tw14171690797303231341|tw13273441345626110367|tw13010064906095022810|tw14177480492408378405|tw8754738291223030060|tw9451194397124153556|tw10429486112406863797|tw12628386835006586325|tw5192242637178676446|tw17036023104439252302|tw3567402285712772031|tw3393933755760496747|tw959561202041062976|tw1820045917034363983|tw10497706457446345882|tw13248912866547819490|tw18042068340722412474|tw2934298885253838807|tw5662199400269757481|tw13938880128893504195|tw9780086411096752253|tw8487427457915219535|tw5912347513434509688|tw5438237298985567149|tw10779687823204964591|tw8102729439327101241|tw11788622041528128574|tw15326889368774696375|tw12066677922512290747|tw8290703297392375961|tw18396965396956854639|tw3637527366962044912|tw9257344792276936780|tw9452996300634663227|tw1756139630353937802|tw14721824334947279225|tw9134907124559401542|tw2294379822284465821|tw12714835207815552494|tw12327916323953509891|tw1645217551675116664|tw3598585336915206142|tw3498622305869017059|tw16006412289342740479|tw3773376380351645195|tw8779934492580804620|tw4467537215666885619|tw2049232000939660284|tw4608243945009249272|tw16478593164662321989|tw5083935805834204860|tw11163746919300293004|tw15035054541165900089|tw9319831306886242743|tw10635852443525481613|tw11214426621095780126|tw2332096043475022565|tw8349175838587414941|tw1331093169480137011|tw788093550703880371|tw14886953275682904235|tw16575943996967956799|tw14887623363725066954|tw11373308472474432717|tw16261965585391459723|tw7205086187205470533|tw14115703350860751364|tw15126687618202856650|tw5782395612947666421|tw10148729270262014466|tw2564334839284767407|tw5860648289590274867|tw16289268217586555190|tw13087367574365915591|tw12016327405910573628|tw5655160836374717782|tw3057274350670436510|tw492839783427448915|tw13516254284622657043|tw1769619516721030685|tw5928443793353679163|tw5982717132207645743
open PySem PySem.W PyProof.Rows
set_option maxRecDepth 100000 in
set_option maxHeartbeats 0 in
theorem PySem.Challenge.cw_signbench_k56_gone_to_any_deed_holds : PySem.Challenge.rw_signbench_k56_gone_to_any_deed.Holds := by
 w_on;o_law;k_head;(case hw=>w_witness2)
 k_fill
 refine My.walk (l:=PySem.Challenge.rw_signbench_k56_gone_to_any_deed) rfl rfl (fun w h Y=>PySem.W.kIn_of Y) ?F
 case F=>
  intro w mg fa h KX G hmg
  apply My.zeo KX G hmg<;>(try delta My.nI My.kF My.kN My.kV My.fA My.fB My.fC My.xA My.mO My.eB)<;>first|(apply My.zfY<;>k_is)|(apply My.zfZ<;>k_is)|(apply L2.Cls.mk<;>k_is)|(apply L2.Mk.mk<;>k_is)|k_is|kernel_rfl|rfl|decide
